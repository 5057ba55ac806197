/- General laws of walks. -/
import Derived.Test.YtkehgingagggaaaGreatG22
import Derived.Test.YtkehgingagggaaaGreatG9
section
namespace Go.Proofs.YtkehgingagggaaaGreat.K
open Go.ChangeShapes Go.WideShapes Go.ChangeAt Go.RowKit Go.Sort
set_option linter.unusedVariables false
set_option linter.unusedSimpArgs false
theorem fl44map : flatS Tryz.prog 44 [.int .i64 0, .int .i64 0, .int .i64 0, .int .i64 0, .slice none 0 0] = true := by kernel_rfl
def idsL (L : List VolV) : List Int := (L.map (·.vo)).mergeSort fun x y => decide (x ≤ y)
theorem ids_len {L : List VolV} : (idsL L).length = (L.map (·.vo)).length := by simp [idsL]
theorem ids_mem {L : List VolV} {id : Int} (h : id ∈ idsL L) : ∃ y ∈ L, y.vo = id := by
 have := (List.mem_mergeSort).1 h
 obtain ⟨y, h1, h2⟩ := List.mem_map.1 this
 exact ⟨y, h1, h2⟩
def allL (L : List VolV) : List VolV := (idsL L).map (fun id => (L.find? (fun y => decide (y.vo = id))).getD volZ)
theorem all_len {L : List VolV} : (allL L).length = (idsL L).length := by simp [allL]
theorem all_at {L : List VolV} {k : Nat} {id : Int} (h : (idsL L)[k]? = some id) : ∃ (j : Nat) (y : VolV), L[j]? = some y ∧ y.vo = id ∧ (allL L)[k]? = some y := by
 obtain ⟨y, h1, h2⟩ := ids_mem (List.mem_of_getElem? h)
 cases hf : L.find? (fun y => decide (y.vo = id)) with
 | none => exact absurd h2 (by simpa using List.find?_eq_none.1 hf y h1)
 | some z =>
   obtain ⟨j, hj⟩ := List.getElem?_of_mem (List.mem_of_find?_eq_some hf)
   refine ⟨j, z, hj, by simpa using List.find?_some hf, ?_⟩
   rw [allL, List.getElem?_map, h]
   show some ((L.find? _).getD volZ) = _
   rw [hf]; rfl
theorem all_snoc9 {L : List VolV} {k : Nat} {y : VolV} (h : (allL L)[k]? = some y) : ((allL L).take (k + 1)).map volD = ((allL L).take k).map volD ++ [volD y] := by
 rw [List.take_add_one, h, List.map_append]; rfl
theorem VolS.cp {n : Nat} {x : VolV} (h : VolS n x) (hn : n ≤ 800000) : x.place.length ≤ 1000000 ∧ x.pins.length ≤ 1000000 ∧ x.ws.length ≤ 1000000 ∧ WrsOk x.ws := by
 have h2 := h.sm
 obtain ⟨g1, g2, g3, g4, g5⟩ := h
 exact ⟨by omega, by omega, by omega, g1.its.1⟩
theorem app_all {α : Type} {l : List α} {x : α} {Q : α → Prop} (h : ∀ e ∈ l, Q e) (hx : Q x) : ∀ e ∈ l ++ [x], Q e := fun e he => by
 rcases List.mem_append.1 he with he | he
 · exact h e he
 simp at he; subst he; exact hx
theorem app_nodup {dn : List MapEntry} {e : MapEntry} (h : (dn.map (·.born)).Nodup) (hn : e.born ∉ dn.map (·.born)) : ((dn ++ [e]).map (·.born)).Nodup := by
 rw [List.map_append]
 refine List.nodup_append.2 ⟨h, by simp, fun a ha b hb => ?_⟩
 simp at hb; subst hb
 intro e9; subst e9; exact hn ha
theorem push_born {dn : List MapEntry} {e : MapEntry} : (dn.map (·.born)).toArray.push e.born = ((dn ++ [e]).map (·.born)).toArray := by simp
theorem ids_perm {dn es : List MapEntry} {ck : Nat} {zs : List Int} {L : List VolV} (h1 : ∀ e ∈ dn, e ∈ es) (h2 : (dn.map (·.born)).Nodup) (h3 : MapK es ck) (h4 : ∀ e ∈ es, e.born ∈ dn.map (·.born)) (h5 : dn.map (·.key) = zs.map (Value.int .i64)) (h6 : es.map (·.key) = L.map keyV) : zs.Perm (L.map (·.vo)) := by
 have hp := (perm_born h1 h2 h3.bn h4).map (·.key)
 rw [h5, h6] at hp
 have hq := hp.map (fun v => match v with | .int _ z => z | _ => 0)
 simpa [List.map_map, Function.comp_def, keyV] using hq
theorem sort_ids {zs : List Int} {L : List VolV} (h : zs.Perm (L.map (·.vo))) : zs.mergeSort (fun x y => decide (x ≤ y)) = idsL L :=
 pins_eq ((List.mergeSort_perm _ _).trans (h.trans (List.mergeSort_perm _ _).symm)) (sortP_sorted _) (sortP_sorted _)
open Classical in
noncomputable def mApp (L : List VolV) (c : Cm) : List VolV × Int × Int × Int × Int :=
 if c.kd = 1 then (if (∃ y ∈ L, y.vo = c.vo) then (L, 29, 0, 0, 0) else if NewOk c.vo c.bl c.sz c.pe c.to c.pl then (L ++ [newV c.vo c.bl c.sz c.pe c.to c.pl], 0, 0, 0, 0) else (L, 23, 0, 0, 0))
 else match L.findIdx? (fun y => decide (y.vo = c.vo)) with
   | none => (L, 28, 0, 0, 0)
   | some j => (L.set j (doV (L.getD j volZ) c).1, (doV (L.getD j volZ) c).2, (repV (doV (L.getD j volZ) c).1 (doV (L.getD j volZ) c).2).1, (repV (doV (L.getD j volZ) c).1 (doV (L.getD j volZ) c).2).2.1, (repV (doV (L.getD j volZ) c).1 (doV (L.getD j volZ) c).2).2.2)
theorem create_x (X : Cx) (B G : Nat) (L : List VolV) (x : Cm) (hR : CmdR x) (hk : x.kd = 1) (pp pi : Option Addr) (cp ni ci : Nat) (w0 : World) (m0 : MemOk X w0 [(1, .box B 87 [.map (some G)]), (2, .mp G 11 ((L).map keyV) ((L).map volD)), (3, .dat (.slice pp x.pl.length cp) (.ns .i64 x.pl)), (4, .dat (.slice pi ni ci) (.l 2 (x.its.map itD)))] w0) :
   Calls Tryz.prog 47 #[.pointer (some ⟨B, 0, none⟩), .agg #[.int .i64 x.kd, .int .i64 x.vo, .int .i64 x.bl, .int .i64 x.sz, .int .i64 x.pe, .slice pp x.pl.length cp, .int .i64 x.to, .int .i64 x.at0, .int .i64 x.ix, .slice pi ni ci]] w0 fun e w' => ∃ (L' : List VolV) (e9 : Int), e = .returned (.int .i64 e9) ∧ mApp L x = (L', e9, 0, 0, 0) ∧ MemOk X w0 [(1, .box B 87 [.map (some G)]), (2, .mp G 11 ((L').map keyV) ((L').map volD))] w' := by
 by_cases hex : ∃ y ∈ L, y.vo = x.vo
 · obtain ⟨y, hy, hv⟩ := hex
   obtain ⟨j, hj⟩ := List.getElem?_of_mem hy
   exact (create_ex X B G L x hR pp pi cp ni ci w0 j y hj hv m0).mono fun e w' h => ⟨L, 29, h.1, by rw [mApp, if_pos hk, if_pos ⟨y, hy, hv⟩], h.2⟩
 have hno : ∀ y ∈ L, y.vo ≠ x.vo := fun y hy e => hex ⟨y, hy, e⟩
 by_cases hN : NewOk x.vo x.bl x.sz x.pe x.to x.pl
 · exact (create_ok X B G L x hR pp pi cp ni ci w0 hno hN m0).mono fun e w' h => ⟨_, 0, h.1, by rw [mApp, if_pos hk, if_neg hex, if_pos hN], h.2⟩
 exact (create_bad X B G L x hR pp pi cp ni ci w0 hno hN m0).mono fun e w' h => ⟨_, 23, h.1, by rw [mApp, if_pos hk, if_neg hex, if_neg hN], h.2⟩
theorem do_x (X : Cx) (B G : Nat) (L : List VolV) (x : Cm) (hR : CmdR x) (pp pi : Option Addr) (cp ni ci : Nat) (w0 : World) (n : Nat) (hn : n ≤ 800000) (hV : ∀ y ∈ L, VolS n y) (hk : ¬ x.kd = 1) (m0 : MemOk X w0 [(1, .box B 87 [.map (some G)]), (2, .mp G 11 ((L).map keyV) ((L).map volD)), (3, .dat (.slice pp x.pl.length cp) (.ns .i64 x.pl)), (4, .dat (.slice pi ni ci) (.l 2 (x.its.map itD)))] w0) :
   Calls Tryz.prog 48 #[.pointer (some ⟨B, 0, none⟩), .agg #[.int .i64 x.kd, .int .i64 x.vo, .int .i64 x.bl, .int .i64 x.sz, .int .i64 x.pe, .slice pp x.pl.length cp, .int .i64 x.to, .int .i64 x.at0, .int .i64 x.ix, .slice pi ni ci]] w0 fun e w' => ∃ (L' : List VolV) (e9 rl rf rn : Int), e = .returned (.agg #[.int .i64 e9, .int .i64 rl, .int .i64 rf, .int .i64 rn, .slice none 0 0]) ∧ mApp L x = (L', e9, rl, rf, rn) ∧ MemOk X w0 [(1, .box B 87 [.map (some G)]), (2, .mp G 11 ((L').map keyV) ((L').map volD))] w' := by
 cases hf : L.findIdx? (fun y => decide (y.vo = x.vo)) with
 | none =>
   have hno : ∀ y ∈ L, y.vo ≠ x.vo := fun y hy => by simpa using List.findIdx?_eq_none_iff.1 hf y hy
   exact (do_no X B G L x hR pp pi cp ni ci w0 hno m0).mono fun e w' h => ⟨_, _, _, _, _, h.1, by rw [mApp, if_neg hk, hf], h.2⟩
 | some j =>
   obtain ⟨hjl, hv, _⟩ := List.findIdx?_eq_some_iff_getElem.1 hf
   have hj : L[j]? = some L[j] := List.getElem?_eq_getElem hjl
   have hv' : L[j].vo = x.vo := by simpa using hv
   refine (do_ex X B G L x hR pp pi cp ni ci w0 n hn hV j L[j] hj hv' m0).mono ?_
   rintro e w' ⟨z, e9, rl, rf, rn, he, hd, hr, hm⟩
   refine ⟨_, _, _, _, _, he, ?_, hm⟩
   have hg : L.getD j volZ = L[j] := by rw [List.getD, hj]; rfl
   rw [mApp, if_neg hk, hf]
   simp only [hg, hd, hr]
set_option maxRecDepth 100000
set_option maxHeartbeats 4000000
theorem apply_x (X : Cx) (B G : Nat) (L : List VolV) (x : Cm) (hR : CmdR x) (hby : ∀ e ∈ x.its, BytesL e.2) (n : Nat) (hn : n ≤ 800000) (hV : ∀ y ∈ L, VolS n y) (p : Option Addr) (c : Nat) (w0 : World) (m0 : MemOk X w0 [(1, .box B 87 [.map (some G)]), (2, .mp G 11 ((L).map keyV) ((L).map volD)), (3, .dat (.slice p (cmE x).length c) (.ns .u8 (cmE x)))] w0) :
   Calls Tryz.prog 14 #[.pointer (some ⟨B, 0, none⟩), .slice p (cmE x).length c] w0 fun e w' => ∃ (L' : List VolV) (e9 rl rf rn : Int), e = .returned (.agg #[.int .i64 e9, .int .i64 rl, .int .i64 rf, .int .i64 rn, .slice none 0 0]) ∧ mApp L x = (L', e9, rl, rf, rn) ∧ MemOk X w0 [(1, .box B 87 [.map (some G)]), (2, .mp G 11 ((L').map keyV) ((L').map volD))] w' := by
 refine ent2 Tryz.func14 rfl Tryz.ntmps14 fun Az Hz => ?_
 refine zsr fun K0 hK0 => ?_
 refine plz (e_alloc Hz m0 20 fct27 rfl fun g1 Az w2 Hz m2 _ _ => ?_)
 refine znl (hK0 _ _ ?_)
 refine zsr fun K1 hK1 => ?_
 refine goCh Hz (.move rfl .nil) fun Az Hz => ?_
 refine plz (ecl Hz Tryz.func28 rfl (readCmd_o _ x hR hby _ _ _ (m2.into [(1, 3)] (by decide) rfl)) ?_)
 rintro e w5 ⟨pp5, pi5, cp5, ci5, rfl, hm5⟩
 have mx5 := m2.back hm5 [(3, 1), (21, 2), (22, 3)] (by decide); clear hm5 m2
 have m5 := mx5.oz [3, 21, 22, 1, 2, 20]
 refine ⟨_, rfl, ?_⟩; intro Az Hz
 refine goCh Hz (.move rfl <| .extract rfl rfl <| .extract rfl rfl .nil) fun Az Hz => ?_
 refine plz (e_alloc Hz m5 23 fct24 rfl fun g10 Az w11 Hz m11 _ _ => ?_)
 refine plz (stw Hz m11 23 fct20 fun w12 m12 _ => ?_)
 refine gz hK1 Hz (.assign rfl .nil) fun Az Hz => ?_
 refine wsk fun K2 hK2 => ?_
 replace Hz := Hz.oz [0, 4, 5, 6]
 refine regS Hz (.move rfl <| .neq rfl rfl .nil) fun Az Hz => ?_
 refine bc Hz 13 ?_ ?_
 · intro hb _; exact absurd hb (by simp)
 clear Hz; intro _ Hz
 refine wcf Hz ?_
 refine zss (hK2 _ _ ?_)
 refine regS Hz (.fa 0 rfl U38 <| .lb m12 23 U3 rfl rfl rfl .nil) fun Az Hz => ?_
 refine wp_block ?_
 refine regS Hz (.eql rfl rfl <| .assign rfl .nil) fun Az Hz => ?_
 refine bc Hz 21 ?_ ?_
 ·
  intro hb22 Hz; try simp only [QQ, Qax] at hb22
  have hk1 : x.kd = 1 := hb22
  refine wct Hz ?_
  replace Hz := Hz.oz [0, 4, 5]
  refine zsr fun K3 hK3 => ?_
  refine goCh Hz (.move rfl <| .loadBR m12 (i := 23) rfl rfl U38 rfl fct20 (by simp) (by dsimp only [List.drop, List.take] <;> rfl) .nil) fun Az Hz => ?_
  refine plz (ecl Hz Tryz.func47 rfl (create_x _ _ _ L x hR hk1 _ _ _ _ _ _ (m12.into [(1, 1), (2, 2), (3, 21), (4, 22)] (by decide) rfl)) ?_)
  rintro e w28 ⟨L', e9, rfl, hap, hm28⟩
  have mx28 := m12.back hm28 [(1, 1), (2, 2)] (by decide); clear hm28 m12
  have m28 := mx28.oz [1, 2, 3, 20, 23]
  refine ⟨_, rfl, ?_⟩; intro Az Hz
  refine goCh Hz (.build rfl fct27 fl44map rfl (by dsimp only [setL, List.set] <;> rfl) .nil) fun Az Hz => ?_
  refine plz (stw Hz m28 20 fct26 fun w31 m31 _ => ?_)
  refine znl (hK3 _ _ ?_)
  refine rtd (retC (fn := Tryz.f14) Hz m31 (i := 20) rfl rfl rfl U44 rfl fct26 ?_)
  exact ⟨_, _, _, _, _, rfl, hap, m31.only [1, 2]⟩
 intro hb22 Hz; try simp only [QQ, Qax] at hb22
 have hk1 : ¬ x.kd = 1 := hb22
 refine wcf Hz ?_
 replace Hz := Hz.oz [0, 4, 5]
 refine zsr fun K4 hK4 => ?_
 refine goCh Hz (.move rfl <| .loadBR m12 (i := 23) rfl rfl U38 rfl fct20 (by simp) (by dsimp only [List.drop, List.take] <;> rfl) .nil) fun Az Hz => ?_
 refine plz (ecl Hz Tryz.func48 rfl (do_x _ _ _ L x hR _ _ _ _ _ _ n hn hV hk1 (m12.into [(1, 1), (2, 2), (3, 21), (4, 22)] (by decide) rfl)) ?_)
 rintro e w37 ⟨L', e9, rl, rf, rn, rfl, hap, hm37⟩
 have mx37 := m12.back hm37 [(1, 1), (2, 2)] (by decide); clear hm37 m12
 have m37 := mx37.oz [1, 2, 3, 20, 23]
 refine ⟨_, rfl, ?_⟩; intro Az Hz
 refine plz (stw Hz m37 20 fct26 fun w39 m39 _ => ?_)
 refine znl (hK4 _ _ ?_)
 refine rtd (retC (fn := Tryz.f14) Hz m39 (i := 20) rfl rfl rfl U44 rfl fct26 ?_)
 exact ⟨_, _, _, _, _, rfl, hap, m39.only [1, 2]⟩
theorem sortI_fr (X : Cx) (p : Option Addr) (c : Nat) (zs : List Int) (w0 : World) (hl : zs.length ≤ 1000000) (m0 : MemOk X w0 [(1, .seg (.slice p zs.length c) 3 1 (zs.map nD))] w0) :
   Calls Tryz.prog 98 #[.slice p zs.length c] w0 fun e w' => e = .returned (.tuple #[]) ∧ MemOk X w0 [(1, .seg (.slice p zs.length c) 3 1 ((zs.mergeSort fun x y => decide (x ≤ y)).map nD))] w' := by
 have hs := (seg_nums (m0.ok 1 _ rfl).1).2
 rcases hs with ⟨e1, h0⟩ | ⟨g, off, cap, cur, e1, -, hb, hnc, hcm, hcs, htk⟩
 · obtain rfl := List.length_eq_zero_iff.1 h0
   refine (AnyG.slices_Sort_int_none Tryz.sortI p c w0).mono ?_
   rintro e w' ⟨rfl, rfl⟩; exact ⟨rfl, by simpa using m0⟩
 injection e1 with h1 h2 h3; subst h1; subst h3
 refine (AnyG.slices_Sort_int Tryz.sortI g off c zs w0 (holds_at hb htk (by omega)) (Array.getElem?_eq_some_iff.1 hb).1 (by omega)).mono ?_
 rintro e w' ⟨rfl, n, os, rfl⟩
 exact ⟨rfl, (m0.putN 1 rfl (zs.mergeSort fun x y => decide (x ≤ y)) (by simp) n os).only [1]⟩
theorem ids_x (X : Cx) (B G : Nat) (L : List VolV) (w0 : World) (hL9 : L.length ≤ 1000) (m0 : MemOk X w0 [(1, .box B 87 [.map (some G)]), (2, .mp G 11 ((L).map keyV) ((L).map volD))] w0) :
   Calls Tryz.prog 51 #[.pointer (some ⟨B, 0, none⟩)] w0 fun e w' => ∃ (p : Option Addr) (c : Nat), e = .returned (.slice p (idsL L).length c) ∧ MemOk X w0 [(1, .box B 87 [.map (some G)]), (2, .mp G 11 ((L).map keyV) ((L).map volD)), (3, .seg (.slice p (idsL L).length c) 3 1 ((idsL L).map nD))] w' := by
 refine ent1 Tryz.func51 rfl Tryz.ntmps51 fun Az Hz => ?_
 refine regS Hz (.assign rfl .nil) fun Az Hz => ?_
 refine regS Hz (.assign rfl .nil) fun Az Hz => ?_
 refine wsk fun K0 hK0 => ?_
 refine zsr fun K1 hK1 => ?_
 refine goCh Hz (.move rfl <| .nilCheck rfl <| .fa 0 rfl U87 <| .lb m0 1 U85 rfl rfl rfl .nil) fun Az Hz => ?_
 obtain ⟨es11, ck11, hks11, hel11, hmk11, m11⟩ := m0.mpOpen (i := 2) rfl
 have hki11 := mpKeys hks11 keyI
 refine plz (e_range Hz m11 20 (i := 2) rfl rfl U85 rfl fun g12 Az w13 Hz m13 => ?_)
 refine znl (hK1 _ _ ?_)
 refine wp_block ?_
 refine wp_loop_ghost (fun g a w => ∃ (dn : List MapEntry) (zs : List Int) (p : Option Addr) (c gi : Nat), (∀ e ∈ dn, e ∈ es11) ∧ (dn.map (·.born)).Nodup ∧ dn.map (·.key) = zs.map (Value.int .i64) ∧ g = es11.length - dn.length ∧ Has 21 [(0, .pointer (some ⟨B, 0, none⟩)), (3, .slice p zs.length c), (9, .pointer (some ⟨gi, 0, none⟩))] a ∧ MemOk X w0 [(1, .box B 87 [.map (some G)]), (2, .mpE G 11 es11 ck11 (L.map volD)), (8, .obj gi (.mapIter (some G) ck11 (dn.map (·.born)).toArray ck11)), (7, .num (.slice p zs.length c) 3 .i64 zs)] w) (es11.length) ?_ ?_
 · have mz := m13.nilN 7 3 .i64
   exact ⟨[], [], _, _, _, (fun e he => by cases he), List.nodup_nil, rfl, rfl, Hz.only [0, 3, 9], mz.ren [(1, 1), (2, 2), (8, 20), (7, 7)] (by decide)⟩
 clear Hz m13
 rintro g Az w14 ⟨dn, zs, p, c, gi, hds, hnb, hdk, hg, Hz, m14⟩
 refine zsr fun K2 hK2 => ?_
 refine plz (e_nextU Hz m14 (i := 2) (i2 := 8) rfl rfl rfl rfl fun b15 tl15 o15 Az w15 Hz m15 hF15 => ?_)
 refine gz hK2 Hz (.extract rfl rfl .nil) fun Az Hz => ?_
 refine wsk fun K3 hK3 => ?_
 refine bc Hz 11 ?_ ?_
 ·
  intro hb17 Hz; try simp only [QQ, Qax] at hb17
  obtain ⟨e9, he9, hb9, ho9⟩ : ∃ e ∈ es11, e.born ∉ (dn.map (·.born)).toArray ∧ o15 = .mapIter (some G) ck11 ((dn.map (·.born)).toArray.push e.born) ck11 := by
    rcases hF15 with ⟨h1, _⟩ | ⟨_, e, h1, h2, h3⟩
    · rw [h1] at hb17; cases hb17
    exact ⟨e, h1, h2, h3⟩
  revert Hz
  subst ho9
  intro Hz
  obtain ⟨z9, hz9⟩ := hki11 e9 he9
  have hb8 : e9.born ∉ dn.map (·.born) := by simpa using hb9
  have hd2 : ∀ e ∈ dn ++ [e9], e ∈ es11 := app_all hds he9
  have hn2 : ((dn ++ [e9]).map (·.born)).Nodup := app_nodup hnb hb8
  refine wct Hz ?_
  refine zss (hK3 _ _ ?_)
  refine wp_block ?_
  refine regS Hz (.c rfl (fun _ h_ => y_entryK h_ m15 (i := 2) (i2 := 8) rfl rfl rfl he9 hz9) <| .extract rfl rfl <| .assign rfl .nil) fun Az Hz => ?_
  refine wp_region_lit ?_
  refine goCh Hz (.move rfl <| .move rfl .nil) fun Az Hz => ?_
  refine plz (e_litN Hz m15 100 (k := .i64) rfl rfl U35 fct17 rfl rfl rfl rfl fun g23 Az w24 Hz m24 => ?_)
  refine plz (e_appN Hz m24 7 rfl rfl rfl (m24.numsO (i := 100) rfl) U35 fct17 (by decide) (by have h8 := sub_len hds hnb; have h9 := congrArg List.length hdk; have h7 := hel11; rw [List.length_map] at h7; rw [List.length_map, List.length_map] at h9; try simp only [List.length_cons, List.length_nil]; omega) rfl fun p25 c25 Az w26 Hz m26 => ?_)
  refine goCh Hz (.assign rfl .nil) fun Az Hz => ?_
  refine wpList_nil ?_
  show ∃ n', n' < _ ∧ _
  rw [push_born] at m26
  exact ⟨es11.length - (dn.length + 1), by have := sub_len hd2 hn2; rw [List.length_append, List.length_singleton] at this; omega, dn ++ [e9], zs ++ [z9], _, _, _, hd2, hn2, by rw [List.map_append, List.map_append, hdk]; exact congrArg (_ ++ [·]) hz9, by rw [List.length_append, List.length_singleton], Hz.only [0, 3, 9], m26.only [1, 2, 8, 7]⟩
 intro hb17 Hz; try simp only [QQ, Qax] at hb17
 have hall : ∀ e ∈ es11, e.born ∈ dn.map (·.born) := by
   rcases hF15 with ⟨_, h1⟩ | ⟨h1, _⟩
   · intro e he; simpa using h1 e he
   rw [h1] at hb17; cases hb17
 have hpm : zs.Perm (L.map (·.vo)) := ids_perm hds hnb hmk11 hall hdk hks11
 refine wcf Hz ?_
 refine wp_exit ?_
 refine hK0 _ _ ?_
 refine zsr fun K4 hK4 => ?_
 refine goCh Hz (.move rfl .nil) fun Az Hz => ?_
 have m30 := m15.numS 7 rfl
 refine plz (ecl Hz Tryz.func98 rfl (sortI_fr _ _ _ zs _ (by rw [hpm.length_eq, List.length_map]; omega) (m30.into [(1, 7)] (by decide) rfl)) ?_)
 rintro e w31 ⟨rfl, hm31⟩
 have mx31 := m30.back hm31 [(7, 1)] (by decide); clear hm31 m30
 have m31 := mx31.oz [7, 1, 2, 8]
 refine ⟨_, rfl, ?_⟩; intro Az Hz
 refine znl (hK4 _ _ ?_)
 refine regS Hz (.move rfl <| .assign rfl .nil) fun Az Hz => ?_
 refine rt1 Hz ?_
 have m35 := m31.mpClose (i := 2) rfl
 rw [hks11] at m35
 rw [sort_ids hpm] at m35
 rw [hpm.length_eq, ← ids_len]
 rw [hpm.length_eq, ← ids_len] at m35
 exact ⟨_, _, rfl, m35.ren [(1, 1), (2, 2), (3, 7)] (by decide)⟩
theorem all_x (X : Cx) (B G : Nat) (L : List VolV) (w0 : World) (n : Nat) (hn : n ≤ 800000) (hV : ∀ y ∈ L, VolS n y) (hL9 : L.length ≤ 1000) (m0 : MemOk X w0 [(1, .box B 87 [.map (some G)]), (2, .mp G 11 ((L).map keyV) ((L).map volD))] w0) :
   Calls Tryz.prog 17 #[.pointer (some ⟨B, 0, none⟩)] w0 fun e w' => ∃ (p : Option Addr) (c : Nat), e = .returned (.slice p ((allL L).map volD).length c) ∧ MemOk X w0 [(1, .box B 87 [.map (some G)]), (2, .mp G 11 ((L).map keyV) ((L).map volD)), (3, .dat (.slice p ((allL L).map volD).length c) (.l 11 ((allL L).map volD)))] w' := by
 refine ent1 Tryz.func17 rfl Tryz.ntmps17 fun Az Hz => ?_
 refine regS Hz (.assign rfl .nil) fun Az Hz => ?_
 refine regS Hz (.assign rfl .nil) fun Az Hz => ?_
 refine wsk fun K0 hK0 => ?_
 refine zsr fun K1 hK1 => ?_
 refine goCh Hz (.move rfl .nil) fun Az Hz => ?_
 refine plz (ecl Hz Tryz.func51 rfl (ids_x _ _ _ L _ hL9 (m0.into [(1, 1), (2, 2)] (by decide) rfl)) ?_)
 rintro e w5 ⟨p5, c5, rfl, hm5⟩
 have mx5 := m0.back hm5 [(1, 1), (2, 2), (9, 3)] (by decide); clear hm5 m0
 have m5 := mx5.oz [1, 2, 9]
 refine ⟨_, rfl, ?_⟩; intro Az Hz
 refine gz hK1 Hz (.len rfl U35 <| .move rfl <| .nil) fun Az Hz => ?_
 refine wp_block ?_
 refine wp_loop_ghost (fun g a w => ∃ (k : Nat) (p q : Option Addr) (c d : Nat), k ≤ (idsL L).length ∧ g = (idsL L).length - k ∧ Has 25 [(0, .pointer (some ⟨B, 0, none⟩)), (3, .slice p (((allL L).take k).map volD).length c), (7, .slice q (idsL L).length d), (8, .int .i64 (idsL L).length), (9, .int .i64 k)] a ∧ MemOk X w0 [(1, .box B 87 [.map (some G)]), (2, .mp G 11 ((L).map keyV) ((L).map volD)), (9, .seg (.slice q (idsL L).length d) 3 1 ((idsL L).map nD)), (8, .row (.slice p (((allL L).take k).map volD).length c) 51 11 (((allL L).take k).map volD))] w) ((idsL L).length) ?_ ?_
 · have mz := m5.nilR 8 51 11
   exact ⟨0, _, _, _, _, Nat.zero_le _, rfl, Hz.only [0, 3, 7, 8, 9], mz.ren [(1, 1), (2, 2), (9, 9), (8, 8)] (by decide)⟩
 clear Hz m5
 rintro g Az w9 ⟨k, p, q, c, d, hkl, hg, Hz, m9⟩
 refine regS Hz (.lss rfl rfl .nil) fun Az Hz => ?_
 refine wsk fun K2 hK2 => ?_
 refine bc Hz 10 ?_ ?_
 ·
  intro hb11 Hz; try simp only [QQ, Qax] at hb11
  have hk : k < (idsL L).length := by omega
  obtain ⟨id, hid⟩ : ∃ z, (idsL L)[k]? = some z := ⟨_, List.getElem?_eq_getElem hk⟩
  obtain ⟨j, y, hj, hy, hay⟩ := all_at hid
  have hys := (hV y (List.mem_of_getElem? hj)).cp hn
  have hll : (idsL L).length = L.length := by rw [ids_len, List.length_map]
  refine wct Hz ?_
  refine zss (hK2 _ _ ?_)
  refine wsk fun K3 hK3 => ?_
  refine wp_block ?_
  refine zsr fun K4 hK4 => ?_
  obtain ⟨gs13, os13, vs13, hp13, hl13, hR13, hsg13⟩ := m9.openS (i := 9) rfl (k) (r := [.v (.int .i64 id)]) (by rw [List.getElem?_map, hid]; rfl)
  revert Hz
  cases hp13
  rcases hR13 with _ | ⟨hd13_0, _ | _⟩
  obtain rfl := hd13_0.v_out
  clear hd13_0
  intro Hz
  refine gz hK4 Hz (.c rfl (fun _ h_ => y_idx h_ rfl rfl U35 fct15 (k) rfl (by omega)) <| .loadAt1 hsg13 (q := 0) rfl rfl rfl U3 rfl <| .assign rfl <| .nil) fun Az Hz => ?_
  refine wp_region_lit ?_
  refine goCh Hz (.move rfl <| .move rfl <| .nilCheck rfl <| .fa 0 rfl U87 <| .lb m9 1 U85 rfl rfl rfl <| .move rfl .nil) fun Az Hz => ?_
  obtain ⟨es23, ck23, hks23, hel23, hmk23, m23⟩ := m9.mpOpen (i := 2) rfl
  clear m9 hel23 hmk23
  have hki23 := mpKeys hks23 keyI
  obtain ⟨e23, vs23, he23, hev23, hR23, ho23, hvl23⟩ := m23.mpeAt (i := 2) rfl (r := [.v (.int .i64 y.vo), .v (.int .i64 y.bl), .v (.int .i64 y.sz), .v (.int .i64 y.pe), .ns .i64 y.place, .v (.int .i64 y.to), .v (.int .i64 y.ne), .v (.bool y.hi), .v (.int .i64 y.fl), .ns .i64 y.pins, .l 2 (y.ws.map wrD)]) (volD_get hj)
  have hek23 := mpKey hks23 he23 (keyV_get hj)
  clear ho23 hvl23
  revert Hz
  rcases hR23 with _ | ⟨hd23_0, _ | ⟨hd23_1, _ | ⟨hd23_2, _ | ⟨hd23_3, _ | ⟨hd23_4, _ | ⟨hd23_5, _ | ⟨hd23_6, _ | ⟨hd23_7, _ | ⟨hd23_8, _ | ⟨hd23_9, _ | ⟨hd23_10, _ | _⟩⟩⟩⟩⟩⟩⟩⟩⟩⟩⟩
  obtain rfl := hd23_0.v_out
  clear hd23_0
  obtain rfl := hd23_1.v_out
  clear hd23_1
  obtain rfl := hd23_2.v_out
  clear hd23_2
  obtain rfl := hd23_3.v_out
  clear hd23_3
  obtain ⟨p24, c24, hv24, hc24⟩ := hd23_4.ns_shape; subst hv24
  intro Hz
  have m24 := m23.dat 100 rfl (hd23_4.cast (fun _ h => h)); clear m23 hd23_4
  revert Hz
  obtain rfl := hd23_5.v_out
  clear hd23_5
  obtain rfl := hd23_6.v_out
  clear hd23_6
  obtain rfl := hd23_7.v_out
  clear hd23_7
  obtain rfl := hd23_8.v_out
  clear hd23_8
  obtain ⟨p25, c25, hv25, hc25⟩ := hd23_9.ns_shape; subst hv25
  intro Hz
  have m25 := m24.dat 101 rfl (hd23_9.cast (fun _ h => (free_add rfl h))); clear m24 hd23_9
  revert Hz
  obtain ⟨p26, c26, hv26, hc26⟩ := hd23_10.l_shape; subst hv26
  intro Hz
  have m26 := m25.dat 102 rfl (hd23_10.cast (fun _ h => (free_add rfl (free_add rfl h)))); clear m25 hd23_10
  refine goCh Hz (.c rfl (fun _ h_ => y_lookE1 h_ m26 (i := 2) rfl rfl rfl U85 (KeyT.int (q := .i64) U3) hki23 he23 (hek23.trans (keyV_eq hy)) hev23) .nil) fun Az Hz => ?_
  refine plz (ecl Hz Tryz.func52 rfl (volcopy_any y.vo y.bl y.sz y.pe y.to y.ne y.fl y.hi y.place y.pins y.ws _ _ _ _ _ _ _ _ ((m26.rd (i := 100) rfl).any) ((m26.rd (i := 101) rfl).any) ((m26.rd (i := 102) rfl).any) hys.1 hys.2.1 hys.2.2.1 hys.2.2.2) ?_)
  rintro e w28 ⟨pa28, ca28, pb28, cb28, pc28, cc28, rfl, ha28, hb28, hc28, hd28⟩
  have m29 := m26.callF3 103 104 105 rfl rfl rfl hd28 ha28 hb28 hc28
  clear ha28 hb28 hc28 hd28
  refine ⟨_, rfl, ?_⟩; intro Az Hz
  refine plz (e_litR Hz m29 106 (mm := 11) rfl (.cons rfl rfl (.cons (.v _) (.cons (.v _) (.cons (.v _) (.cons (.v _) (.cons (m29.rd (i := 103) rfl) (.cons (.v _) (.cons (.v _) (.cons (.v _) (.cons (.v _) (.cons (m29.rd (i := 104) rfl) (.cons (m29.rd (i := 105) rfl) .nil))))))))))) .nil) U30 fct34 rfl rfl rfl rfl rfl fun g31 Az w32 Hz m32 => ?_)
  have m34 := m32.freezeR 106 rfl
  refine plz (e_appR Hz m34 8 rfl rfl rfl (m34.rd (i := 106) rfl) U30 fct34 rfl rfl (by decide) (by have h8 : ((allL L).take k).length ≤ k := List.length_take_le _ _; rw [List.length_map]; try simp only [List.length_cons, List.length_nil]; omega) rfl fun p33 c33 Az w35 Hz m35 => ?_)
  refine gz hK3 Hz (.assign rfl .nil) fun Az Hz => ?_
  replace Hz := Hz.oz [0, 3, 7, 8, 9]
  refine wp_region_lit ?_
  refine goCh Hz (.inc (k + 1) <| .move rfl .nil) fun Az Hz => ?_
  refine wpList_nil ?_
  show ∃ n', n' < _ ∧ _
  have m40 := m35.mpClose (i := 2) rfl
  rw [hks23] at m40
  have hE : ((allL L).take k).map volD ++ [[.v (.int .i64 y.vo), .v (.int .i64 y.bl), .v (.int .i64 y.sz), .v (.int .i64 y.pe), .ns .i64 y.place, .v (.int .i64 y.to), .v (.int .i64 y.ne), .v (.bool y.hi), .v (.int .i64 y.fl), .ns .i64 y.pins, .l 2 (y.ws.map wrD)]] = ((allL L).take (k + 1)).map volD := (all_snoc9 hay).symm
  rw [hE] at m40 Hz
  exact ⟨(idsL L).length - (k + 1), by omega, k + 1, _, _, _, _, by omega, rfl, Hz.only [0, 3, 7, 8, 9], m40.ren [(1, 1), (2, 2), (9, 9), (8, 8)] (by decide)⟩
 intro hb11 Hz; try simp only [QQ, Qax] at hb11
 revert Hz
 obtain rfl : k = (idsL L).length := by omega
 intro Hz
 refine wcf Hz ?_
 refine wp_exit ?_
 refine hK0 _ _ ?_
 refine regS Hz (.move rfl <| .assign rfl .nil) fun Az Hz => ?_
 refine rt1 Hz ?_
 have m43 := m9.freezeR 8 rfl
 rw [show (allL L).take (idsL L).length = allL L from List.take_of_length_le (by rw [all_len]; exact Nat.le_refl _)] at m43 ⊢
 exact ⟨_, _, rfl, m43.ren [(1, 1), (2, 2), (3, 8)] (by decide)⟩
end Go.Proofs.YtkehgingagggaaaGreat.K
end
namespace Go.Proofs.YtkehgingagggaaaGreat.K
open Go.ChangeShapes Go.WideShapes Go.ChangeAt Go.RowKit
set_option linter.unusedVariables false
set_option linter.unusedSimpArgs false
section
structure Tl where
 id : Int
 c : Cm
 fr : Int
 to : Int
 e9 : Int
 rl : Int
 rf : Int
 rn : Int
 da : List Int
def tlD (t : Tl) : List D := [.v (.int .i64 t.id), .v (.int .i64 t.c.kd), .v (.int .i64 t.c.vo), .v (.int .i64 t.c.bl), .v (.int .i64 t.c.sz), .v (.int .i64 t.c.pe), .ns .i64 t.c.pl, .v (.int .i64 t.c.to), .v (.int .i64 t.c.at0), .v (.int .i64 t.c.ix), .l 2 (t.c.its.map itD), .v (.int .i64 t.fr), .v (.int .i64 t.to), .v (.int .i64 t.e9), .v (.int .i64 t.rl), .v (.int .i64 t.rf), .v (.int .i64 t.rn), .ns .u8 t.da]
theorem tl_get {l : List Tl} {k : Nat} {t : Tl} (h : l[k]? = some t) : (l.map tlD)[k]? = some [.v (.int .i64 t.id), .v (.int .i64 t.c.kd), .v (.int .i64 t.c.vo), .v (.int .i64 t.c.bl), .v (.int .i64 t.c.sz), .v (.int .i64 t.c.pe), .ns .i64 t.c.pl, .v (.int .i64 t.c.to), .v (.int .i64 t.c.at0), .v (.int .i64 t.c.ix), .l 2 (t.c.its.map itD), .v (.int .i64 t.fr), .v (.int .i64 t.to), .v (.int .i64 t.e9), .v (.int .i64 t.rl), .v (.int .i64 t.rf), .v (.int .i64 t.rn), .ns .u8 t.da] := by rw [List.getElem?_map, h]; rfl
def ansB (t : Tl) : Bool := decide (0 ≤ t.to) && decide (t.fr ≤ t.to)
def graB (t : Tl) : Bool := ansB t && decide (t.e9 = 0)
def isB (t : Tl) (l : List Int) : Bool := decide (t.c.kd ∈ l)
def seeB (t : Tl) : Bool := graB t && isB t [2, 6, 8]
def upB (a b : Tl) : Bool := if isB b [2] = true then decide (a.rl < b.rl) else decide (a.rl ≤ b.rl)
theorem ni_step {x : Int} {l : List Int} {k : Nat} (h : x ∉ l.take k) (hk : k < l.length) (hn : ¬ x = l.getD k 0) : x ∉ l.take (k + 1) := by
 rw [List.getD, List.getElem?_eq_getElem hk] at hn
 rw [List.take_add_one, List.getElem?_eq_getElem hk]
 intro h9
 rcases List.mem_append.1 h9 with h9 | h9
 · exact h h9
 simp at h9; exact hn h9
set_option maxRecDepth 100000
set_option maxHeartbeats 4000000
theorem index_x (l : List Int) (x : Int) (p : Option Addr) (c : Nat) (w0 : World) (hl : l.length ≤ 1000) (h0 : Rd (fun _ => True) w0 (.slice p l.length c) (.ns .i64 l)) :
   Calls Tryz.prog 167 #[.slice p l.length c, .int .i64 x] w0 fun e w' => ∃ z : Int, e = .returned (.int .i64 z) ∧ (0 ≤ z ↔ x ∈ l) ∧ Below w0.heap.size w0 w' := by
 refine ent2 Tryz.func167 rfl Tryz.ntmps167 fun Az Hz => ?_
 have m0 := MemOk.start (fun _ => False) w0
 refine regS Hz (.assign rfl .nil) fun Az Hz => ?_
 refine wsk fun K0 hK0 => ?_
 refine regS Hz (.move rfl <| .len rfl U35 <| .move rfl .nil) fun Az Hz => ?_
 refine wp_block ?_
 refine wp_loop_ghost (fun g a w => ∃ k : Nat, k ≤ l.length ∧ x ∉ l.take k ∧ g = l.length - k ∧ Has 19 [(0, .slice p l.length c), (1, .int .i64 x), (6, .slice p l.length c), (7, .int .i64 l.length), (8, .int .i64 k)] a ∧ MemOk (cn w0) w0 [] w) (l.length) ?_ ?_
 · exact ⟨0, Nat.zero_le _, (by simp), rfl, Hz.only [0, 1, 6, 7, 8], m0.only []⟩
 clear Hz m0
 rintro g Az w5 ⟨k, hkl, hni, hg, Hz, m5⟩
 refine regS Hz (.lss rfl rfl .nil) fun Az Hz => ?_
 refine wsk fun K1 hK1 => ?_
 refine bc Hz 9 ?_ ?_
 ·
  intro hb7 Hz; try simp only [QQ, Qax] at hb7
  have hk : k < l.length := by omega
  refine wct Hz ?_
  refine zss (hK1 _ _ ?_)
  refine wsk fun K2 hK2 => ?_
  refine wp_block ?_
  refine regS Hz (.move rfl <| .assign rfl .nil) fun Az Hz => ?_
  refine zsr fun K3 hK3 => ?_
  refine goCh Hz (.move rfl <| .move rfl <| .move rfl .nil) fun Az Hz => ?_
  obtain ⟨gx17, ox17, hp17, hl17, hrg17⟩ := h0.extN (k) hk
  revert Hz
  cases hp17
  intro Hz
  refine gz hK3 Hz (.c rfl (fun _ h_ => y_idx h_ rfl rfl U35 fct15 (k) rfl hk) <| .loadAt1 (hrg17 m5 rfl) (q := 0) rfl rfl rfl U3 rfl <| .eql rfl rfl <| .nil) fun Az Hz => ?_
  refine bc Hz 16 ?_ ?_
  ·
   intro hb21 Hz; try simp only [QQ, Qax] at hb21
   have hR : ∃ z : Int, (k : Int) = z ∧ (0 ≤ z ↔ x ∈ l) := ⟨k, rfl, fun _ => (by have h9 := hb21; rw [List.getD, List.getElem?_eq_getElem hk] at h9; rw [h9]; exact List.getElem_mem hk), fun _ => by omega⟩
   refine wct Hz ?_
   replace Hz := Hz.oz [0, 1, 6, 7, 8, 5]
   refine regS Hz (.move rfl <| .assign rfl .nil) fun Az Hz => ?_
   refine rt1 Hz ?_
   obtain ⟨z, hz, hR⟩ := hR
   exact ⟨z, congrArg (fun z => Ending.returned (.int .i64 z)) hz, hR, m5.below⟩
  intro hb21 Hz; try simp only [QQ, Qax] at hb21
  have hni2 : x ∉ l.take (k + 1) := ni_step hni hk hb21
  refine wcf Hz ?_
  refine zss (hK2 _ _ ?_)
  replace Hz := Hz.oz [0, 1, 6, 7, 8]
  refine wp_region_lit ?_
  refine goCh Hz (.inc (k + 1) <| .move rfl .nil) fun Az Hz => ?_
  refine wpList_nil ?_
  show ∃ n', n' < _ ∧ _
  exact ⟨l.length - (k + 1), by omega, k + 1, by omega, hni2, rfl, Hz.only [0, 1, 6, 7, 8], m5.only []⟩
 intro hb7 Hz; try simp only [QQ, Qax] at hb7
 have hR : ∃ z : Int, (-1 : Int) = z ∧ (0 ≤ z ↔ x ∈ l) := ⟨-1, rfl, by rw [List.take_of_length_le (by omega)] at hni; exact ⟨fun h => by omega, fun h => absurd h hni⟩⟩
 refine wcf Hz ?_
 refine wp_exit ?_
 refine hK0 _ _ ?_
 refine regS Hz (.assign rfl .nil) fun Az Hz => ?_
 refine rt1 Hz ?_
 obtain ⟨z, hz, hR⟩ := hR
 exact ⟨z, congrArg (fun z => Ending.returned (.int .i64 z)) hz, hR, m5.below⟩
theorem contains_x (l : List Int) (x : Int) (p : Option Addr) (c : Nat) (w0 : World) (hl : l.length ≤ 1000) (h0 : Rd (fun _ => True) w0 (.slice p l.length c) (.ns .i64 l)) :
   Calls Tryz.prog 144 #[.slice p l.length c, .int .i64 x] w0 fun e w' => e = .returned (.bool (decide (x ∈ l))) ∧ Below w0.heap.size w0 w' := by
 refine ent2 Tryz.func144 rfl Tryz.ntmps144 fun Az Hz => ?_
 have m0 := MemOk.start (fun _ => False) w0
 refine regS Hz (.assign rfl .nil) fun Az Hz => ?_
 refine zsr fun K0 hK0 => ?_
 refine goCh Hz (.move rfl <| .move rfl .nil) fun Az Hz => ?_
 refine plz (ecl Hz Tryz.func167 rfl (index_x l x _ _ _ hl ((h0.now' m0 rfl).any)) ?_)
 rintro e w6 ⟨z, rfl, hz, hb6⟩
 have m7 := m0.later hb6
 refine ⟨_, rfl, ?_⟩; intro Az Hz
 refine gz hK0 Hz (.geq rfl rfl <| .assign rfl <| .nil) fun Az Hz => ?_
 refine rt1 Hz ?_
 exact ⟨congrArg (fun b => Ending.returned (.bool b)) (decide_eq_decide.2 hz), m7.below⟩
theorem ans_x (t : Tl) (p1 p2 p3 : Option Addr) (n1 c1 n2 c2 n3 c3 : Nat) (w0 : World) :
   Calls Tryz.prog 143 #[.agg #[.int .i64 t.id, .int .i64 t.c.kd, .int .i64 t.c.vo, .int .i64 t.c.bl, .int .i64 t.c.sz, .int .i64 t.c.pe, .slice p1 n1 c1, .int .i64 t.c.to, .int .i64 t.c.at0, .int .i64 t.c.ix, .slice p2 n2 c2, .int .i64 t.fr, .int .i64 t.to, .int .i64 t.e9, .int .i64 t.rl, .int .i64 t.rf, .int .i64 t.rn, .slice p3 n3 c3]] w0 fun e w' => e = .returned (.bool (ansB t)) ∧ Below w0.heap.size w0 w' := by
 refine ent1 Tryz.func143 rfl Tryz.ntmps143 fun Az Hz => ?_
 have m0 := MemOk.start (fun _ => False) w0
 refine zsr fun K0 hK0 => ?_
 refine plz (e_box Hz m0 20 (cs := [_, _, _, _, _, _, _, _, _, _, _, _, _, _, _, _, _, _]) rfl rfl rfl fun g1 Az w2 Hz m2 _ _ => ?_)
 refine gz hK0 Hz (.assign rfl .nil) fun Az Hz => ?_
 refine zsr fun K1 hK1 => ?_
 refine goCh Hz (.fa 12 rfl U76 <| .lb m2 20 U3 rfl rfl rfl <| .geq rfl rfl <| .move rfl .nil) fun Az Hz => ?_
 refine bc Hz 6 ?_ ?_
 ·
  intro hb12 Hz; try simp only [QQ, Qax] at hb12
  refine gz hK1 Hz (.faZ 12 rfl U76 <| .loadB1Z m2 (i := 20) rfl rfl rfl U3 rfl <| .faZ 11 rfl U76 <| .loadB1Z m2 (i := 20) rfl rfl rfl U3 rfl <| .geqZ rfl rfl <| .pickT rfl rfl <| .assign rfl <| .nil) fun Az Hz => ?_
  refine rt1 Hz ?_
  exact ⟨congrArg (fun b9 => Ending.returned (.bool b9)) (by first | (simp [ansB, hb12]; done) | (simp [ansB, hb12]; omega)), m2.below⟩
 intro hb12 Hz; try simp only [QQ, Qax] at hb12
 refine gz hK1 Hz (.sk <| .sk <| .sk <| .sk <| .sk <| .pickF rfl rfl <| .assign rfl <| .nil) fun Az Hz => ?_
 refine rt1 Hz ?_
 exact ⟨congrArg (fun b9 => Ending.returned (.bool b9)) (by first | (simp [ansB, hb12]; done) | (simp [ansB, hb12]; omega)), m2.below⟩
theorem gra_x (t : Tl) (p1 p2 p3 : Option Addr) (n1 c1 n2 c2 n3 c3 : Nat) (w0 : World) :
   Calls Tryz.prog 125 #[.agg #[.int .i64 t.id, .int .i64 t.c.kd, .int .i64 t.c.vo, .int .i64 t.c.bl, .int .i64 t.c.sz, .int .i64 t.c.pe, .slice p1 n1 c1, .int .i64 t.c.to, .int .i64 t.c.at0, .int .i64 t.c.ix, .slice p2 n2 c2, .int .i64 t.fr, .int .i64 t.to, .int .i64 t.e9, .int .i64 t.rl, .int .i64 t.rf, .int .i64 t.rn, .slice p3 n3 c3]] w0 fun e w' => e = .returned (.bool (graB t)) ∧ Below w0.heap.size w0 w' := by
 refine ent1 Tryz.func125 rfl Tryz.ntmps125 fun Az Hz => ?_
 have m0 := MemOk.start (fun _ => False) w0
 refine zsr fun K0 hK0 => ?_
 refine plz (e_box Hz m0 20 (cs := [_, _, _, _, _, _, _, _, _, _, _, _, _, _, _, _, _, _]) rfl rfl rfl fun g1 Az w2 Hz m2 _ _ => ?_)
 refine gz hK0 Hz (.assign rfl .nil) fun Az Hz => ?_
 refine zsr fun K1 hK1 => ?_
 refine goCh Hz (.loadBR m2 (i := 20) rfl rfl U76 rfl fct16 (by simp) (by dsimp only [List.drop, List.take] <;> rfl) .nil) fun Az Hz => ?_
 refine plz (ecb Hz Tryz.func143 rfl m2 (ans_x t _ _ _ _ _ _ _ _ _ _) fun Az w6 Hz m7 => ?_)
 refine goCh Hz (.move rfl .nil) fun Az Hz => ?_
 refine bc Hz 5 ?_ ?_
 ·
  intro hb10 Hz; try simp only [QQ, Qax] at hb10
  refine gz hK1 Hz (.fieldAddrZ (off := 13) rfl U76 rfl (s := 4) (by kernel_rfl) rfl <| .faZ 13 rfl U44 <| .loadB1Z m7 (i := 20) rfl rfl rfl U42 rfl <| .eqlZ rfl rfl <| .pickT rfl rfl <| .assign rfl <| .nil) fun Az Hz => ?_
  refine rt1 Hz ?_
  exact ⟨congrArg (fun b9 => Ending.returned (.bool b9)) (by first | (simp [graB, hb10]; done) | (simp [graB, hb10]; omega)), m7.below⟩
 intro hb10 Hz; try simp only [QQ, Qax] at hb10
 refine gz hK1 Hz (.sk <| .sk <| .sk <| .sk <| .pickF rfl rfl <| .assign rfl <| .nil) fun Az Hz => ?_
 refine rt1 Hz ?_
 exact ⟨congrArg (fun b9 => Ending.returned (.bool b9)) (by first | (simp [graB, hb10]; done) | (simp [graB, hb10]; omega)), m7.below⟩
theorem is_x (t : Tl) (l : List Int) (p1 p2 p3 : Option Addr) (n1 c1 n2 c2 n3 c3 : Nat) (p : Option Addr) (c : Nat) (w0 : World) (hl : l.length ≤ 1000) (h0 : Rd (fun _ => True) w0 (.slice p l.length c) (.ns .i64 l)) :
   Calls Tryz.prog 126 #[.agg #[.int .i64 t.id, .int .i64 t.c.kd, .int .i64 t.c.vo, .int .i64 t.c.bl, .int .i64 t.c.sz, .int .i64 t.c.pe, .slice p1 n1 c1, .int .i64 t.c.to, .int .i64 t.c.at0, .int .i64 t.c.ix, .slice p2 n2 c2, .int .i64 t.fr, .int .i64 t.to, .int .i64 t.e9, .int .i64 t.rl, .int .i64 t.rf, .int .i64 t.rn, .slice p3 n3 c3], .slice p l.length c] w0 fun e w' => e = .returned (.bool (isB t l)) ∧ Below w0.heap.size w0 w' := by
 refine ent2 Tryz.func126 rfl Tryz.ntmps126 fun Az Hz => ?_
 have m0 := MemOk.start (fun _ => False) w0
 refine zsr fun K0 hK0 => ?_
 refine plz (e_box Hz m0 20 (cs := [_, _, _, _, _, _, _, _, _, _, _, _, _, _, _, _, _, _]) rfl rfl rfl fun g1 Az w2 Hz m2 _ _ => ?_)
 refine gz hK0 Hz (.assign rfl .nil) fun Az Hz => ?_
 refine zsr fun K1 hK1 => ?_
 refine goCh Hz (.move rfl <| .fieldAddr (off := 1) rfl U76 rfl (s := 9) (by kernel_rfl) rfl <| .fa 1 rfl U38 <| .lb m2 20 U3 rfl rfl rfl .nil) fun Az Hz => ?_
 refine plz (ecb Hz Tryz.func144 rfl m2 (contains_x l t.c.kd _ _ _ hl ((h0.now' m2 rfl).any)) fun Az w12 Hz m13 => ?_)
 refine gz hK1 Hz (.assign rfl .nil) fun Az Hz => ?_
 refine rt1 Hz ?_
 exact ⟨rfl, m13.below⟩
theorem see_x (t : Tl) (p1 p2 p3 : Option Addr) (n1 c1 n2 c2 n3 c3 : Nat) (w0 : World) :
   Calls Tryz.prog 127 #[.agg #[.int .i64 t.id, .int .i64 t.c.kd, .int .i64 t.c.vo, .int .i64 t.c.bl, .int .i64 t.c.sz, .int .i64 t.c.pe, .slice p1 n1 c1, .int .i64 t.c.to, .int .i64 t.c.at0, .int .i64 t.c.ix, .slice p2 n2 c2, .int .i64 t.fr, .int .i64 t.to, .int .i64 t.e9, .int .i64 t.rl, .int .i64 t.rf, .int .i64 t.rn, .slice p3 n3 c3]] w0 fun e w' => e = .returned (.bool (seeB t)) ∧ Below w0.heap.size w0 w' := by
 refine ent1 Tryz.func127 rfl Tryz.ntmps127 fun Az Hz => ?_
 have m0 := MemOk.start (fun _ => False) w0
 refine zsr fun K0 hK0 => ?_
 refine plz (e_box Hz m0 20 (cs := [_, _, _, _, _, _, _, _, _, _, _, _, _, _, _, _, _, _]) rfl rfl rfl fun g1 Az w2 Hz m2 _ _ => ?_)
 refine gz hK0 Hz (.assign rfl .nil) fun Az Hz => ?_
 refine zsr fun K1 hK1 => ?_
 refine goCh Hz (.loadBR m2 (i := 20) rfl rfl U76 rfl fct16 (by simp) (by dsimp only [List.drop, List.take] <;> rfl) .nil) fun Az Hz => ?_
 refine plz (ecb Hz Tryz.func125 rfl m2 (gra_x t _ _ _ _ _ _ _ _ _ _) fun Az w6 Hz m7 => ?_)
 refine goCh Hz (.move rfl .nil) fun Az Hz => ?_
 refine bc Hz 5 ?_ ?_
 ·
  intro hb10 Hz; try simp only [QQ, Qax] at hb10
  refine goCh Hz (.loadBRZ m7 (i := 20) rfl rfl U76 rfl fct16 (by simp) (by dsimp only [List.drop, List.take] <;> rfl) .nil) fun Az Hz => ?_
  refine stz Hz (e_litN Hz m7 21 (k := .i64) rfl rfl U35 fct17 rfl rfl rfl rfl fun g12 Az w13 Hz m13 => ?_)
  have m14 := m13.freezeN 21 rfl
  refine stz Hz (ecb Hz Tryz.func126 rfl m14 (is_x t [2, 6, 8] _ _ _ _ _ _ _ _ _ _ _ _ (by decide) ((m14.rd (i := 21) rfl).any)) fun Az w15 Hz m16 => ?_)
  refine gz hK1 Hz (.pickT rfl rfl <| .assign rfl <| .nil) fun Az Hz => ?_
  refine rt1 Hz ?_
  exact ⟨congrArg (fun b9 => Ending.returned (.bool b9)) (by first | (simp [seeB, hb10]; done) | (simp [seeB, hb10]; omega)), m16.below⟩
 intro hb10 Hz; try simp only [QQ, Qax] at hb10
 refine gz hK1 Hz (.sk <| .sk <| .sk <| .pickF rfl rfl <| .assign rfl <| .nil) fun Az Hz => ?_
 refine rt1 Hz ?_
 exact ⟨congrArg (fun b9 => Ending.returned (.bool b9)) (by first | (simp [seeB, hb10]; done) | (simp [seeB, hb10]; omega)), m7.below⟩
theorem up_x (t u : Tl) (p1 p2 p3 : Option Addr) (n1 c1 n2 c2 n3 c3 : Nat) (q1 q2 q3 : Option Addr) (m1 d1 m2 d2 m3 d3 : Nat) (w0 : World) :
   Calls Tryz.prog 128 #[.agg #[.int .i64 t.id, .int .i64 t.c.kd, .int .i64 t.c.vo, .int .i64 t.c.bl, .int .i64 t.c.sz, .int .i64 t.c.pe, .slice p1 n1 c1, .int .i64 t.c.to, .int .i64 t.c.at0, .int .i64 t.c.ix, .slice p2 n2 c2, .int .i64 t.fr, .int .i64 t.to, .int .i64 t.e9, .int .i64 t.rl, .int .i64 t.rf, .int .i64 t.rn, .slice p3 n3 c3], .agg #[.int .i64 u.id, .int .i64 u.c.kd, .int .i64 u.c.vo, .int .i64 u.c.bl, .int .i64 u.c.sz, .int .i64 u.c.pe, .slice q1 m1 d1, .int .i64 u.c.to, .int .i64 u.c.at0, .int .i64 u.c.ix, .slice q2 m2 d2, .int .i64 u.fr, .int .i64 u.to, .int .i64 u.e9, .int .i64 u.rl, .int .i64 u.rf, .int .i64 u.rn, .slice q3 m3 d3]] w0 fun e w' => e = .returned (.bool (upB t u)) ∧ Below w0.heap.size w0 w' := by
 refine ent2 Tryz.func128 rfl Tryz.ntmps128 fun Az Hz => ?_
 have m0 := MemOk.start (fun _ => False) w0
 refine zsr fun K0 hK0 => ?_
 refine plz (e_box Hz m0 20 (cs := [_, _, _, _, _, _, _, _, _, _, _, _, _, _, _, _, _, _]) rfl rfl rfl fun g1 Az w2 Hz m2 _ _ => ?_)
 refine plz (e_box Hz m2 21 (cs := [_, _, _, _, _, _, _, _, _, _, _, _, _, _, _, _, _, _]) rfl rfl rfl fun g3 Az w4 Hz m4 _ _ => ?_)
 refine gz hK0 Hz (.assign rfl .nil) fun Az Hz => ?_
 refine wsk fun K1 hK1 => ?_
 refine zsr fun K2 hK2 => ?_
 refine goCh Hz (.loadBR m4 (i := 21) rfl rfl U76 rfl fct16 (by simp) (by dsimp only [List.drop, List.take] <;> rfl) .nil) fun Az Hz => ?_
 refine plz (e_litN Hz m4 22 (k := .i64) rfl rfl U35 fct17 rfl rfl rfl rfl fun g8 Az w9 Hz m9 => ?_)
 have m10 := m9.freezeN 22 rfl
 refine plz (ecb Hz Tryz.func126 rfl m10 (is_x u [2] _ _ _ _ _ _ _ _ _ _ _ _ (by decide) ((m10.rd (i := 22) rfl).any)) fun Az w11 Hz m12 => ?_)
 refine znl (hK2 _ _ ?_)
 refine bc Hz 7 ?_ ?_
 ·
  intro hb14 Hz; try simp only [QQ, Qax] at hb14
  refine wct Hz ?_
  refine regS Hz (.fieldAddr (off := 13) rfl U76 rfl (s := 4) (by kernel_rfl) rfl <| .fa 14 rfl U44 <| .lb m12 20 U2 rfl rfl rfl <| .fieldAddr (off := 13) rfl U76 rfl (s := 4) (by kernel_rfl) rfl <| .fa 14 rfl U44 <| .lb m12 21 U2 rfl rfl rfl <| .lss rfl rfl <| .assign rfl .nil) fun Az Hz => ?_
  refine rt1 Hz ?_
  exact ⟨congrArg (fun b9 => Ending.returned (.bool b9)) (by first | (simp [upB, hb14]; done) | (simp [upB, hb14]; omega)), m12.below⟩
 intro hb14 Hz; try simp only [QQ, Qax] at hb14
 refine wcf Hz ?_
 refine zss (hK1 _ _ ?_)
 refine regS Hz (.fieldAddr (off := 13) rfl U76 rfl (s := 4) (by kernel_rfl) rfl <| .fa 14 rfl U44 <| .lb m12 20 U2 rfl rfl rfl <| .fieldAddr (off := 13) rfl U76 rfl (s := 4) (by kernel_rfl) rfl <| .fa 14 rfl U44 <| .lb m12 21 U2 rfl rfl rfl <| .leq rfl rfl <| .assign rfl .nil) fun Az Hz => ?_
 refine rt1 Hz ?_
 exact ⟨congrArg (fun b9 => Ending.returned (.bool b9)) (by first | (simp [upB, hb14]; done) | (simp [upB, hb14]; omega)), m12.below⟩
end
end Go.Proofs.YtkehgingagggaaaGreat.K
