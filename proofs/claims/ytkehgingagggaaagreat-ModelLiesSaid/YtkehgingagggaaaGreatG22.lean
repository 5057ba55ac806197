/- General laws of walks. -/
import Derived.Test.YtkehgingagggaaaGreatG21
namespace Go.Proofs.YtkehgingagggaaaGreat.K
open Go.ChangeShapes Go.WideShapes Go.ChangeAt Go.RowKit
set_option linter.unusedVariables false
set_option linter.unusedSimpArgs false
section
def tolB (v : VolV) (t : Tl) : Bool := !(graB t && isB t [2, 6]) || (decide (1 ≤ t.rl) && decide (t.rl ≤ v.ws.length) && (!(isB t [2]) || decide (t.c.its = (v.ws.getD (t.rl - 1).toNat (0, [])).2)))
theorem tol_g {v : VolV} {t : Tl} (h : graB t = false) : tolB v t = true := by simp [tolB, h]
theorem tol_i {v : VolV} {t : Tl} (h : isB t [2, 6] = false) : tolB v t = true := by simp [tolB, h]
theorem tol_lt {v : VolV} {t : Tl} (h : t.rl < 1) (h1 : graB t = true) (h2 : isB t [2, 6] = true) : tolB v t = false := by
 have : ¬ 1 ≤ t.rl := by omega
 simp [tolB, h1, h2, this]
theorem tol_gt {v : VolV} {t : Tl} (h : (v.ws.length : Int) < t.rl) (h1 : graB t = true) (h2 : isB t [2, 6] = true) : tolB v t = false := by
 have : ¬ t.rl ≤ (v.ws.length : Int) := by omega
 simp [tolB, h1, h2, this]
theorem tol_ne {v : VolV} {t : Tl} (h : ¬ t.c.its = (v.ws.getD (t.rl - 1).toNat (0, [])).2) (h0 : isB t [2] = true) (h1 : graB t = true) (h2 : isB t [2, 6] = true) : tolB v t = false := by
 have h9 : decide (t.c.its = (v.ws.getD (t.rl - 1).toNat (0, [])).2) = false := decide_eq_false h
 simp only [tolB, h0, h1, h2, h9]; simp
theorem tol_eq {v : VolV} {t : Tl} (h1 : 1 ≤ t.rl) (h2 : t.rl ≤ (v.ws.length : Int)) (h : t.c.its = (v.ws.getD (t.rl - 1).toNat (0, [])).2) : tolB v t = true := by
 have h9 : decide (t.c.its = (v.ws.getD (t.rl - 1).toNat (0, [])).2) = true := decide_eq_true h
 simp only [tolB, decide_eq_true h1, decide_eq_true h2, h9]; simp
theorem tol_p {v : VolV} {t : Tl} (h1 : 1 ≤ t.rl) (h2 : t.rl ≤ (v.ws.length : Int)) (h : isB t [2] = false) : tolB v t = true := by
 simp only [tolB, decide_eq_true h1, decide_eq_true h2, h]; simp
theorem all_step {α : Type} {l : List α} {k : Nat} {x : α} {f : α → Bool} (h : (l.take k).all f = true) (hx : l[k]? = some x) (hf : f x = true) : (l.take (k + 1)).all f = true := by
 rw [List.take_add_one, hx, List.all_append, h]; simp [hf]
theorem all_no {α : Type} {l : List α} {k : Nat} {x : α} {f : α → Bool} (hx : l[k]? = some x) (hf : f x = false) : l.all f = false := by
 cases h : l.all f with
 | false => rfl
 | true => rw [List.all_eq_true.1 h x (List.mem_of_getElem? hx)] at hf; cases hf
theorem any_snoc {α : Type} {l : List α} {k : Nat} {x : α} {f : α → Bool} (hx : l[k]? = some x) : (l.take (k + 1)).any f = ((l.take k).any f || f x) := by
 rw [List.take_add_one, hx, List.any_append]; simp
def unl1 (a b : Tl) : Bool := !(graB a && isB a [2] && graB b && isB b [2] && decide (a.rl = b.rl))
def unlP (l : List Tl) (k : Nat) : Prop := ∀ i, i < k → ∀ j, j < i → ∀ a b, l[i]? = some a → l[j]? = some b → unl1 a b = true
def unlL (l : List Tl) : Bool := (List.range l.length).all fun i => (List.range i).all fun j => match l[i]?, l[j]? with | some a, some b => unl1 a b | _, _ => true
theorem unlP_0 {l : List Tl} : unlP l 0 := fun i hi => absurd hi (Nat.not_lt_zero i)
theorem unlP_s {l : List Tl} {k : Nat} {t : Tl} (h : unlP l k) (ht : l[k]? = some t) (hj : ∀ i, i < k → ∀ u, l[i]? = some u → unl1 t u = true) : unlP l (k + 1) := fun i hi j hji a b ha hb => by
 rcases Nat.lt_or_ge i k with h1 | h1
 · exact h i h1 j hji a b ha hb
 obtain rfl : i = k := by omega
 rw [ht] at ha; injection ha with ha; subst ha
 exact hj j hji b hb
theorem unl_all {l : List Tl} {k : Nat} (hk : l.length ≤ k) (h : unlP l k) : unlL l = true := by
 refine List.all_eq_true.2 (fun i hi => List.all_eq_true.2 (fun j hj => ?_))
 have hi := List.mem_range.1 hi; have hj := List.mem_range.1 hj
 have h1 : l[i]? = some l[i] := List.getElem?_eq_getElem hi
 have h2 : l[j]? = some l[j] := List.getElem?_eq_getElem (by omega)
 simp only [h1, h2]
 exact h i (by omega) j hj _ _ h1 h2
theorem unl_no {l : List Tl} {i j : Nat} {a b : Tl} (ha : l[i]? = some a) (hb : l[j]? = some b) (hj : j < i) (h : unl1 a b = false) : unlL l = false := by
 cases hu : unlL l with
 | false => rfl
 | true =>
   have hi : i < l.length := (List.getElem?_eq_some_iff.1 ha).1
   have := List.all_eq_true.1 (List.all_eq_true.1 hu i (List.mem_range.2 hi)) j (List.mem_range.2 hj)
   simp only [ha, hb] at this
   rw [h] at this; cases this
theorem lt_snoc {l : List Tl} {j : Nat} {u : Tl} {Q : Tl → Prop} (h : ∀ i, i < j → ∀ u, l[i]? = some u → Q u) (hu : l[j]? = some u) (hq : Q u) : ∀ i, i < j + 1 → ∀ u, l[i]? = some u → Q u := fun i hi z hz => by
 rcases Nat.lt_or_ge i j with h1 | h1
 · exact h i h1 z hz
 obtain rfl : i = j := by omega
 rw [hu] at hz; injection hz with hz; subst hz; exact hq
def int1 (a b : Tl) : Bool := !(seeB a && seeB b && decide (a.to < b.fr) && !(upB a b))
def intL (l : List Tl) : Bool := l.all fun a => l.all (int1 a)
theorem int_no {l : List Tl} {i j : Nat} {a b : Tl} (ha : l[i]? = some a) (hb : l[j]? = some b) (h : int1 a b = false) : intL l = false := all_no ha (all_no hb h)
def ask1 (w : Int × List (Int × List Int)) (t : Tl) : Bool := isB t [2, 6] && decide (t.c.its = w.2)
def askL (l : List Tl) (v : VolV) : Bool := v.ws.all fun w => l.any (ask1 w)
def ofB (v : VolV) (t : Tl) : Bool := decide (t.c.vo = v.vo)
def ordB (l : List Tl) (v : VolV) : Bool := (l.filter (ofB v)).all (tolB v) && unlL (l.filter (ofB v)) && intL (l.filter (ofB v)) && askL (l.filter (ofB v)) v
theorem takeT {w : World} {p : Option Addr} {l9 c : Nat} {l : List Tl} {j : Nat} (h : Rd (fun _ => True) w (.slice p l9 c) (.l 18 (l.map tlD))) (hj : j ≤ l.length) : Rd (fun _ => True) w (.slice p j c) (.l 18 ((l.take j).map tlD)) := by
 rw [List.map_take]; exact h.takeL j (by rw [List.length_map]; exact hj)
theorem Rd.capT {S : Nat → Prop} {w : World} {p : Option Addr} {l9 c : Nat} {l : List Tl} (h : Rd S w (.slice p l9 c) (.l 18 (l.map tlD))) : l.length ≤ c := by
 have := h.capL; rwa [List.length_map] at this
theorem fil_yes {l : List Tl} {k : Nat} {t : Tl} {v : VolV} (h : l[k]? = some t) (hf : ofB v t = true) : ((l.take k).filter (ofB v)).map tlD ++ [[.v (.int .i64 t.id), .v (.int .i64 t.c.kd), .v (.int .i64 t.c.vo), .v (.int .i64 t.c.bl), .v (.int .i64 t.c.sz), .v (.int .i64 t.c.pe), .ns .i64 t.c.pl, .v (.int .i64 t.c.to), .v (.int .i64 t.c.at0), .v (.int .i64 t.c.ix), .l 2 (t.c.its.map itD), .v (.int .i64 t.fr), .v (.int .i64 t.to), .v (.int .i64 t.e9), .v (.int .i64 t.rl), .v (.int .i64 t.rf), .v (.int .i64 t.rn), .ns .u8 t.da]] = ((l.take (k + 1)).filter (ofB v)).map tlD := by
 rw [List.take_add_one, h, List.filter_append, List.map_append]; simp [List.filter, hf, tlD]
theorem fil_no {l : List Tl} {k : Nat} {t : Tl} {v : VolV} (h : l[k]? = some t) (hf : ofB v t = false) : ((l.take k).filter (ofB v)).map tlD = ((l.take (k + 1)).filter (ofB v)).map tlD := by
 rw [List.take_add_one, h, List.filter_append, List.map_append]; simp [List.filter, hf]
theorem fil_len {l : List Tl} {k : Nat} {v : VolV} : ((l.take k).filter (ofB v)).length ≤ k := Nat.le_trans (List.length_filter_le _ _) (List.length_take_le _ _)
set_option maxRecDepth 100000
set_option maxHeartbeats 4000000
theorem told_x (l : List Tl) (v : VolV) (pl : Option Addr) (nl cl : Nat) (y1 y2 y3 : Option Addr) (z1 x1 z2 x2 nv x3 : Nat) (w0 : World) (h1 : Rd (fun _ => True) w0 (.slice pl nl cl) (.l 18 (l.map tlD))) (h3 : Rd (fun _ => True) w0 (.slice y3 nv x3) (.l 2 (v.ws.map wrD))) (hlb : ∀ t ∈ l, t.c.its.length ≤ 1000000 ∧ ∀ e ∈ t.c.its, BytesL e.2) (hvb : ∀ e ∈ v.ws, e.2.length ≤ 1000000 ∧ ∀ z ∈ e.2, BytesL z.2) (hl9 : l.length ≤ 1000) (hv9 : v.ws.length ≤ 1000000) :
   Calls Tryz.prog 85 #[.slice pl nl cl, .agg #[.int .i64 v.vo, .int .i64 v.bl, .int .i64 v.sz, .int .i64 v.pe, .slice y1 z1 x1, .int .i64 v.to, .int .i64 v.ne, .bool v.hi, .int .i64 v.fl, .slice y2 z2 x2, .slice y3 nv x3]] w0 fun e w' => e = .returned (.bool (l.all (tolB v))) ∧ Below w0.heap.size w0 w' := by
 obtain rfl : nl = l.length := by obtain ⟨pq, cq, hv, _⟩ := h1.l_shape; injection hv with _ e2 _; rw [List.length_map] at e2; exact e2
 obtain rfl : nv = v.ws.length := by obtain ⟨pq, cq, hv, _⟩ := h3.l_shape; injection hv with _ e2 _; rw [List.length_map] at e2; exact e2
 refine ent2 Tryz.func85 rfl Tryz.ntmps85 fun Az Hz => ?_
 have m0 := MemOk.start (fun _ => False) w0
 refine zsr fun K0 hK0 => ?_
 refine plz (e_box Hz m0 40 (cs := [_, _, _, _, _, _, _, _, _, _, _]) rfl rfl rfl fun g1 Az w2 Hz m2 _ _ => ?_)
 refine gz hK0 Hz (.assign rfl .nil) fun Az Hz => ?_
 refine wsk fun K1 hK1 => ?_
 refine regS Hz (.move rfl <| .len rfl U74 <| .move rfl .nil) fun Az Hz => ?_
 refine wp_block ?_
 refine wp_loop_ghost (fun g a w => ∃ (k B : Nat), k ≤ l.length ∧ (l.take k).all (tolB v) = true ∧ g = l.length - k ∧ Has 52 [(3, .pointer (some ⟨B, 0, none⟩)), (8, .slice pl l.length cl), (9, .int .i64 l.length), (10, .int .i64 k)] a ∧ MemOk (cn w0) w0 [(30, .box B 51 [.int .i64 v.vo, .int .i64 v.bl, .int .i64 v.sz, .int .i64 v.pe, .slice y1 z1 x1, .int .i64 v.to, .int .i64 v.ne, .bool v.hi, .int .i64 v.fl, .slice y2 z2 x2, .slice y3 v.ws.length x3])] w) (l.length) ?_ ?_
 · exact ⟨0, _, Nat.zero_le _, rfl, rfl, Hz.only [3, 8, 9, 10], m2.ren [(30, 40)] (by decide)⟩
 clear Hz m2
 rintro g Az w7 ⟨k, B, hkl, htk, hg, Hz, m7⟩
 refine regS Hz (.lss rfl rfl .nil) fun Az Hz => ?_
 refine wsk fun K2 hK2 => ?_
 refine bc Hz 11 ?_ ?_
 ·
  intro hb9 Hz; try simp only [QQ, Qax] at hb9
  have hk : k < l.length := by omega
  obtain ⟨t, hes⟩ : ∃ e, l[k]? = some e := ⟨_, List.getElem?_eq_getElem hk⟩
  have htb := hlb _ (List.mem_of_getElem? hes)
  refine wct Hz ?_
  refine zss (hK2 _ _ ?_)
  refine wsk fun K3 hK3 => ?_
  refine wp_block ?_
  refine zsr fun K4 hK4 => ?_
  obtain ⟨gx11, ox11, vx11, hp11, hl11, hR11, hrg11⟩ := h1.extA (k) (r := [.v (.int .i64 t.id), .v (.int .i64 t.c.kd), .v (.int .i64 t.c.vo), .v (.int .i64 t.c.bl), .v (.int .i64 t.c.sz), .v (.int .i64 t.c.pe), .ns .i64 t.c.pl, .v (.int .i64 t.c.to), .v (.int .i64 t.c.at0), .v (.int .i64 t.c.ix), .l 2 (t.c.its.map itD), .v (.int .i64 t.fr), .v (.int .i64 t.to), .v (.int .i64 t.e9), .v (.int .i64 t.rl), .v (.int .i64 t.rf), .v (.int .i64 t.rn), .ns .u8 t.da]) (tl_get hes)
  revert Hz
  cases hp11
  rcases hR11 with _ | ⟨hd11_0, _ | ⟨hd11_1, _ | ⟨hd11_2, _ | ⟨hd11_3, _ | ⟨hd11_4, _ | ⟨hd11_5, _ | ⟨hd11_6, _ | ⟨hd11_7, _ | ⟨hd11_8, _ | ⟨hd11_9, _ | ⟨hd11_10, _ | ⟨hd11_11, _ | ⟨hd11_12, _ | ⟨hd11_13, _ | ⟨hd11_14, _ | ⟨hd11_15, _ | ⟨hd11_16, _ | ⟨hd11_17, _ | _⟩⟩⟩⟩⟩⟩⟩⟩⟩⟩⟩⟩⟩⟩⟩⟩⟩⟩
  obtain rfl := hd11_0.v_out
  clear hd11_0
  obtain rfl := hd11_1.v_out
  clear hd11_1
  obtain rfl := hd11_2.v_out
  clear hd11_2
  obtain rfl := hd11_3.v_out
  clear hd11_3
  obtain rfl := hd11_4.v_out
  clear hd11_4
  obtain rfl := hd11_5.v_out
  clear hd11_5
  obtain ⟨p12, c12, hv12, hw12⟩ := hd11_6.ns_shape; subst hv12
  obtain rfl := hd11_7.v_out
  clear hd11_7
  obtain rfl := hd11_8.v_out
  clear hd11_8
  obtain rfl := hd11_9.v_out
  clear hd11_9
  obtain ⟨p13, c13, hv13, hw13⟩ := hd11_10.l_shape; subst hv13
  obtain rfl := hd11_11.v_out
  clear hd11_11
  obtain rfl := hd11_12.v_out
  clear hd11_12
  obtain rfl := hd11_13.v_out
  clear hd11_13
  obtain rfl := hd11_14.v_out
  clear hd11_14
  obtain rfl := hd11_15.v_out
  clear hd11_15
  obtain rfl := hd11_16.v_out
  clear hd11_16
  obtain ⟨p14, c14, hv14, hw14⟩ := hd11_17.ns_shape; subst hv14
  intro Hz
  refine goCh Hz (.c rfl (fun _ h_ => y_idx h_ rfl rfl U74 fct16 (k) rfl hk) <| .loadAt (hrg11 m7 rfl) rfl U76 rfl fct16 .nil) fun Az Hz => ?_
  refine plz (e_alloc Hz m7 103 fct38 rfl fun g17 Az w18 Hz m18 _ _ => ?_)
  refine plz (stw Hz m18 103 fct16 fun w19 m19 _ => ?_)
  refine znl (hK4 _ _ ?_)
  refine wsk fun K5 hK5 => ?_
  refine zsr fun K6 hK6 => ?_
  refine goCh Hz (.loadBR m19 (i := 103) rfl rfl U76 rfl fct16 (by simp) (by dsimp only [List.drop, List.take] <;> rfl) .nil) fun Az Hz => ?_
  refine plz (ecb Hz Tryz.func125 rfl m19 (gra_x t _ _ _ _ _ _ _ _ _ _) fun Az w22 Hz m23 => ?_)
  refine goCh Hz (.not rfl <| .move rfl .nil) fun Az Hz => ?_
  refine bc Hz 17 ?_ ?_
  ·
   intro hb27 Hz; try simp only [QQ, Qax] at hb27
   have hst : tolB v t = true := tol_g hb27
   refine gz hK6 Hz (.sk <| .sk <| .sk <| .sk <| .pickT rfl rfl <| .nil) fun Az Hz => ?_
   refine wct Hz ?_
   refine wp_exit ?_
   refine hK3 _ _ ?_
   replace Hz := Hz.oz [3, 8, 9, 10]
   refine wp_region_lit ?_
   refine goCh Hz (.inc (k + 1) <| .move rfl .nil) fun Az Hz => ?_
   refine wpList_nil ?_
   show ∃ n', n' < _ ∧ _
   exact ⟨l.length - (k + 1), by omega, k + 1, _, by omega, all_step htk hes hst, rfl, Hz.only [3, 8, 9, 10], m23.only [30]⟩
  intro hb27 Hz; try simp only [QQ, Qax] at hb27
  refine goCh Hz (.loadBRZ m23 (i := 103) rfl rfl U76 rfl fct16 (by simp) (by dsimp only [List.drop, List.take] <;> rfl) .nil) fun Az Hz => ?_
  refine stz Hz (e_litN Hz m23 104 (k := .i64) rfl rfl U35 fct17 rfl rfl rfl rfl fun g37 Az w38 Hz m38 => ?_)
  have m39 := m38.freezeN 104 rfl
  refine stz Hz (ecb Hz Tryz.func126 rfl m39 (is_x t [2, 6] _ _ _ _ _ _ _ _ _ _ _ _ (by decide) ((m39.rd (i := 104) rfl).any)) fun Az w40 Hz m41 => ?_)
  refine gz hK6 Hz (.notZ rfl <| .pickF rfl rfl <| .nil) fun Az Hz => ?_
  refine bc Hz 22 ?_ ?_
  ·
   intro hb45 Hz; try simp only [QQ, Qax] at hb45
   have hst : tolB v t = true := tol_i hb45
   refine wct Hz ?_
   refine wp_exit ?_
   refine hK3 _ _ ?_
   replace Hz := Hz.oz [3, 8, 9, 10]
   refine wp_region_lit ?_
   refine goCh Hz (.inc (k + 1) <| .move rfl .nil) fun Az Hz => ?_
   refine wpList_nil ?_
   show ∃ n', n' < _ ∧ _
   exact ⟨l.length - (k + 1), by omega, k + 1, _, by omega, all_step htk hes hst, rfl, Hz.only [3, 8, 9, 10], m41.only [30]⟩
  intro hb45 Hz; try simp only [QQ, Qax] at hb45
  refine wcf Hz ?_
  refine zss (hK5 _ _ ?_)
  replace Hz := Hz.oz [3, 8, 9, 10, 6]
  refine regS Hz (.fieldAddr (off := 13) rfl U76 rfl (s := 4) (by kernel_rfl) rfl <| .fa 14 rfl U44 <| .lb m41 103 U2 rfl rfl rfl <| .assign rfl .nil) fun Az Hz => ?_
  refine wsk fun K7 hK7 => ?_
  refine zsr fun K8 hK8 => ?_
  refine goCh Hz (.move rfl <| .lss rfl rfl <| .move rfl .nil) fun Az Hz => ?_
  refine bc Hz 28 ?_ ?_
  ·
   intro hb60 Hz; try simp only [QQ, Qax] at hb60
   have hR : l.all (tolB v) = false := all_no hes (tol_lt hb60 hb27 hb45)
   refine gz hK8 Hz (.sk <| .sk <| .sk <| .sk <| .pickT rfl rfl <| .nil) fun Az Hz => ?_
   refine wct Hz ?_
   replace Hz := Hz.oz [3, 8, 9, 10, 6, 7]
   refine regS Hz (.assign rfl .nil) fun Az Hz => ?_
   refine rt1 Hz ?_
   exact ⟨by rw [hR], m41.below⟩
  intro hb60 Hz; try simp only [QQ, Qax] at hb60
  have h28 := hb60
  refine goCh Hz (.moveZ rfl <| .loadBRZ m41 (i := 30) rfl rfl U51 rfl fct13 (by simp) (by dsimp only [List.drop, List.take] <;> rfl) .nil) fun Az Hz => ?_
  refine stz Hz (ecb Hz Tryz.func111 rfl m41 (vlen_any _ _ _ _ _ _ _ _ _ _ _ _ _ _ _ _ _ _) fun Az w70 Hz m71 => ?_)
  refine gz hK8 Hz (.gtrZ rfl rfl <| .pickF rfl rfl <| .nil) fun Az Hz => ?_
  refine bc Hz 33 ?_ ?_
  ·
   intro hb75 Hz; try simp only [QQ, Qax] at hb75
   have hR : l.all (tolB v) = false := all_no hes (tol_gt hb75 hb27 hb45)
   refine wct Hz ?_
   replace Hz := Hz.oz [3, 8, 9, 10, 6, 7]
   refine regS Hz (.assign rfl .nil) fun Az Hz => ?_
   refine rt1 Hz ?_
   exact ⟨by rw [hR], m71.below⟩
  intro hb75 Hz; try simp only [QQ, Qax] at hb75
  have hwj : (t.rl - 1).toNat < v.ws.length := by omega
  obtain ⟨⟨wb, wi⟩, hws⟩ : ∃ e, v.ws[(t.rl - 1).toNat]? = some e := ⟨_, List.getElem?_eq_getElem hwj⟩
  have hwg : v.ws.getD (t.rl - 1).toNat (0, []) = (wb, wi) := by rw [List.getD, hws]; rfl
  have hwi := hvb _ (List.mem_of_getElem? hws)
  refine wcf Hz ?_
  refine zss (hK7 _ _ ?_)
  refine wsk fun K9 hK9 => ?_
  replace Hz := Hz.oz [3, 8, 9, 10, 6, 7]
  obtain ⟨gx80, ox80, vx80, hp80, hl80, hR80, hrg80⟩ := h3.extA ((t.rl - 1).toNat) (r := [.v (.int .i64 wb), .l 2 (wi.map itD)]) (wrD_get hws)
  revert Hz
  cases hp80
  rcases hR80 with _ | ⟨hd80_0, _ | ⟨hd80_1, _ | _⟩⟩
  obtain rfl := hd80_0.v_out
  clear hd80_0
  obtain ⟨p81, c81, hv81, hw81⟩ := hd80_1.l_shape; subst hv81
  intro Hz
  have m82 := m71.oz [30, 103, 104]
  refine region_p 17 (B := [(30, _), (103, _), (104, _)]) (m82.to ⟨il, il, il, trivial⟩) m82 (by kernel_rfl) (fun w83 hP83 m83 => ?_); clear m82
  refine goR hP83 [0] [0] 1 0 1 Hz (m83.to ⟨il, il, il, trivial⟩) (.loadBR hh (i := 103) rfl rfl U76 rfl fct16 (by simp) (by dsimp only [List.drop, List.take] <;> rfl) .nil) fun Az Hz => ?_
  refine so 1 ?_
  refine e_litN Hz m83 106 (k := .i64) rfl rfl U35 fct17 rfl rfl rfl rfl fun g85 Az w86 Hz m86 => ?_
  refine ⟨m86.to ⟨il, il, il, trivial⟩, ?_⟩
  have m87 := m86.freezeN 106 rfl
  refine so 2 ?_
  refine ecb Hz Tryz.func126 rfl m87 (is_x t [2] _ _ _ _ _ _ _ _ _ _ _ _ (by decide) ((m87.rd (i := 106) rfl).any)) fun Az w88 Hz m89 => ?_
  refine ⟨m89.to ⟨il, il, il, trivial⟩, ?_⟩
  refine goA hP83 [3] 1 7 15 Hz (m89.to ⟨il, il, il, trivial⟩) (.move rfl .nil) fun Az Hz => ?_
  refine bc Hz 37 ?_ ?_
  ·
   intro hb92 Hz; try simp only [QQ, Qax] at hb92
   refine goR hP83 [4, 5, 6, 7, 8, 9, 10, 11, 12, 13] [6, 8, 13] 10 15 16383 Hz (m89.to ⟨il, il, il, trivial⟩) (.fieldAddr (off := 1) rfl U76 rfl (s := 9) (by kernel_rfl) rfl <| .fa 10 rfl U38 <| .lb hh 103 U36 rfl rfl rfl <| .fa 10 rfl U51 <| .lb hh 30 U49 rfl rfl rfl <| .move rfl <| .sub rfl rfl (IntWalk.i64_in _ (by omega)) <| .p (fun _ _ h_ => y_idx h_ rfl rfl U49 fct7 ((t.rl - 1).toNat) (by omega) hwj) <| .fieldAddrQ 1 rfl U103 rfl (s := 0) (by kernel_rfl) rfl <| .loadAt1 (fun _ h_ => (hrg80 h_ rfl)) (q := 1) rfl rfl rfl U36 rfl .nil) fun Az Hz => ?_
   refine stepE_only 14 rfl (by kernel_rfl) (wantedG Hz rfl rfl rfl rfl) (fun K hK => ?_)
   refine e_call Hz Tryz.func124 rfl rfl rfl rfl (mpsi t.c.its wi _ _ _ _ _ _ _ ((hd11_10.now' m89 rfl).any) ((hd80_1.now' m89 rfl).any) htb.1 hwi.1 htb.2 hwi.2) ?_
   rintro e w103 ⟨rfl, hb103⟩
   have m104 := m89.later hb103
   refine ⟨_, rfl, ?_⟩; intro Az Hz
   refine hK _ _ (m104.to ⟨il, il, il, trivial⟩) ?_; clear hK K
   refine goA hP83 [15, 16] 2 32767 131071 Hz (m104.to ⟨il, il, il, trivial⟩) (.not rfl <| .pickT rfl rfl .nil) fun Az Hz => ?_
   refine wpAnyE_done (by kernel_rfl) ?_ _
   refine hK9 _ _ ?_
   refine bc Hz 50 ?_ ?_
   ·
    intro hb108 Hz; try simp only [QQ, Qax] at hb108
    have hR : l.all (tolB v) = false := all_no hes (tol_ne (by rw [hwg]; exact hb108) hb92 hb27 hb45)
    refine wct Hz ?_
    replace Hz := Hz.oz [3, 8, 9, 10]
    refine regS Hz (.assign rfl .nil) fun Az Hz => ?_
    refine rt1 Hz ?_
    exact ⟨by rw [hR], m104.below⟩
   intro hb108 Hz; try simp only [QQ, Qax] at hb108
   have hst : tolB v t = true := tol_eq h28 (by omega) (by rw [hwg]; exact hb108)
   refine wcf Hz ?_
   refine zss (hK3 _ _ ?_)
   replace Hz := Hz.oz [3, 8, 9, 10]
   refine wp_region_lit ?_
   refine goCh Hz (.inc (k + 1) <| .move rfl .nil) fun Az Hz => ?_
   refine wpList_nil ?_
   show ∃ n', n' < _ ∧ _
   exact ⟨l.length - (k + 1), by omega, k + 1, _, by omega, all_step htk hes hst, rfl, Hz.only [3, 8, 9, 10], m104.only [30]⟩
  intro hb92 Hz; try simp only [QQ, Qax] at hb92
  have hst : tolB v t = true := tol_p h28 (by omega) hb92
  refine goA hP83 [4, 5, 6, 7, 8, 9, 10, 11, 12, 13, 14, 15, 16] 13 15 131071 Hz (m89.to ⟨il, il, il, trivial⟩) (.s <| .s <| .s <| .s <| .s <| .s <| .s <| .s <| .s <| .s <| .s <| .s <| .pickF rfl rfl .nil) fun Az Hz => ?_
  refine wpAnyE_done (by kernel_rfl) ?_ _
  refine hK9 _ _ ?_
  refine wcf Hz ?_
  refine zss (hK3 _ _ ?_)
  replace Hz := Hz.oz [3, 8, 9, 10]
  refine wp_region_lit ?_
  refine goCh Hz (.inc (k + 1) <| .move rfl .nil) fun Az Hz => ?_
  refine wpList_nil ?_
  show ∃ n', n' < _ ∧ _
  exact ⟨l.length - (k + 1), by omega, k + 1, _, by omega, all_step htk hes hst, rfl, Hz.only [3, 8, 9, 10], m89.only [30]⟩
 intro hb9 Hz; try simp only [QQ, Qax] at hb9
 have hR : l.all (tolB v) = true := by rwa [List.take_of_length_le (by omega)] at htk
 refine wcf Hz ?_
 refine wp_exit ?_
 refine hK1 _ _ ?_
 refine regS Hz (.assign rfl .nil) fun Az Hz => ?_
 refine rt1 Hz ?_
 exact ⟨by rw [hR], m7.below⟩
theorem unlike_x (l : List Tl) (pl : Option Addr) (nl cl : Nat) (w0 : World) (h1 : Rd (fun _ => True) w0 (.slice pl nl cl) (.l 18 (l.map tlD))) (hl9 : l.length ≤ 1000) :
   Calls Tryz.prog 86 #[.slice pl nl cl] w0 fun e w' => e = .returned (.bool (unlL l)) ∧ Below w0.heap.size w0 w' := by
 obtain rfl : nl = l.length := by obtain ⟨pq, cq, hv, _⟩ := h1.l_shape; injection hv with _ e2 _; rw [List.length_map] at e2; exact e2
 refine ent1 Tryz.func86 rfl Tryz.ntmps86 fun Az Hz => ?_
 have m0 := MemOk.start (fun _ => False) w0
 refine regS Hz (.assign rfl .nil) fun Az Hz => ?_
 refine wsk fun K0 hK0 => ?_
 refine regS Hz (.move rfl <| .len rfl U74 <| .move rfl .nil) fun Az Hz => ?_
 refine wp_block ?_
 refine wp_loop_ghost (fun g a w => ∃ k : Nat, k ≤ l.length ∧ unlP l k ∧ g = l.length - k ∧ Has 51 [(0, .slice pl l.length cl), (8, .slice pl l.length cl), (9, .int .i64 l.length), (10, .int .i64 k)] a ∧ MemOk (cn w0) w0 [] w) (l.length) ?_ ?_
 · exact ⟨0, Nat.zero_le _, unlP_0, rfl, Hz.only [0, 8, 9, 10], m0.only []⟩
 clear Hz m0
 rintro g Az w5 ⟨k, hkl, hun, hg, Hz, m5⟩
 refine regS Hz (.lss rfl rfl .nil) fun Az Hz => ?_
 refine wsk fun K1 hK1 => ?_
 refine bc Hz 11 ?_ ?_
 ·
  intro hb7 Hz; try simp only [QQ, Qax] at hb7
  have hk : k < l.length := by omega
  obtain ⟨t, hes⟩ : ∃ e, l[k]? = some e := ⟨_, List.getElem?_eq_getElem hk⟩
  refine wct Hz ?_
  refine zss (hK1 _ _ ?_)
  refine wsk fun K2 hK2 => ?_
  refine wp_block ?_
  refine zsr fun K3 hK3 => ?_
  refine goCh Hz (.move rfl .nil) fun Az Hz => ?_
  obtain ⟨gx11, ox11, vx11, hp11, hl11, hR11, hrg11⟩ := h1.extA (k) (r := [.v (.int .i64 t.id), .v (.int .i64 t.c.kd), .v (.int .i64 t.c.vo), .v (.int .i64 t.c.bl), .v (.int .i64 t.c.sz), .v (.int .i64 t.c.pe), .ns .i64 t.c.pl, .v (.int .i64 t.c.to), .v (.int .i64 t.c.at0), .v (.int .i64 t.c.ix), .l 2 (t.c.its.map itD), .v (.int .i64 t.fr), .v (.int .i64 t.to), .v (.int .i64 t.e9), .v (.int .i64 t.rl), .v (.int .i64 t.rf), .v (.int .i64 t.rn), .ns .u8 t.da]) (tl_get hes)
  revert Hz
  cases hp11
  rcases hR11 with _ | ⟨hd11_0, _ | ⟨hd11_1, _ | ⟨hd11_2, _ | ⟨hd11_3, _ | ⟨hd11_4, _ | ⟨hd11_5, _ | ⟨hd11_6, _ | ⟨hd11_7, _ | ⟨hd11_8, _ | ⟨hd11_9, _ | ⟨hd11_10, _ | ⟨hd11_11, _ | ⟨hd11_12, _ | ⟨hd11_13, _ | ⟨hd11_14, _ | ⟨hd11_15, _ | ⟨hd11_16, _ | ⟨hd11_17, _ | _⟩⟩⟩⟩⟩⟩⟩⟩⟩⟩⟩⟩⟩⟩⟩⟩⟩⟩
  obtain rfl := hd11_0.v_out
  clear hd11_0
  obtain rfl := hd11_1.v_out
  clear hd11_1
  obtain rfl := hd11_2.v_out
  clear hd11_2
  obtain rfl := hd11_3.v_out
  clear hd11_3
  obtain rfl := hd11_4.v_out
  clear hd11_4
  obtain rfl := hd11_5.v_out
  clear hd11_5
  obtain ⟨p12, c12, hv12, hw12⟩ := hd11_6.ns_shape; subst hv12
  obtain rfl := hd11_7.v_out
  clear hd11_7
  obtain rfl := hd11_8.v_out
  clear hd11_8
  obtain rfl := hd11_9.v_out
  clear hd11_9
  obtain ⟨p13, c13, hv13, hw13⟩ := hd11_10.l_shape; subst hv13
  obtain rfl := hd11_11.v_out
  clear hd11_11
  obtain rfl := hd11_12.v_out
  clear hd11_12
  obtain rfl := hd11_13.v_out
  clear hd11_13
  obtain rfl := hd11_14.v_out
  clear hd11_14
  obtain rfl := hd11_15.v_out
  clear hd11_15
  obtain rfl := hd11_16.v_out
  clear hd11_16
  obtain ⟨p14, c14, hv14, hw14⟩ := hd11_17.ns_shape; subst hv14
  intro Hz
  refine goCh Hz (.c rfl (fun _ h_ => y_idx h_ rfl rfl U74 fct16 (k) rfl hk) <| .loadAt (hrg11 m5 rfl) rfl U76 rfl fct16 .nil) fun Az Hz => ?_
  refine plz (e_alloc Hz m5 103 fct38 rfl fun g17 Az w18 Hz m18 _ _ => ?_)
  refine goCh Hz (.assign rfl .nil) fun Az Hz => ?_
  refine plz (stw Hz m18 103 fct16 fun w20 m20 _ => ?_)
  refine znl (hK3 _ _ ?_)
  refine zsr fun K4 hK4 => ?_
  refine goCh Hz (.move rfl <| .move rfl .nil) fun Az Hz => ?_
  have h1t := takeT h1 hkl
  refine gz hK4 Hz (.c rfl (fun _ h_ => y_sliceHn h_ k rfl rfl U74 fct16 rfl (Nat.le_trans hkl h1.capT)) <| .len rfl U74 <| .move rfl <| .nil) fun Az Hz => ?_
  refine wp_block ?_
  refine wp_loop_ghost (fun g a w => ∃ (j B : Nat) (xp1 xp2 xp3 : Option Addr) (xn1 xc1 xn2 xc2 xn3 xc3 : Nat), j ≤ k ∧ (∀ i, i < j → ∀ u, l[i]? = some u → unl1 t u = true) ∧ g = k - j ∧ Has 51 [(0, .slice (some ⟨gx11, ox11, none⟩) l.length cl), (4, .pointer (some ⟨B, 0, none⟩)), (8, .slice (some ⟨gx11, ox11, none⟩) l.length cl), (9, .int .i64 l.length), (10, .int .i64 k), (17, .slice (some ⟨gx11, ox11, none⟩) k cl), (18, .int .i64 k), (19, .int .i64 j)] a ∧ MemOk (cn w0) w0 [(30, .box B 76 [.int .i64 t.id, .int .i64 t.c.kd, .int .i64 t.c.vo, .int .i64 t.c.bl, .int .i64 t.c.sz, .int .i64 t.c.pe, .slice xp1 xn1 xc1, .int .i64 t.c.to, .int .i64 t.c.at0, .int .i64 t.c.ix, .slice xp2 xn2 xc2, .int .i64 t.fr, .int .i64 t.to, .int .i64 t.e9, .int .i64 t.rl, .int .i64 t.rf, .int .i64 t.rn, .slice xp3 xn3 xc3])] w) (k) ?_ ?_
  · exact ⟨0, _, _, _, _, _, _, _, _, _, _, Nat.zero_le _, (fun i hi => absurd hi (Nat.not_lt_zero i)), rfl, Hz.only [0, 4, 8, 9, 10, 17, 18, 19], m20.ren [(30, 103)] (by decide)⟩
  clear Hz m20
  rintro g Az w28 ⟨j, B, xp1, xp2, xp3, xn1, xc1, xn2, xc2, xn3, xc3, hjl, hjn, hg2, Hz, m28⟩
  refine regS Hz (.lss rfl rfl .nil) fun Az Hz => ?_
  refine wsk fun K5 hK5 => ?_
  refine bc Hz 20 ?_ ?_
  ·
   intro hb30 Hz; try simp only [QQ, Qax] at hb30
   have hj : j < k := by omega
   obtain ⟨u, hfs⟩ : ∃ e, l[j]? = some e := ⟨_, List.getElem?_eq_getElem (by omega)⟩
   have hft : (l.take k)[j]? = some u := by rw [List.getElem?_take_of_lt hj]; exact hfs
   refine wct Hz ?_
   refine zss (hK5 _ _ ?_)
   refine wsk fun K6 hK6 => ?_
   refine wp_block ?_
   refine zsr fun K7 hK7 => ?_
   obtain ⟨gx32, ox32, vx32, hp32, hl32, hR32, hrg32⟩ := h1t.extA (j) (r := [.v (.int .i64 u.id), .v (.int .i64 u.c.kd), .v (.int .i64 u.c.vo), .v (.int .i64 u.c.bl), .v (.int .i64 u.c.sz), .v (.int .i64 u.c.pe), .ns .i64 u.c.pl, .v (.int .i64 u.c.to), .v (.int .i64 u.c.at0), .v (.int .i64 u.c.ix), .l 2 (u.c.its.map itD), .v (.int .i64 u.fr), .v (.int .i64 u.to), .v (.int .i64 u.e9), .v (.int .i64 u.rl), .v (.int .i64 u.rf), .v (.int .i64 u.rn), .ns .u8 u.da]) (tl_get hft)
   revert Hz
   cases hp32
   rcases hR32 with _ | ⟨hd32_0, _ | ⟨hd32_1, _ | ⟨hd32_2, _ | ⟨hd32_3, _ | ⟨hd32_4, _ | ⟨hd32_5, _ | ⟨hd32_6, _ | ⟨hd32_7, _ | ⟨hd32_8, _ | ⟨hd32_9, _ | ⟨hd32_10, _ | ⟨hd32_11, _ | ⟨hd32_12, _ | ⟨hd32_13, _ | ⟨hd32_14, _ | ⟨hd32_15, _ | ⟨hd32_16, _ | ⟨hd32_17, _ | _⟩⟩⟩⟩⟩⟩⟩⟩⟩⟩⟩⟩⟩⟩⟩⟩⟩⟩
   obtain rfl := hd32_0.v_out
   clear hd32_0
   obtain rfl := hd32_1.v_out
   clear hd32_1
   obtain rfl := hd32_2.v_out
   clear hd32_2
   obtain rfl := hd32_3.v_out
   clear hd32_3
   obtain rfl := hd32_4.v_out
   clear hd32_4
   obtain rfl := hd32_5.v_out
   clear hd32_5
   obtain ⟨p33, c33, hv33, hw33⟩ := hd32_6.ns_shape; subst hv33
   obtain rfl := hd32_7.v_out
   clear hd32_7
   obtain rfl := hd32_8.v_out
   clear hd32_8
   obtain rfl := hd32_9.v_out
   clear hd32_9
   obtain ⟨p34, c34, hv34, hw34⟩ := hd32_10.l_shape; subst hv34
   obtain rfl := hd32_11.v_out
   clear hd32_11
   obtain rfl := hd32_12.v_out
   clear hd32_12
   obtain rfl := hd32_13.v_out
   clear hd32_13
   obtain rfl := hd32_14.v_out
   clear hd32_14
   obtain rfl := hd32_15.v_out
   clear hd32_15
   obtain rfl := hd32_16.v_out
   clear hd32_16
   obtain ⟨p35, c35, hv35, hw35⟩ := hd32_17.ns_shape; subst hv35
   intro Hz
   refine goCh Hz (.c rfl (fun _ h_ => y_idx h_ rfl rfl U74 fct16 (j) rfl hj) <| .loadAt (hrg32 m28 rfl) rfl U76 rfl fct16 .nil) fun Az Hz => ?_
   refine plz (e_alloc Hz m28 203 fct38 rfl fun g38 Az w39 Hz m39 _ _ => ?_)
   refine plz (stw Hz m39 203 fct16 fun w40 m40 _ => ?_)
   refine znl (hK7 _ _ ?_)
   refine zsr fun K8 hK8 => ?_
   refine goCh Hz (.loadBR m40 (i := 30) rfl rfl U76 rfl fct16 (by simp) (by dsimp only [List.drop, List.take] <;> rfl) .nil) fun Az Hz => ?_
   refine plz (ecb Hz Tryz.func125 rfl m40 (gra_x t _ _ _ _ _ _ _ _ _ _) fun Az w43 Hz m44 => ?_)
   refine goCh Hz (.move rfl .nil) fun Az Hz => ?_
   refine bc Hz 25 ?_ ?_
   ·
    intro hb47 Hz; try simp only [QQ, Qax] at hb47
    refine goCh Hz (.loadBRZ m44 (i := 30) rfl rfl U76 rfl fct16 (by simp) (by dsimp only [List.drop, List.take] <;> rfl) .nil) fun Az Hz => ?_
    refine stz Hz (e_litN Hz m44 204 (k := .i64) rfl rfl U35 fct17 rfl rfl rfl rfl fun g49 Az w50 Hz m50 => ?_)
    have m51 := m50.freezeN 204 rfl
    refine stz Hz (ecb Hz Tryz.func126 rfl m51 (is_x t [2] _ _ _ _ _ _ _ _ _ _ _ _ (by decide) ((m51.rd (i := 204) rfl).any)) fun Az w52 Hz m53 => ?_)
    refine goCh Hz (.pickT rfl rfl <| .move rfl .nil) fun Az Hz => ?_
    refine bc Hz 30 ?_ ?_
    ·
     intro hb57 Hz; try simp only [QQ, Qax] at hb57
     refine goCh Hz (.loadBRZ m53 (i := 203) rfl rfl U76 rfl fct16 (by simp) (by dsimp only [List.drop, List.take] <;> rfl) .nil) fun Az Hz => ?_
     refine stz Hz (ecb Hz Tryz.func125 rfl m53 (gra_x u _ _ _ _ _ _ _ _ _ _) fun Az w59 Hz m60 => ?_)
     refine goCh Hz (.pickT rfl rfl <| .move rfl .nil) fun Az Hz => ?_
     refine bc Hz 34 ?_ ?_
     ·
      intro hb64 Hz; try simp only [QQ, Qax] at hb64
      refine goCh Hz (.loadBRZ m60 (i := 203) rfl rfl U76 rfl fct16 (by simp) (by dsimp only [List.drop, List.take] <;> rfl) .nil) fun Az Hz => ?_
      refine stz Hz (e_litN Hz m60 205 (k := .i64) rfl rfl U35 fct17 rfl rfl rfl rfl fun g66 Az w67 Hz m67 => ?_)
      have m68 := m67.freezeN 205 rfl
      refine stz Hz (ecb Hz Tryz.func126 rfl m68 (is_x u [2] _ _ _ _ _ _ _ _ _ _ _ _ (by decide) ((m68.rd (i := 205) rfl).any)) fun Az w69 Hz m70 => ?_)
      refine gz hK8 Hz (.pickT rfl rfl <| .assign rfl <| .nil) fun Az Hz => ?_
      replace Hz := Hz.oz [0, 4, 8, 9, 10, 17, 18, 19, 6, 7]
      refine zsr fun K9 hK9 => ?_
      refine goCh Hz (.move rfl <| .move rfl .nil) fun Az Hz => ?_
      refine bc Hz 40 ?_ ?_
      ·
       intro hb79 Hz; try simp only [QQ, Qax] at hb79
       refine gz hK9 Hz (.fieldAddrZ (off := 13) rfl U76 rfl (s := 4) (by kernel_rfl) rfl <| .faZ 14 rfl U44 <| .loadB1Z m70 (i := 30) rfl rfl rfl U2 rfl <| .fieldAddrZ (off := 13) rfl U76 rfl (s := 4) (by kernel_rfl) rfl <| .faZ 14 rfl U44 <| .loadB1Z m70 (i := 203) rfl rfl rfl U2 rfl <| .eqlZ rfl rfl <| .pickT rfl rfl <| .nil) fun Az Hz => ?_
       refine bc Hz 48 ?_ ?_
       ·
        intro hb88 Hz; try simp only [QQ, Qax] at hb88
        have hR : unlL l = false := unl_no hes hfs hj (by simp [unl1, hb47, hb57, hb64, hb79, hb88])
        refine wct Hz ?_
        replace Hz := Hz.oz [0, 4, 8, 9, 10, 17, 18, 19]
        refine regS Hz (.assign rfl .nil) fun Az Hz => ?_
        refine rt1 Hz ?_
        exact ⟨by rw [hR], m70.below⟩
       intro hb88 Hz; try simp only [QQ, Qax] at hb88
       refine wcf Hz ?_
       refine zss (hK6 _ _ ?_)
       replace Hz := Hz.oz [0, 4, 8, 9, 10, 17, 18, 19]
       refine wp_region_lit ?_
       refine goCh Hz (.inc (j + 1) <| .move rfl .nil) fun Az Hz => ?_
       refine wpList_nil ?_
       show ∃ n', n' < _ ∧ _
       have hst : unl1 t u = true := by first | (simp [unl1, hb47, hb57, hb64, hb79, hb88]; done) | (simp [unl1, hb47, hb57, hb64, hb79, hb88]; omega)
       exact ⟨k - (j + 1), by omega, j + 1, _, _, _, _, _, _, _, _, _, _, by omega, lt_snoc hjn hfs hst, rfl, Hz.only [0, 4, 8, 9, 10, 17, 18, 19], m70.only [30]⟩
      intro hb79 Hz; try simp only [QQ, Qax] at hb79
      refine gz hK9 Hz (.sk <| .sk <| .sk <| .sk <| .sk <| .sk <| .sk <| .pickF rfl rfl <| .nil) fun Az Hz => ?_
      refine wcf Hz ?_
      refine zss (hK6 _ _ ?_)
      replace Hz := Hz.oz [0, 4, 8, 9, 10, 17, 18, 19]
      refine wp_region_lit ?_
      refine goCh Hz (.inc (j + 1) <| .move rfl .nil) fun Az Hz => ?_
      refine wpList_nil ?_
      show ∃ n', n' < _ ∧ _
      have hst : unl1 t u = true := by first | (simp [unl1, hb47, hb57, hb64, hb79]; done) | (simp [unl1, hb47, hb57, hb64, hb79]; omega)
      exact ⟨k - (j + 1), by omega, j + 1, _, _, _, _, _, _, _, _, _, _, by omega, lt_snoc hjn hfs hst, rfl, Hz.only [0, 4, 8, 9, 10, 17, 18, 19], m70.only [30]⟩
     intro hb64 Hz; try simp only [QQ, Qax] at hb64
     refine gz hK8 Hz (.sk <| .sk <| .sk <| .pickF rfl rfl <| .assign rfl <| .nil) fun Az Hz => ?_
     replace Hz := Hz.oz [0, 4, 8, 9, 10, 17, 18, 19, 6, 7]
     refine regS Hz (.move rfl <| .move rfl <| .sk <| .sk <| .sk <| .sk <| .sk <| .sk <| .sk <| .pickF rfl rfl .nil) fun Az Hz => ?_
     refine wcf Hz ?_
     refine zss (hK6 _ _ ?_)
     replace Hz := Hz.oz [0, 4, 8, 9, 10, 17, 18, 19]
     refine wp_region_lit ?_
     refine goCh Hz (.inc (j + 1) <| .move rfl .nil) fun Az Hz => ?_
     refine wpList_nil ?_
     show ∃ n', n' < _ ∧ _
     have hst : unl1 t u = true := by first | (simp [unl1, hb47, hb57, hb64]; done) | (simp [unl1, hb47, hb57, hb64]; omega)
     exact ⟨k - (j + 1), by omega, j + 1, _, _, _, _, _, _, _, _, _, _, by omega, lt_snoc hjn hfs hst, rfl, Hz.only [0, 4, 8, 9, 10, 17, 18, 19], m60.only [30]⟩
    intro hb57 Hz; try simp only [QQ, Qax] at hb57
    refine gz hK8 Hz (.sk <| .sk <| .pickF rfl rfl <| .move rfl <| .sk <| .sk <| .sk <| .pickF rfl rfl <| .assign rfl <| .nil) fun Az Hz => ?_
    replace Hz := Hz.oz [0, 4, 8, 9, 10, 17, 18, 19, 6, 7]
    refine regS Hz (.move rfl <| .move rfl <| .sk <| .sk <| .sk <| .sk <| .sk <| .sk <| .sk <| .pickF rfl rfl .nil) fun Az Hz => ?_
    refine wcf Hz ?_
    refine zss (hK6 _ _ ?_)
    replace Hz := Hz.oz [0, 4, 8, 9, 10, 17, 18, 19]
    refine wp_region_lit ?_
    refine goCh Hz (.inc (j + 1) <| .move rfl .nil) fun Az Hz => ?_
    refine wpList_nil ?_
    show ∃ n', n' < _ ∧ _
    have hst : unl1 t u = true := by first | (simp [unl1, hb47, hb57]; done) | (simp [unl1, hb47, hb57]; omega)
    exact ⟨k - (j + 1), by omega, j + 1, _, _, _, _, _, _, _, _, _, _, by omega, lt_snoc hjn hfs hst, rfl, Hz.only [0, 4, 8, 9, 10, 17, 18, 19], m53.only [30]⟩
   intro hb47 Hz; try simp only [QQ, Qax] at hb47
   refine gz hK8 Hz (.sk <| .sk <| .sk <| .pickF rfl rfl <| .move rfl <| .sk <| .sk <| .pickF rfl rfl <| .move rfl <| .sk <| .sk <| .sk <| .pickF rfl rfl <| .assign rfl <| .nil) fun Az Hz => ?_
   replace Hz := Hz.oz [0, 4, 8, 9, 10, 17, 18, 19, 6, 7]
   refine regS Hz (.move rfl <| .move rfl <| .sk <| .sk <| .sk <| .sk <| .sk <| .sk <| .sk <| .pickF rfl rfl .nil) fun Az Hz => ?_
   refine wcf Hz ?_
   refine zss (hK6 _ _ ?_)
   replace Hz := Hz.oz [0, 4, 8, 9, 10, 17, 18, 19]
   refine wp_region_lit ?_
   refine goCh Hz (.inc (j + 1) <| .move rfl .nil) fun Az Hz => ?_
   refine wpList_nil ?_
   show ∃ n', n' < _ ∧ _
   have hst : unl1 t u = true := by first | (simp [unl1, hb47]; done) | (simp [unl1, hb47]; omega)
   exact ⟨k - (j + 1), by omega, j + 1, _, _, _, _, _, _, _, _, _, _, by omega, lt_snoc hjn hfs hst, rfl, Hz.only [0, 4, 8, 9, 10, 17, 18, 19], m44.only [30]⟩
  intro hb30 Hz; try simp only [QQ, Qax] at hb30
  revert Hz
  obtain rfl : k = j := by omega
  intro Hz
  refine wcf Hz ?_
  refine wp_exit ?_
  refine hK2 _ _ ?_
  refine wp_region_lit ?_
  refine goCh Hz (.inc (k + 1) <| .move rfl .nil) fun Az Hz => ?_
  refine wpList_nil ?_
  show ∃ n', n' < _ ∧ _
  exact ⟨l.length - (k + 1), by omega, k + 1, by omega, unlP_s hun hes hjn, rfl, Hz.only [0, 8, 9, 10], m28.only []⟩
 intro hb7 Hz; try simp only [QQ, Qax] at hb7
 have hR : unlL l = true := unl_all (by omega) hun
 refine wcf Hz ?_
 refine wp_exit ?_
 refine hK0 _ _ ?_
 refine regS Hz (.assign rfl .nil) fun Az Hz => ?_
 refine rt1 Hz ?_
 exact ⟨by rw [hR], m5.below⟩
theorem inTime_x (l : List Tl) (pl : Option Addr) (nl cl : Nat) (w0 : World) (h1 : Rd (fun _ => True) w0 (.slice pl nl cl) (.l 18 (l.map tlD))) (hl9 : l.length ≤ 1000) :
   Calls Tryz.prog 87 #[.slice pl nl cl] w0 fun e w' => e = .returned (.bool (intL l)) ∧ Below w0.heap.size w0 w' := by
 obtain rfl : nl = l.length := by obtain ⟨pq, cq, hv, _⟩ := h1.l_shape; injection hv with _ e2 _; rw [List.length_map] at e2; exact e2
 refine ent1 Tryz.func87 rfl Tryz.ntmps87 fun Az Hz => ?_
 have m0 := MemOk.start (fun _ => False) w0
 refine regS Hz (.assign rfl .nil) fun Az Hz => ?_
 refine wsk fun K0 hK0 => ?_
 refine regS Hz (.move rfl <| .len rfl U74 <| .move rfl .nil) fun Az Hz => ?_
 refine wp_block ?_
 refine wp_loop_ghost (fun g a w => ∃ k : Nat, k ≤ l.length ∧ (l.take k).all (fun a => l.all (int1 a)) = true ∧ g = l.length - k ∧ Has 40 [(0, .slice pl l.length cl), (7, .slice pl l.length cl), (8, .int .i64 l.length), (9, .int .i64 k)] a ∧ MemOk (cn w0) w0 [] w) (l.length) ?_ ?_
 · exact ⟨0, Nat.zero_le _, rfl, rfl, Hz.only [0, 7, 8, 9], m0.only []⟩
 clear Hz m0
 rintro g Az w5 ⟨k, hkl, htk, hg, Hz, m5⟩
 refine regS Hz (.lss rfl rfl .nil) fun Az Hz => ?_
 refine wsk fun K1 hK1 => ?_
 refine bc Hz 10 ?_ ?_
 ·
  intro hb7 Hz; try simp only [QQ, Qax] at hb7
  have hk : k < l.length := by omega
  obtain ⟨t, hes⟩ : ∃ e, l[k]? = some e := ⟨_, List.getElem?_eq_getElem hk⟩
  refine wct Hz ?_
  refine zss (hK1 _ _ ?_)
  refine wsk fun K2 hK2 => ?_
  refine wp_block ?_
  refine zsr fun K3 hK3 => ?_
  obtain ⟨gx9, ox9, vx9, hp9, hl9, hR9, hrg9⟩ := h1.extA (k) (r := [.v (.int .i64 t.id), .v (.int .i64 t.c.kd), .v (.int .i64 t.c.vo), .v (.int .i64 t.c.bl), .v (.int .i64 t.c.sz), .v (.int .i64 t.c.pe), .ns .i64 t.c.pl, .v (.int .i64 t.c.to), .v (.int .i64 t.c.at0), .v (.int .i64 t.c.ix), .l 2 (t.c.its.map itD), .v (.int .i64 t.fr), .v (.int .i64 t.to), .v (.int .i64 t.e9), .v (.int .i64 t.rl), .v (.int .i64 t.rf), .v (.int .i64 t.rn), .ns .u8 t.da]) (tl_get hes)
  revert Hz
  cases hp9
  rcases hR9 with _ | ⟨hd9_0, _ | ⟨hd9_1, _ | ⟨hd9_2, _ | ⟨hd9_3, _ | ⟨hd9_4, _ | ⟨hd9_5, _ | ⟨hd9_6, _ | ⟨hd9_7, _ | ⟨hd9_8, _ | ⟨hd9_9, _ | ⟨hd9_10, _ | ⟨hd9_11, _ | ⟨hd9_12, _ | ⟨hd9_13, _ | ⟨hd9_14, _ | ⟨hd9_15, _ | ⟨hd9_16, _ | ⟨hd9_17, _ | _⟩⟩⟩⟩⟩⟩⟩⟩⟩⟩⟩⟩⟩⟩⟩⟩⟩⟩
  obtain rfl := hd9_0.v_out
  clear hd9_0
  obtain rfl := hd9_1.v_out
  clear hd9_1
  obtain rfl := hd9_2.v_out
  clear hd9_2
  obtain rfl := hd9_3.v_out
  clear hd9_3
  obtain rfl := hd9_4.v_out
  clear hd9_4
  obtain rfl := hd9_5.v_out
  clear hd9_5
  obtain ⟨p10, c10, hv10, hw10⟩ := hd9_6.ns_shape; subst hv10
  obtain rfl := hd9_7.v_out
  clear hd9_7
  obtain rfl := hd9_8.v_out
  clear hd9_8
  obtain rfl := hd9_9.v_out
  clear hd9_9
  obtain ⟨p11, c11, hv11, hw11⟩ := hd9_10.l_shape; subst hv11
  obtain rfl := hd9_11.v_out
  clear hd9_11
  obtain rfl := hd9_12.v_out
  clear hd9_12
  obtain rfl := hd9_13.v_out
  clear hd9_13
  obtain rfl := hd9_14.v_out
  clear hd9_14
  obtain rfl := hd9_15.v_out
  clear hd9_15
  obtain rfl := hd9_16.v_out
  clear hd9_16
  obtain ⟨p12, c12, hv12, hw12⟩ := hd9_17.ns_shape; subst hv12
  intro Hz
  refine goCh Hz (.c rfl (fun _ h_ => y_idx h_ rfl rfl U74 fct16 (k) rfl hk) <| .loadAt (hrg9 m5 rfl) rfl U76 rfl fct16 .nil) fun Az Hz => ?_
  refine plz (e_alloc Hz m5 103 fct38 rfl fun g15 Az w16 Hz m16 _ _ => ?_)
  refine plz (stw Hz m16 103 fct16 fun w17 m17 _ => ?_)
  refine znl (hK3 _ _ ?_)
  refine regS Hz (.move rfl <| .len rfl U74 <| .move rfl .nil) fun Az Hz => ?_
  refine wp_block ?_
  refine wp_loop_ghost (fun g a w => ∃ (j B : Nat) (xp1 xp2 xp3 : Option Addr) (xn1 xc1 xn2 xc2 xn3 xc3 : Nat), j ≤ l.length ∧ (l.take j).all (int1 t) = true ∧ g = l.length - j ∧ Has 40 [(0, .slice (some ⟨gx9, ox9, none⟩) l.length cl), (4, .pointer (some ⟨B, 0, none⟩)), (7, .slice (some ⟨gx9, ox9, none⟩) l.length cl), (8, .int .i64 l.length), (9, .int .i64 k), (13, .slice (some ⟨gx9, ox9, none⟩) l.length cl), (14, .int .i64 l.length), (15, .int .i64 j)] a ∧ MemOk (cn w0) w0 [(30, .box B 76 [.int .i64 t.id, .int .i64 t.c.kd, .int .i64 t.c.vo, .int .i64 t.c.bl, .int .i64 t.c.sz, .int .i64 t.c.pe, .slice xp1 xn1 xc1, .int .i64 t.c.to, .int .i64 t.c.at0, .int .i64 t.c.ix, .slice xp2 xn2 xc2, .int .i64 t.fr, .int .i64 t.to, .int .i64 t.e9, .int .i64 t.rl, .int .i64 t.rf, .int .i64 t.rn, .slice xp3 xn3 xc3])] w) (l.length) ?_ ?_
  · exact ⟨0, _, _, _, _, _, _, _, _, _, _, Nat.zero_le _, rfl, rfl, Hz.only [0, 4, 7, 8, 9, 13, 14, 15], m17.ren [(30, 103)] (by decide)⟩
  clear Hz m17
  rintro g Az w21 ⟨j, B, xp1, xp2, xp3, xn1, xc1, xn2, xc2, xn3, xc3, hjl, hjn, hg2, Hz, m21⟩
  refine regS Hz (.lss rfl rfl .nil) fun Az Hz => ?_
  refine wsk fun K4 hK4 => ?_
  refine bc Hz 16 ?_ ?_
  ·
   intro hb23 Hz; try simp only [QQ, Qax] at hb23
   have hj : j < l.length := by omega
   obtain ⟨u, hfs⟩ : ∃ e, l[j]? = some e := ⟨_, List.getElem?_eq_getElem hj⟩
   refine wct Hz ?_
   refine zss (hK4 _ _ ?_)
   refine wsk fun K5 hK5 => ?_
   refine wp_block ?_
   refine zsr fun K6 hK6 => ?_
   obtain ⟨gx25, ox25, vx25, hp25, hl25, hR25, hrg25⟩ := h1.extA (j) (r := [.v (.int .i64 u.id), .v (.int .i64 u.c.kd), .v (.int .i64 u.c.vo), .v (.int .i64 u.c.bl), .v (.int .i64 u.c.sz), .v (.int .i64 u.c.pe), .ns .i64 u.c.pl, .v (.int .i64 u.c.to), .v (.int .i64 u.c.at0), .v (.int .i64 u.c.ix), .l 2 (u.c.its.map itD), .v (.int .i64 u.fr), .v (.int .i64 u.to), .v (.int .i64 u.e9), .v (.int .i64 u.rl), .v (.int .i64 u.rf), .v (.int .i64 u.rn), .ns .u8 u.da]) (tl_get hfs)
   revert Hz
   cases hp25
   rcases hR25 with _ | ⟨hd25_0, _ | ⟨hd25_1, _ | ⟨hd25_2, _ | ⟨hd25_3, _ | ⟨hd25_4, _ | ⟨hd25_5, _ | ⟨hd25_6, _ | ⟨hd25_7, _ | ⟨hd25_8, _ | ⟨hd25_9, _ | ⟨hd25_10, _ | ⟨hd25_11, _ | ⟨hd25_12, _ | ⟨hd25_13, _ | ⟨hd25_14, _ | ⟨hd25_15, _ | ⟨hd25_16, _ | ⟨hd25_17, _ | _⟩⟩⟩⟩⟩⟩⟩⟩⟩⟩⟩⟩⟩⟩⟩⟩⟩⟩
   obtain rfl := hd25_0.v_out
   clear hd25_0
   obtain rfl := hd25_1.v_out
   clear hd25_1
   obtain rfl := hd25_2.v_out
   clear hd25_2
   obtain rfl := hd25_3.v_out
   clear hd25_3
   obtain rfl := hd25_4.v_out
   clear hd25_4
   obtain rfl := hd25_5.v_out
   clear hd25_5
   obtain ⟨p26, c26, hv26, hw26⟩ := hd25_6.ns_shape; subst hv26
   obtain rfl := hd25_7.v_out
   clear hd25_7
   obtain rfl := hd25_8.v_out
   clear hd25_8
   obtain rfl := hd25_9.v_out
   clear hd25_9
   obtain ⟨p27, c27, hv27, hw27⟩ := hd25_10.l_shape; subst hv27
   obtain rfl := hd25_11.v_out
   clear hd25_11
   obtain rfl := hd25_12.v_out
   clear hd25_12
   obtain rfl := hd25_13.v_out
   clear hd25_13
   obtain rfl := hd25_14.v_out
   clear hd25_14
   obtain rfl := hd25_15.v_out
   clear hd25_15
   obtain rfl := hd25_16.v_out
   clear hd25_16
   obtain ⟨p28, c28, hv28, hw28⟩ := hd25_17.ns_shape; subst hv28
   intro Hz
   refine goCh Hz (.c rfl (fun _ h_ => y_idx h_ rfl rfl U74 fct16 (j) rfl hj) <| .loadAt (hrg25 m21 rfl) rfl U76 rfl fct16 .nil) fun Az Hz => ?_
   refine plz (e_alloc Hz m21 203 fct38 rfl fun g31 Az w32 Hz m32 _ _ => ?_)
   refine plz (stw Hz m32 203 fct16 fun w33 m33 _ => ?_)
   refine znl (hK6 _ _ ?_)
   refine zsr fun K7 hK7 => ?_
   refine goCh Hz (.loadBR m33 (i := 30) rfl rfl U76 rfl fct16 (by simp) (by dsimp only [List.drop, List.take] <;> rfl) .nil) fun Az Hz => ?_
   refine plz (ecb Hz Tryz.func127 rfl m33 (see_x t _ _ _ _ _ _ _ _ _ _) fun Az w36 Hz m37 => ?_)
   refine goCh Hz (.move rfl .nil) fun Az Hz => ?_
   refine bc Hz 21 ?_ ?_
   ·
    intro hb40 Hz; try simp only [QQ, Qax] at hb40
    refine goCh Hz (.loadBRZ m37 (i := 203) rfl rfl U76 rfl fct16 (by simp) (by dsimp only [List.drop, List.take] <;> rfl) .nil) fun Az Hz => ?_
    refine stz Hz (ecb Hz Tryz.func127 rfl m37 (see_x u _ _ _ _ _ _ _ _ _ _) fun Az w42 Hz m43 => ?_)
    refine goCh Hz (.pickT rfl rfl <| .move rfl .nil) fun Az Hz => ?_
    refine bc Hz 25 ?_ ?_
    ·
     intro hb47 Hz; try simp only [QQ, Qax] at hb47
     refine goCh Hz (.faZ 12 rfl U76 <| .loadB1Z m43 (i := 30) rfl rfl rfl U3 rfl <| .faZ 11 rfl U76 <| .loadB1Z m43 (i := 203) rfl rfl rfl U3 rfl <| .lssZ rfl rfl <| .pickT rfl rfl <| .move rfl .nil) fun Az Hz => ?_
     refine bc Hz 32 ?_ ?_
     ·
      intro hb55 Hz; try simp only [QQ, Qax] at hb55
      refine goCh Hz (.loadBRZ m43 (i := 30) rfl rfl U76 rfl fct16 (by simp) (by dsimp only [List.drop, List.take] <;> rfl) <| .loadBRZ m43 (i := 203) rfl rfl U76 rfl fct16 (by simp) (by dsimp only [List.drop, List.take] <;> rfl) .nil) fun Az Hz => ?_
      refine stz Hz (ecb Hz Tryz.func128 rfl m43 (up_x t u _ _ _ _ _ _ _ _ _ _ _ _ _ _ _ _ _ _ _) fun Az w58 Hz m59 => ?_)
      refine gz hK7 Hz (.notZ rfl <| .pickT rfl rfl <| .nil) fun Az Hz => ?_
      refine bc Hz 37 ?_ ?_
      ·
       intro hb63 Hz; try simp only [QQ, Qax] at hb63
       have hR : intL l = false := int_no hes hfs (by simp [int1, hb40, hb47, hb55, hb63])
       refine wct Hz ?_
       replace Hz := Hz.oz [0, 4, 7, 8, 9, 13, 14, 15]
       refine regS Hz (.assign rfl .nil) fun Az Hz => ?_
       refine rt1 Hz ?_
       exact ⟨by rw [hR], m59.below⟩
      intro hb63 Hz; try simp only [QQ, Qax] at hb63
      refine wcf Hz ?_
      refine zss (hK5 _ _ ?_)
      replace Hz := Hz.oz [0, 4, 7, 8, 9, 13, 14, 15]
      refine wp_region_lit ?_
      refine goCh Hz (.inc (j + 1) <| .move rfl .nil) fun Az Hz => ?_
      refine wpList_nil ?_
      show ∃ n', n' < _ ∧ _
      have hst : int1 t u = true := by first | (simp [int1, hb40, hb47, hb55, hb63]; done) | (simp [int1, hb40, hb47, hb55, hb63]; omega)
      exact ⟨l.length - (j + 1), by omega, j + 1, _, _, _, _, _, _, _, _, _, _, by omega, all_step hjn hfs hst, rfl, Hz.only [0, 4, 7, 8, 9, 13, 14, 15], m59.only [30]⟩
     intro hb55 Hz; try simp only [QQ, Qax] at hb55
     refine gz hK7 Hz (.sk <| .sk <| .sk <| .sk <| .pickF rfl rfl <| .nil) fun Az Hz => ?_
     refine wcf Hz ?_
     refine zss (hK5 _ _ ?_)
     replace Hz := Hz.oz [0, 4, 7, 8, 9, 13, 14, 15]
     refine wp_region_lit ?_
     refine goCh Hz (.inc (j + 1) <| .move rfl .nil) fun Az Hz => ?_
     refine wpList_nil ?_
     show ∃ n', n' < _ ∧ _
     have hst : int1 t u = true := by first | (simp [int1, hb40, hb47, hb55]; done) | (simp [int1, hb40, hb47, hb55]; omega)
     exact ⟨l.length - (j + 1), by omega, j + 1, _, _, _, _, _, _, _, _, _, _, by omega, all_step hjn hfs hst, rfl, Hz.only [0, 4, 7, 8, 9, 13, 14, 15], m43.only [30]⟩
    intro hb47 Hz; try simp only [QQ, Qax] at hb47
    refine gz hK7 Hz (.sk <| .sk <| .sk <| .sk <| .sk <| .pickF rfl rfl <| .move rfl <| .sk <| .sk <| .sk <| .sk <| .pickF rfl rfl <| .nil) fun Az Hz => ?_
    refine wcf Hz ?_
    refine zss (hK5 _ _ ?_)
    replace Hz := Hz.oz [0, 4, 7, 8, 9, 13, 14, 15]
    refine wp_region_lit ?_
    refine goCh Hz (.inc (j + 1) <| .move rfl .nil) fun Az Hz => ?_
    refine wpList_nil ?_
    show ∃ n', n' < _ ∧ _
    have hst : int1 t u = true := by first | (simp [int1, hb40, hb47]; done) | (simp [int1, hb40, hb47]; omega)
    exact ⟨l.length - (j + 1), by omega, j + 1, _, _, _, _, _, _, _, _, _, _, by omega, all_step hjn hfs hst, rfl, Hz.only [0, 4, 7, 8, 9, 13, 14, 15], m43.only [30]⟩
   intro hb40 Hz; try simp only [QQ, Qax] at hb40
   refine gz hK7 Hz (.sk <| .sk <| .pickF rfl rfl <| .move rfl <| .sk <| .sk <| .sk <| .sk <| .sk <| .pickF rfl rfl <| .move rfl <| .sk <| .sk <| .sk <| .sk <| .pickF rfl rfl <| .nil) fun Az Hz => ?_
   refine wcf Hz ?_
   refine zss (hK5 _ _ ?_)
   replace Hz := Hz.oz [0, 4, 7, 8, 9, 13, 14, 15]
   refine wp_region_lit ?_
   refine goCh Hz (.inc (j + 1) <| .move rfl .nil) fun Az Hz => ?_
   refine wpList_nil ?_
   show ∃ n', n' < _ ∧ _
   have hst : int1 t u = true := by first | (simp [int1, hb40]; done) | (simp [int1, hb40]; omega)
   exact ⟨l.length - (j + 1), by omega, j + 1, _, _, _, _, _, _, _, _, _, _, by omega, all_step hjn hfs hst, rfl, Hz.only [0, 4, 7, 8, 9, 13, 14, 15], m37.only [30]⟩
  intro hb23 Hz; try simp only [QQ, Qax] at hb23
  revert Hz
  obtain rfl : j = l.length := by omega
  intro Hz
  refine wcf Hz ?_
  refine wp_exit ?_
  refine hK2 _ _ ?_
  refine wp_region_lit ?_
  refine goCh Hz (.inc (k + 1) <| .move rfl .nil) fun Az Hz => ?_
  refine wpList_nil ?_
  show ∃ n', n' < _ ∧ _
  exact ⟨l.length - (k + 1), by omega, k + 1, by omega, all_step htk hes (by rwa [List.take_of_length_le (by omega)] at hjn), rfl, Hz.only [0, 7, 8, 9], m21.only []⟩
 intro hb7 Hz; try simp only [QQ, Qax] at hb7
 have hR : intL l = true := by rwa [List.take_of_length_le (by omega)] at htk
 refine wcf Hz ?_
 refine wp_exit ?_
 refine hK0 _ _ ?_
 refine regS Hz (.assign rfl .nil) fun Az Hz => ?_
 refine rt1 Hz ?_
 exact ⟨by rw [hR], m5.below⟩
theorem asked_x (l : List Tl) (v : VolV) (pl : Option Addr) (nl cl : Nat) (y1 y2 y3 : Option Addr) (z1 x1 z2 x2 nv x3 : Nat) (w0 : World) (h1 : Rd (fun _ => True) w0 (.slice pl nl cl) (.l 18 (l.map tlD))) (h3 : Rd (fun _ => True) w0 (.slice y3 nv x3) (.l 2 (v.ws.map wrD))) (hlb : ∀ t ∈ l, t.c.its.length ≤ 1000000 ∧ ∀ e ∈ t.c.its, BytesL e.2) (hvb : ∀ e ∈ v.ws, e.2.length ≤ 1000000 ∧ ∀ z ∈ e.2, BytesL z.2) (hl9 : l.length ≤ 1000) (hv9 : v.ws.length ≤ 1000000) :
   Calls Tryz.prog 88 #[.slice pl nl cl, .agg #[.int .i64 v.vo, .int .i64 v.bl, .int .i64 v.sz, .int .i64 v.pe, .slice y1 z1 x1, .int .i64 v.to, .int .i64 v.ne, .bool v.hi, .int .i64 v.fl, .slice y2 z2 x2, .slice y3 nv x3]] w0 fun e w' => e = .returned (.bool (askL l v)) ∧ Below w0.heap.size w0 w' := by
 obtain rfl : nl = l.length := by obtain ⟨pq, cq, hv, _⟩ := h1.l_shape; injection hv with _ e2 _; rw [List.length_map] at e2; exact e2
 obtain rfl : nv = v.ws.length := by obtain ⟨pq, cq, hv, _⟩ := h3.l_shape; injection hv with _ e2 _; rw [List.length_map] at e2; exact e2
 refine ent2 Tryz.func88 rfl Tryz.ntmps88 fun Az Hz => ?_
 have m0 := MemOk.start (fun _ => False) w0
 refine zsr fun K0 hK0 => ?_
 refine plz (e_box Hz m0 70 (cs := [_, _, _, _, _, _, _, _, _, _, _]) rfl rfl rfl fun g1 Az w2 Hz m2 _ _ => ?_)
 refine gz hK0 Hz (.assign rfl .nil) fun Az Hz => ?_
 refine wsk fun K1 hK1 => ?_
 refine regS Hz (.fa 10 rfl U51 <| .lb m2 70 U49 rfl rfl rfl <| .len rfl U49 <| .move rfl .nil) fun Az Hz => ?_
 refine wp_block ?_
 refine wp_loop_ghost (fun g a w => ∃ (k B : Nat), k ≤ v.ws.length ∧ (v.ws.take k).all (fun w9 => l.any (ask1 w9)) = true ∧ g = v.ws.length - k ∧ Has 41 [(0, .slice pl l.length cl), (3, .pointer (some ⟨B, 0, none⟩)), (11, .slice y3 v.ws.length x3), (12, .int .i64 v.ws.length), (13, .int .i64 k)] a ∧ MemOk (cn w0) w0 [(31, .box B 51 [.int .i64 v.vo, .int .i64 v.bl, .int .i64 v.sz, .int .i64 v.pe, .slice y1 z1 x1, .int .i64 v.to, .int .i64 v.ne, .bool v.hi, .int .i64 v.fl, .slice y2 z2 x2, .slice y3 v.ws.length x3])] w) (v.ws.length) ?_ ?_
 · exact ⟨0, _, Nat.zero_le _, rfl, rfl, Hz.only [0, 3, 11, 12, 13], m2.ren [(31, 70)] (by decide)⟩
 clear Hz m2
 rintro g Az w8 ⟨k, B, hkl, htk, hg, Hz, m8⟩
 refine regS Hz (.lss rfl rfl .nil) fun Az Hz => ?_
 refine wsk fun K2 hK2 => ?_
 refine bc Hz 14 ?_ ?_
 ·
  intro hb10 Hz; try simp only [QQ, Qax] at hb10
  have hk : k < v.ws.length := by omega
  obtain ⟨⟨wb, wi⟩, hws⟩ : ∃ e, v.ws[k]? = some e := ⟨_, List.getElem?_eq_getElem hk⟩
  have hwi := hvb _ (List.mem_of_getElem? hws)
  refine wct Hz ?_
  refine zss (hK2 _ _ ?_)
  refine wsk fun K3 hK3 => ?_
  refine wp_block ?_
  refine zsr fun K4 hK4 => ?_
  obtain ⟨gx12, ox12, vx12, hp12, hl12, hR12, hrg12⟩ := h3.extA (k) (r := [.v (.int .i64 wb), .l 2 (wi.map itD)]) (wrD_get hws)
  revert Hz
  cases hp12
  rcases hR12 with _ | ⟨hd12_0, _ | ⟨hd12_1, _ | _⟩⟩
  obtain rfl := hd12_0.v_out
  clear hd12_0
  obtain ⟨p13, c13, hv13, hw13⟩ := hd12_1.l_shape; subst hv13
  intro Hz
  refine goCh Hz (.c rfl (fun _ h_ => y_idx h_ rfl rfl U49 fct7 (k) rfl hk) <| .loadAt (hrg12 m8 rfl) rfl U103 rfl fct7 .nil) fun Az Hz => ?_
  refine plz (e_alloc Hz m8 101 fct8 rfl fun g16 Az w17 Hz m17 _ _ => ?_)
  refine plz (stw Hz m17 101 fct7 fun w18 m18 _ => ?_)
  refine znl (hK4 _ _ ?_)
  refine regS Hz (.assign rfl .nil) fun Az Hz => ?_
  refine wsk fun K5 hK5 => ?_
  refine regS Hz (.move rfl <| .len rfl U74 <| .move rfl .nil) fun Az Hz => ?_
  refine wp_block ?_
  refine wp_loop_ghost (fun g a w => ∃ (j B C : Nat) (fb : Bool) (sp : Option Addr) (sn sc : Nat), j ≤ l.length ∧ fb = (l.take j).any (ask1 (wb, wi)) ∧ Rd (fun _ => True) w0 (.slice sp sn sc) (.l 2 (wi.map itD)) ∧ g = l.length - j ∧ Has 41 [(0, .slice pl l.length cl), (3, .pointer (some ⟨B, 0, none⟩)), (6, .pointer (some ⟨C, 0, none⟩)), (7, .bool fb), (11, .slice (some ⟨gx12, ox12, none⟩) v.ws.length x3), (12, .int .i64 v.ws.length), (13, .int .i64 k), (17, .slice pl l.length cl), (18, .int .i64 l.length), (19, .int .i64 j)] a ∧ MemOk (cn w0) w0 [(31, .box B 51 [.int .i64 v.vo, .int .i64 v.bl, .int .i64 v.sz, .int .i64 v.pe, .slice y1 z1 x1, .int .i64 v.to, .int .i64 v.ne, .bool v.hi, .int .i64 v.fl, .slice y2 z2 x2, .slice (some ⟨gx12, ox12, none⟩) v.ws.length x3]), (32, .box C 103 [.int .i64 wb, .slice sp sn sc])] w) (l.length) ?_ ?_
  · exact ⟨0, _, _, false, _, _, _, Nat.zero_le _, rfl, (hd12_1).any, rfl, Hz.only [0, 3, 6, 7, 11, 12, 13, 17, 18, 19], m18.ren [(31, 31), (32, 101)] (by decide)⟩
  clear Hz m18
  rintro g Az w23 ⟨j, B, C, fb, sp, sn, sc, hjl, hfb, hwr, hg2, Hz, m23⟩
  refine regS Hz (.lss rfl rfl .nil) fun Az Hz => ?_
  refine wsk fun K6 hK6 => ?_
  refine bc Hz 20 ?_ ?_
  ·
   intro hb25 Hz; try simp only [QQ, Qax] at hb25
   have hj : j < l.length := by omega
   obtain ⟨t, hes⟩ : ∃ e, l[j]? = some e := ⟨_, List.getElem?_eq_getElem hj⟩
   have htb := hlb _ (List.mem_of_getElem? hes)
   refine wct Hz ?_
   refine zss (hK6 _ _ ?_)
   refine wsk fun K7 hK7 => ?_
   refine wp_block ?_
   refine zsr fun K8 hK8 => ?_
   obtain ⟨gx27, ox27, vx27, hp27, hl27, hR27, hrg27⟩ := h1.extA (j) (r := [.v (.int .i64 t.id), .v (.int .i64 t.c.kd), .v (.int .i64 t.c.vo), .v (.int .i64 t.c.bl), .v (.int .i64 t.c.sz), .v (.int .i64 t.c.pe), .ns .i64 t.c.pl, .v (.int .i64 t.c.to), .v (.int .i64 t.c.at0), .v (.int .i64 t.c.ix), .l 2 (t.c.its.map itD), .v (.int .i64 t.fr), .v (.int .i64 t.to), .v (.int .i64 t.e9), .v (.int .i64 t.rl), .v (.int .i64 t.rf), .v (.int .i64 t.rn), .ns .u8 t.da]) (tl_get hes)
   revert Hz
   cases hp27
   rcases hR27 with _ | ⟨hd27_0, _ | ⟨hd27_1, _ | ⟨hd27_2, _ | ⟨hd27_3, _ | ⟨hd27_4, _ | ⟨hd27_5, _ | ⟨hd27_6, _ | ⟨hd27_7, _ | ⟨hd27_8, _ | ⟨hd27_9, _ | ⟨hd27_10, _ | ⟨hd27_11, _ | ⟨hd27_12, _ | ⟨hd27_13, _ | ⟨hd27_14, _ | ⟨hd27_15, _ | ⟨hd27_16, _ | ⟨hd27_17, _ | _⟩⟩⟩⟩⟩⟩⟩⟩⟩⟩⟩⟩⟩⟩⟩⟩⟩⟩
   obtain rfl := hd27_0.v_out
   clear hd27_0
   obtain rfl := hd27_1.v_out
   clear hd27_1
   obtain rfl := hd27_2.v_out
   clear hd27_2
   obtain rfl := hd27_3.v_out
   clear hd27_3
   obtain rfl := hd27_4.v_out
   clear hd27_4
   obtain rfl := hd27_5.v_out
   clear hd27_5
   obtain ⟨p28, c28, hv28, hw28⟩ := hd27_6.ns_shape; subst hv28
   obtain rfl := hd27_7.v_out
   clear hd27_7
   obtain rfl := hd27_8.v_out
   clear hd27_8
   obtain rfl := hd27_9.v_out
   clear hd27_9
   obtain ⟨p29, c29, hv29, hw29⟩ := hd27_10.l_shape; subst hv29
   obtain rfl := hd27_11.v_out
   clear hd27_11
   obtain rfl := hd27_12.v_out
   clear hd27_12
   obtain rfl := hd27_13.v_out
   clear hd27_13
   obtain rfl := hd27_14.v_out
   clear hd27_14
   obtain rfl := hd27_15.v_out
   clear hd27_15
   obtain rfl := hd27_16.v_out
   clear hd27_16
   obtain ⟨p30, c30, hv30, hw30⟩ := hd27_17.ns_shape; subst hv30
   intro Hz
   refine goCh Hz (.c rfl (fun _ h_ => y_idx h_ rfl rfl U74 fct16 (j) rfl hj) <| .loadAt (hrg27 m23 rfl) rfl U76 rfl fct16 .nil) fun Az Hz => ?_
   refine plz (e_alloc Hz m23 203 fct38 rfl fun g33 Az w34 Hz m34 _ _ => ?_)
   refine plz (stw Hz m34 203 fct16 fun w35 m35 _ => ?_)
   refine znl (hK8 _ _ ?_)
   refine wp_region_lit ?_
   refine goCh Hz (.move rfl <| .move rfl .nil) fun Az Hz => ?_
   refine bc Hz 24 ?_ ?_
   ·
    intro hb38 Hz; try simp only [QQ, Qax] at hb38
    refine goCh Hz (.sk <| .sk <| .sk <| .sk .nil) fun Az Hz => ?_
    refine st_skipU Hz rfl rfl rfl rfl fun Az Hz => ?_
    refine st_skipU Hz rfl rfl rfl rfl fun Az Hz => ?_
    refine st_skipU Hz rfl rfl rfl rfl fun Az Hz => ?_
    refine st_skipU Hz rfl rfl rfl rfl fun Az Hz => ?_
    refine st_skipU Hz rfl rfl rfl rfl fun Az Hz => ?_
    refine st_skipU Hz rfl rfl rfl rfl fun Az Hz => ?_
    refine gz hK7 Hz (.sk <| .pickT rfl rfl <| .assign rfl <| .nil) fun Az Hz => ?_
    replace Hz := Hz.oz [0, 3, 6, 7, 11, 12, 13, 17, 18, 19]
    refine wp_region_lit ?_
    refine goCh Hz (.inc (j + 1) <| .move rfl .nil) fun Az Hz => ?_
    refine wpList_nil ?_
    show ∃ n', n' < _ ∧ _
    have hfe : true = (l.take (j + 1)).any (ask1 (wb, wi)) := by rw [any_snoc hes, ← hfb]; simp [ask1, hb38]
    exact ⟨l.length - (j + 1), by omega, j + 1, _, _, true, _, _, _, by omega, hfe, hwr, rfl, Hz.only [0, 3, 6, 7, 11, 12, 13, 17, 18, 19], m35.only [31, 32]⟩
   intro hb38 Hz; try simp only [QQ, Qax] at hb38
   refine goCh Hz (.loadBRZ m35 (i := 203) rfl rfl U76 rfl fct16 (by simp) (by dsimp only [List.drop, List.take] <;> rfl) .nil) fun Az Hz => ?_
   refine stz Hz (e_litN Hz m35 204 (k := .i64) rfl rfl U35 fct17 rfl rfl rfl rfl fun g56 Az w57 Hz m57 => ?_)
   have m58 := m57.freezeN 204 rfl
   refine stz Hz (ecb Hz Tryz.func126 rfl m58 (is_x t [2, 6] _ _ _ _ _ _ _ _ _ _ _ _ (by decide) ((m58.rd (i := 204) rfl).any)) fun Az w59 Hz m60 => ?_)
   refine goCh Hz (.moveZ rfl .nil) fun Az Hz => ?_
   refine bc Hz 28 ?_ ?_
   ·
    intro hb63 Hz; try simp only [QQ, Qax] at hb63
    refine goCh Hz (.fieldAddrZ (off := 1) rfl U76 rfl (s := 9) (by kernel_rfl) rfl <| .faZ 10 rfl U38 <| .loadB1Z m60 (i := 203) rfl rfl rfl U36 rfl <| .faZ 1 rfl U103 <| .loadB1Z m60 (i := 32) rfl rfl rfl U36 rfl .nil) fun Az Hz => ?_
    refine stz Hz (ecb Hz Tryz.func124 rfl m60 (mpsi t.c.its wi _ _ _ _ _ _ _ ((hd27_10.now' m60 rfl).any) ((hwr.now' m60 rfl).any) htb.1 hwi.1 htb.2 hwi.2) fun Az w69 Hz m70 => ?_)
    refine gz hK7 Hz (.pickTZ rfl rfl <| .pickF rfl rfl <| .assign rfl <| .nil) fun Az Hz => ?_
    replace Hz := Hz.oz [0, 3, 6, 7, 11, 12, 13, 17, 18, 19]
    refine wp_region_lit ?_
    refine goCh Hz (.inc (j + 1) <| .move rfl .nil) fun Az Hz => ?_
    refine wpList_nil ?_
    show ∃ n', n' < _ ∧ _
    have hfe : decide (t.c.its = wi) = (l.take (j + 1)).any (ask1 (wb, wi)) := by rw [any_snoc hes, ← hfb]; simp [ask1, hb38, hb63]
    exact ⟨l.length - (j + 1), by omega, j + 1, _, _, decide (t.c.its = wi), _, _, _, by omega, hfe, hwr, rfl, Hz.only [0, 3, 6, 7, 11, 12, 13, 17, 18, 19], m70.only [31, 32]⟩
   intro hb63 Hz; try simp only [QQ, Qax] at hb63
   refine gz hK7 Hz (.sk <| .sk <| .sk <| .sk <| .sk <| .sk <| .pickFZ rfl rfl <| .pickF rfl rfl <| .assign rfl <| .nil) fun Az Hz => ?_
   replace Hz := Hz.oz [0, 3, 6, 7, 11, 12, 13, 17, 18, 19]
   refine wp_region_lit ?_
   refine goCh Hz (.inc (j + 1) <| .move rfl .nil) fun Az Hz => ?_
   refine wpList_nil ?_
   show ∃ n', n' < _ ∧ _
   have hfe : false = (l.take (j + 1)).any (ask1 (wb, wi)) := by rw [any_snoc hes, ← hfb]; simp [ask1, hb38, hb63]
   exact ⟨l.length - (j + 1), by omega, j + 1, _, _, false, _, _, _, by omega, hfe, hwr, rfl, Hz.only [0, 3, 6, 7, 11, 12, 13, 17, 18, 19], m60.only [31, 32]⟩
  intro hb25 Hz; try simp only [QQ, Qax] at hb25
  revert Hz
  obtain rfl : j = l.length := by omega
  intro Hz
  rw [List.take_length] at hfb
  refine wcf Hz ?_
  refine wp_exit ?_
  refine hK5 _ _ ?_
  refine regS Hz (.move rfl <| .not rfl .nil) fun Az Hz => ?_
  refine bc Hz 39 ?_ ?_
  ·
   intro hb92 Hz; try simp only [QQ, Qax] at hb92
   have hR : askL l v = false := all_no hws (hfb ▸ hb92)
   refine wct Hz ?_
   refine regS Hz (.assign rfl .nil) fun Az Hz => ?_
   refine rt1 Hz ?_
   exact ⟨by rw [hR], m23.below⟩
  intro hb92 Hz; try simp only [QQ, Qax] at hb92
  have hst : l.any (ask1 (wb, wi)) = true := hfb ▸ hb92
  refine wcf Hz ?_
  refine zss (hK3 _ _ ?_)
  refine wp_region_lit ?_
  refine goCh Hz (.inc (k + 1) <| .move rfl .nil) fun Az Hz => ?_
  refine wpList_nil ?_
  show ∃ n', n' < _ ∧ _
  exact ⟨v.ws.length - (k + 1), by omega, k + 1, _, by omega, all_step htk hws hst, rfl, Hz.only [0, 3, 11, 12, 13], m23.only [31]⟩
 intro hb10 Hz; try simp only [QQ, Qax] at hb10
 have hR : askL l v = true := by rwa [List.take_of_length_le (by omega)] at htk
 refine wcf Hz ?_
 refine wp_exit ?_
 refine hK1 _ _ ?_
 refine regS Hz (.assign rfl .nil) fun Az Hz => ?_
 refine rt1 Hz ?_
 exact ⟨by rw [hR], m8.below⟩
theorem ordered_x (l : List Tl) (v : VolV) (pl : Option Addr) (nl cl : Nat) (y1 y2 y3 : Option Addr) (z1 x1 z2 x2 nv x3 : Nat) (w0 : World) (h1 : Rd (fun _ => True) w0 (.slice pl nl cl) (.l 18 (l.map tlD))) (h3 : Rd (fun _ => True) w0 (.slice y3 nv x3) (.l 2 (v.ws.map wrD))) (hlb : ∀ t ∈ l, t.c.its.length ≤ 1000000 ∧ ∀ e ∈ t.c.its, BytesL e.2) (hvb : ∀ e ∈ v.ws, e.2.length ≤ 1000000 ∧ ∀ z ∈ e.2, BytesL z.2) (hl9 : l.length ≤ 1000) (hv9 : v.ws.length ≤ 1000000) :
   Calls Tryz.prog 38 #[.slice pl nl cl, .agg #[.int .i64 v.vo, .int .i64 v.bl, .int .i64 v.sz, .int .i64 v.pe, .slice y1 z1 x1, .int .i64 v.to, .int .i64 v.ne, .bool v.hi, .int .i64 v.fl, .slice y2 z2 x2, .slice y3 nv x3]] w0 fun e w' => e = .returned (.bool (ordB l v)) ∧ Below w0.heap.size w0 w' := by
 obtain rfl : nl = l.length := by obtain ⟨pq, cq, hv, _⟩ := h1.l_shape; injection hv with _ e2 _; rw [List.length_map] at e2; exact e2
 obtain rfl : nv = v.ws.length := by obtain ⟨pq, cq, hv, _⟩ := h3.l_shape; injection hv with _ e2 _; rw [List.length_map] at e2; exact e2
 refine ent2 Tryz.func38 rfl Tryz.ntmps38 fun Az Hz => ?_
 have m0 := MemOk.start (fun _ => True) w0
 refine zsr fun K0 hK0 => ?_
 refine plz (e_box Hz m0 70 (cs := [_, _, _, _, _, _, _, _, _, _, _]) rfl rfl rfl fun g1 Az w2 Hz m2 _ _ => ?_)
 refine gz hK0 Hz (.assign rfl .nil) fun Az Hz => ?_
 refine regS Hz (.assign rfl .nil) fun Az Hz => ?_
 refine wsk fun K1 hK1 => ?_
 refine regS Hz (.move rfl <| .len rfl U74 <| .move rfl .nil) fun Az Hz => ?_
 refine wp_block ?_
 refine wp_loop_ghost (fun g a w => ∃ (k B : Nat) (p : Option Addr) (c : Nat), k ≤ l.length ∧ g = l.length - k ∧ Has 41 [(0, .slice pl l.length cl), (3, .pointer (some ⟨B, 0, none⟩)), (5, .slice p (((l.take k).filter (ofB v)).map tlD).length c), (8, .slice pl l.length cl), (9, .int .i64 l.length), (10, .int .i64 k)] a ∧ MemOk (cxt w0) w0 [(31, .box B 51 [.int .i64 v.vo, .int .i64 v.bl, .int .i64 v.sz, .int .i64 v.pe, .slice y1 z1 x1, .int .i64 v.to, .int .i64 v.ne, .bool v.hi, .int .i64 v.fl, .slice y2 z2 x2, .slice y3 v.ws.length x3]), (33, .row (.slice p (((l.take k).filter (ofB v)).map tlD).length c) 76 18 (((l.take k).filter (ofB v)).map tlD))] w) (l.length) ?_ ?_
 · have mz := m2.nilR 33 76 18
   exact ⟨0, _, _, _, Nat.zero_le _, rfl, Hz.only [0, 3, 5, 8, 9, 10], mz.ren [(31, 70), (33, 33)] (by decide)⟩
 clear Hz m2
 rintro g Az w8 ⟨k, B, p, c, hkl, hg, Hz, m8⟩
 refine regS Hz (.lss rfl rfl .nil) fun Az Hz => ?_
 refine wsk fun K2 hK2 => ?_
 refine bc Hz 11 ?_ ?_
 ·
  intro hb10 Hz; try simp only [QQ, Qax] at hb10
  have hk : k < l.length := by omega
  obtain ⟨t, hes⟩ : ∃ e, l[k]? = some e := ⟨_, List.getElem?_eq_getElem hk⟩
  have htb := hlb _ (List.mem_of_getElem? hes)
  refine wct Hz ?_
  refine zss (hK2 _ _ ?_)
  refine wsk fun K3 hK3 => ?_
  refine wp_block ?_
  refine zsr fun K4 hK4 => ?_
  obtain ⟨gx12, ox12, vx12, hp12, hl12, hR12, hrg12⟩ := h1.extA (k) (r := [.v (.int .i64 t.id), .v (.int .i64 t.c.kd), .v (.int .i64 t.c.vo), .v (.int .i64 t.c.bl), .v (.int .i64 t.c.sz), .v (.int .i64 t.c.pe), .ns .i64 t.c.pl, .v (.int .i64 t.c.to), .v (.int .i64 t.c.at0), .v (.int .i64 t.c.ix), .l 2 (t.c.its.map itD), .v (.int .i64 t.fr), .v (.int .i64 t.to), .v (.int .i64 t.e9), .v (.int .i64 t.rl), .v (.int .i64 t.rf), .v (.int .i64 t.rn), .ns .u8 t.da]) (tl_get hes)
  revert Hz
  cases hp12
  rcases hR12 with _ | ⟨hd12_0, _ | ⟨hd12_1, _ | ⟨hd12_2, _ | ⟨hd12_3, _ | ⟨hd12_4, _ | ⟨hd12_5, _ | ⟨hd12_6, _ | ⟨hd12_7, _ | ⟨hd12_8, _ | ⟨hd12_9, _ | ⟨hd12_10, _ | ⟨hd12_11, _ | ⟨hd12_12, _ | ⟨hd12_13, _ | ⟨hd12_14, _ | ⟨hd12_15, _ | ⟨hd12_16, _ | ⟨hd12_17, _ | _⟩⟩⟩⟩⟩⟩⟩⟩⟩⟩⟩⟩⟩⟩⟩⟩⟩⟩
  obtain rfl := hd12_0.v_out
  clear hd12_0
  obtain rfl := hd12_1.v_out
  clear hd12_1
  obtain rfl := hd12_2.v_out
  clear hd12_2
  obtain rfl := hd12_3.v_out
  clear hd12_3
  obtain rfl := hd12_4.v_out
  clear hd12_4
  obtain rfl := hd12_5.v_out
  clear hd12_5
  obtain ⟨p13, c13, hv13, hw13⟩ := hd12_6.ns_shape; subst hv13
  obtain rfl := hd12_7.v_out
  clear hd12_7
  obtain rfl := hd12_8.v_out
  clear hd12_8
  obtain rfl := hd12_9.v_out
  clear hd12_9
  obtain ⟨p14, c14, hv14, hw14⟩ := hd12_10.l_shape; subst hv14
  obtain rfl := hd12_11.v_out
  clear hd12_11
  obtain rfl := hd12_12.v_out
  clear hd12_12
  obtain rfl := hd12_13.v_out
  clear hd12_13
  obtain rfl := hd12_14.v_out
  clear hd12_14
  obtain rfl := hd12_15.v_out
  clear hd12_15
  obtain rfl := hd12_16.v_out
  clear hd12_16
  obtain ⟨p15, c15, hv15, hw15⟩ := hd12_17.ns_shape; subst hv15
  intro Hz
  refine goCh Hz (.c rfl (fun _ h_ => y_idx h_ rfl rfl U74 fct16 (k) rfl hk) <| .loadAt (hrg12 m8 rfl) rfl U76 rfl fct16 .nil) fun Az Hz => ?_
  refine plz (e_alloc Hz m8 103 fct38 rfl fun g18 Az w19 Hz m19 _ _ => ?_)
  refine plz (stw Hz m19 103 fct16 fun w20 m20 _ => ?_)
  refine znl (hK4 _ _ ?_)
  refine regS Hz (.fieldAddr (off := 1) rfl U76 rfl (s := 9) (by kernel_rfl) rfl <| .fa 2 rfl U38 <| .lb m20 103 U3 rfl rfl rfl <| .fa 0 rfl U51 <| .lb m20 31 U3 rfl rfl rfl <| .eql rfl rfl .nil) fun Az Hz => ?_
  refine bc Hz 19 ?_ ?_
  ·
   intro hb27 Hz; try simp only [QQ, Qax] at hb27
   have hof : ofB v t = true := decide_eq_true hb27
   have hfil := fil_yes hes hof
   refine wct Hz ?_
   replace Hz := Hz.oz [0, 3, 5, 8, 9, 10, 7]
   refine wp_region_lit ?_
   refine goCh Hz (.move rfl <| .loadBR m20 (i := 103) rfl rfl U76 rfl fct16 (by simp) (by dsimp only [List.drop, List.take] <;> rfl) .nil) fun Az Hz => ?_
   refine plz (e_litR Hz m20 104 (mm := 18) rfl (.cons rfl rfl (.cons (.v _) (.cons (.v _) (.cons (.v _) (.cons (.v _) (.cons (.v _) (.cons (.v _) (.cons (m20.old hd12_6) (.cons (.v _) (.cons (.v _) (.cons (.v _) (.cons (m20.old hd12_10) (.cons (.v _) (.cons (.v _) (.cons (.v _) (.cons (.v _) (.cons (.v _) (.cons (.v _) (.cons (m20.old hd12_17) .nil)))))))))))))))))) .nil) U74 fct37 rfl rfl rfl rfl rfl fun g31 Az w32 Hz m32 => ?_)
   have m34 := m32.freezeR 104 rfl
   refine plz (e_appR Hz m34 33 rfl rfl rfl (m34.rd (i := 104) rfl) U74 fct37 rfl rfl (by decide) (by have := fil_len (l := l) (v := v) (k := k); rw [List.length_map]; try simp only [List.length_cons, List.length_nil]; omega) rfl fun p33 c33 Az w35 Hz m35 => ?_)
   refine gz hK3 Hz (.assign rfl .nil) fun Az Hz => ?_
   refine wp_region_lit ?_
   refine goCh Hz (.inc (k + 1) <| .move rfl .nil) fun Az Hz => ?_
   refine wpList_nil ?_
   show ∃ n', n' < _ ∧ _
   rw [hfil] at m35 Hz
   exact ⟨l.length - (k + 1), by omega, k + 1, _, _, _, by omega, rfl, Hz.only [0, 3, 5, 8, 9, 10], m35.ren [(31, 31), (33, 33)] (by decide)⟩
  intro hb27 Hz; try simp only [QQ, Qax] at hb27
  have hof : ofB v t = false := decide_eq_false hb27
  have hfil := fil_no hes hof
  refine wcf Hz ?_
  refine zss (hK3 _ _ ?_)
  replace Hz := Hz.oz [0, 3, 5, 8, 9, 10]
  refine wp_region_lit ?_
  refine goCh Hz (.inc (k + 1) <| .move rfl .nil) fun Az Hz => ?_
  refine wpList_nil ?_
  show ∃ n', n' < _ ∧ _
  rw [hfil] at m20 Hz
  exact ⟨l.length - (k + 1), by omega, k + 1, _, _, _, by omega, rfl, Hz.only [0, 3, 5, 8, 9, 10], m20.ren [(31, 31), (33, 33)] (by decide)⟩
 intro hb10 Hz; try simp only [QQ, Qax] at hb10
 revert Hz
 obtain rfl : k = l.length := by omega
 intro Hz
 rw [List.take_length] at m8
 rw [List.take_length] at Hz
 refine wcf Hz ?_
 refine wp_exit ?_
 refine hK1 _ _ ?_
 refine zsr fun K5 hK5 => ?_
 refine goCh Hz (.move rfl <| .loadBR m8 (i := 31) rfl rfl U51 rfl fct13 (by simp) (by dsimp only [List.drop, List.take] <;> rfl) .nil) fun Az Hz => ?_
 have m46 := m8.freezeR 33 rfl
 refine plz (ecb Hz Tryz.func85 rfl m46 (told_x (l.filter (ofB v)) v _ _ _ _ _ _ _ _ _ _ _ _ _ ((m46.rd (i := 33) rfl).any) ((h3.now' m46 rfl).any) (fun t ht => hlb t ((List.mem_filter.1 ht).1)) hvb (Nat.le_trans (List.length_filter_le _ _) hl9) hv9) fun Az w47 Hz m48 => ?_)
 refine goCh Hz (.move rfl .nil) fun Az Hz => ?_
 refine bc Hz 28 ?_ ?_
 ·
  intro hb51 Hz; try simp only [QQ, Qax] at hb51
  refine goCh Hz (.moveZ rfl .nil) fun Az Hz => ?_
  refine stz Hz (ecb Hz Tryz.func86 rfl m48 (unlike_x (l.filter (ofB v)) _ _ _ _ ((m48.rd (i := 33) rfl).any) (Nat.le_trans (List.length_filter_le _ _) hl9)) fun Az w53 Hz m54 => ?_)
  refine goCh Hz (.pickT rfl rfl <| .move rfl .nil) fun Az Hz => ?_
  refine bc Hz 32 ?_ ?_
  ·
   intro hb58 Hz; try simp only [QQ, Qax] at hb58
   refine goCh Hz (.moveZ rfl .nil) fun Az Hz => ?_
   refine stz Hz (ecb Hz Tryz.func87 rfl m54 (inTime_x (l.filter (ofB v)) _ _ _ _ ((m54.rd (i := 33) rfl).any) (Nat.le_trans (List.length_filter_le _ _) hl9)) fun Az w60 Hz m61 => ?_)
   refine goCh Hz (.pickT rfl rfl <| .move rfl .nil) fun Az Hz => ?_
   refine bc Hz 36 ?_ ?_
   ·
    intro hb65 Hz; try simp only [QQ, Qax] at hb65
    refine goCh Hz (.moveZ rfl <| .loadBRZ m61 (i := 31) rfl rfl U51 rfl fct13 (by simp) (by dsimp only [List.drop, List.take] <;> rfl) .nil) fun Az Hz => ?_
    refine stz Hz (ecb Hz Tryz.func88 rfl m61 (asked_x (l.filter (ofB v)) v _ _ _ _ _ _ _ _ _ _ _ _ _ ((m61.rd (i := 33) rfl).any) ((h3.now' m61 rfl).any) (fun t ht => hlb t ((List.mem_filter.1 ht).1)) hvb (Nat.le_trans (List.length_filter_le _ _) hl9) hv9) fun Az w68 Hz m69 => ?_)
    refine gz hK5 Hz (.pickT rfl rfl <| .assign rfl <| .nil) fun Az Hz => ?_
    refine rt1 Hz ?_
    exact ⟨congrArg (fun b9 => Ending.returned (.bool b9)) (by first | (simp [ordB, hb10, hb51, hb58, hb65]; done) | (simp [ordB, hb10, hb51, hb58, hb65]; omega)), m69.below⟩
   intro hb65 Hz; try simp only [QQ, Qax] at hb65
   refine gz hK5 Hz (.sk <| .sk <| .sk <| .pickF rfl rfl <| .assign rfl <| .nil) fun Az Hz => ?_
   refine rt1 Hz ?_
   exact ⟨congrArg (fun b9 => Ending.returned (.bool b9)) (by first | (simp [ordB, hb10, hb51, hb58, hb65]; done) | (simp [ordB, hb10, hb51, hb58, hb65]; omega)), m61.below⟩
  intro hb58 Hz; try simp only [QQ, Qax] at hb58
  refine gz hK5 Hz (.sk <| .sk <| .pickF rfl rfl <| .move rfl <| .sk <| .sk <| .sk <| .pickF rfl rfl <| .assign rfl <| .nil) fun Az Hz => ?_
  refine rt1 Hz ?_
  exact ⟨congrArg (fun b9 => Ending.returned (.bool b9)) (by first | (simp [ordB, hb10, hb51, hb58]; done) | (simp [ordB, hb10, hb51, hb58]; omega)), m54.below⟩
 intro hb51 Hz; try simp only [QQ, Qax] at hb51
 refine gz hK5 Hz (.sk <| .sk <| .pickF rfl rfl <| .move rfl <| .sk <| .sk <| .pickF rfl rfl <| .move rfl <| .sk <| .sk <| .sk <| .pickF rfl rfl <| .assign rfl <| .nil) fun Az Hz => ?_
 refine rt1 Hz ?_
 exact ⟨congrArg (fun b9 => Ending.returned (.bool b9)) (by first | (simp [ordB, hb10, hb51]; done) | (simp [ordB, hb10, hb51]; omega)), m48.below⟩
end
end Go.Proofs.YtkehgingagggaaaGreat.K
