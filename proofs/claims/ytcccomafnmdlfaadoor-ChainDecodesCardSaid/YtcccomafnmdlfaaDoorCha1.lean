/- chain: streams as values, the items of two, merged; all of a chain as one. -/
import Derived.Test.YtcccomafnmdlfaaDoorG5
namespace Go.Proofs.YtcccomafnmdlfaaDoor.K
open Go.ChangeShapes Go.WideShapes Go.ChangeAt Go.RowKit
set_option linter.unusedVariables false
set_option linter.unusedSimpArgs false
theorem fl38cme : flatS Tryd.prog 38 [.int .i64 0, .int .i64 0, .int .i64 0, .int .i64 0, .slice none 0 0] = true := by kernel_rfl
structure StrV where
 bl : Int
 sz : Int
 fr : Int
 to : Int
 its : List PI
def s0V : StrV := ⟨0, 0, 0, 0, []⟩
def strD (s : StrV) : List D := [.v (.int .i64 s.bl), .v (.int .i64 s.sz), .v (.int .i64 s.fr), .v (.int .i64 s.to), .l 2 (s.its.map itD)]
theorem strD_get {A : List StrV} {k : Nat} {s : StrV} (h : A[k]? = some s) : (A.map strD)[k]? = some [.v (.int .i64 s.bl), .v (.int .i64 s.sz), .v (.int .i64 s.fr), .v (.int .i64 s.to), .l 2 (s.its.map itD)] := by simp [h, strD]
def laterL : List PI → List PI → List PI
 | [], b => b
 | p :: a, [] => p :: a
 | p :: a, q :: b => if p.1 < q.1 then p :: laterL a (q :: b) else if p.1 = q.1 then q :: laterL a b else q :: laterL (p :: a) b
termination_by a b => a.length + b.length
theorem later_nil (b : List PI) : laterL [] b = b := by rw [laterL]
theorem later_nil2 (a : List PI) : laterL a [] = a := by cases a <;> rw [laterL]
theorem later_lt {p q : Int} {x y : List Int} {a b : List PI} (h : p < q) : laterL ((p, x) :: a) ((q, y) :: b) = (p, x) :: laterL a ((q, y) :: b) := by rw [laterL, if_pos h]
theorem later_eq {p q : Int} {x y : List Int} {a b : List PI} (h : p = q) : laterL ((p, x) :: a) ((q, y) :: b) = (q, y) :: laterL a b := by rw [laterL, if_neg (by simp only; omega), if_pos h]
theorem later_gt {p q : Int} {x y : List Int} {a b : List PI} (h : q < p) : laterL ((p, x) :: a) ((q, y) :: b) = (q, y) :: laterL ((p, x) :: a) b := by rw [laterL, if_neg (by simp only; omega), if_neg (by simp only; omega)]
theorem later_mem {a b : List PI} : ∀ e ∈ laterL a b, e ∈ a ∨ e ∈ b := by
 fun_induction laterL a b with
 | case1 b => intro e h; exact .inr h
 | case2 p a => intro e h; exact .inl h
 | case3 p a q b h ih =>
   intro e he
   rcases List.mem_cons.1 he with rfl | he
   · exact .inl List.mem_cons_self
   rcases ih e he with h1 | h1
   · exact .inl (List.mem_cons_of_mem _ h1)
   exact .inr h1
 | case4 p a q b h h2 ih =>
   intro e he
   rcases List.mem_cons.1 he with rfl | he
   · exact .inr List.mem_cons_self
   rcases ih e he with h1 | h1
   · exact .inl (List.mem_cons_of_mem _ h1)
   exact .inr (List.mem_cons_of_mem _ h1)
 | case5 p a q b h h2 ih =>
   intro e he
   rcases List.mem_cons.1 he with rfl | he
   · exact .inr List.mem_cons_self
   rcases ih e he with h1 | h1
   · exact .inl h1
   exact .inr (List.mem_cons_of_mem _ h1)
theorem later_len (a b : List PI) : (laterL a b).length ≤ a.length + b.length := by
 fun_induction laterL a b <;> simp only [List.length_cons, List.length_nil] at * <;> omega
theorem later_ok {a b : List PI} (ha : ItsOk a) (hb : ItsOk b) : ItsOk (laterL a b) := fun e he => (later_mem e he).elim (ha e) (hb e)
def mergeV (x y : StrV) : StrV := ⟨x.bl, x.sz, x.fr, y.to, laterL x.its y.its⟩
inductive Ev : List StrV → StrV → Prop
 | one (s : StrV) : Ev [s] s
 | two {a b : List StrV} {x y : StrV} (h1 : Ev a x) (h2 : Ev b y) : Ev (a ++ b) (mergeV x y)
theorem Ev.half {l : List StrV} {k : Nat} {x y : StrV} (h1 : Ev (l.take k) x) (h2 : Ev (l.drop k) y) : Ev l (mergeV x y) := by
 have := Ev.two h1 h2
 rwa [List.take_append_drop] at this
theorem one_of {l : List StrV} {s : StrV} (h : l.length = 1) (hs : l[0]? = some s) : Ev l s := by
 match l, h with
 | [x], _ => injection hs with hs; subst hs; exact .one x
def totL (l : List StrV) : Nat := (l.map (·.its.length)).sum
theorem tot_app (a b : List StrV) : totL (a ++ b) = totL a + totL b := by simp [totL]
theorem tot_le {l : List StrV} {s : StrV} (h : s ∈ l) : s.its.length ≤ totL l := by
 obtain ⟨a, b, rfl⟩ := List.append_of_mem h
 rw [tot_app, show s :: b = [s] ++ b from rfl, tot_app]
 have : totL [s] = s.its.length := by simp [totL]
 omega
theorem tot_mem {l : List StrV} {s : StrV} (ht : totL l ≤ 1000000) (h : s ∈ l) : s.its.length ≤ 1000000 := Nat.le_trans (tot_le h) ht
theorem tot_split {l : List StrV} (ht : totL l ≤ 1000000) (k : Nat) : totL (l.take k) ≤ 1000000 ∧ totL (l.drop k) ≤ 1000000 ∧ totL (l.take k) + totL (l.drop k) = totL l := by
 have h := tot_app (l.take k) (l.drop k)
 rw [List.take_append_drop] at h
 omega
set_option maxRecDepth 100000
set_option maxHeartbeats 4000000
theorem later_any (la lb : List PI) (pa pb : Option Addr) (na nb ca cb : Nat) (w0 : World) (h1 : Rd (fun _ => True) w0 (.slice pa na ca) (.l 2 (la.map itD))) (h2 : Rd (fun _ => True) w0 (.slice pb nb cb) (.l 2 (lb.map itD))) (hlb : la.length + lb.length ≤ 1000000) (hoa : ItsOk la) (hob : ItsOk lb) :
   Calls Tryd.prog 50 #[.slice pa na ca, .slice pb nb cb] w0 fun e w' => ∃ p c, e = .returned (.slice p (laterL la lb).length c) ∧ Rd (New w0) w' (.slice p (laterL la lb).length c) (.l 2 ((laterL la lb).map itD)) ∧ Below w0.heap.size w0 w' := by
 obtain rfl : na = la.length := by obtain ⟨pq, cq, hv, _⟩ := h1.l_shape; injection hv with _ e2 _; rw [List.length_map] at e2; exact e2
 obtain rfl : nb = lb.length := by obtain ⟨pq, cq, hv, _⟩ := h2.l_shape; injection hv with _ e2 _; rw [List.length_map] at e2; exact e2
 refine ent2 Tryd.func50 rfl Tryd.ntmps50 fun Az Hz => ?_
 have m0 := MemOk.start (fun _ => False) w0
 refine regS Hz (.assign rfl .nil) fun Az Hz => ?_
 refine regS Hz (.assign rfl .nil) fun Az Hz => ?_
 refine wsk fun K0 hK0 => ?_
 refine regS Hz (.move rfl <| .len rfl U36 <| .move rfl .nil) fun Az Hz => ?_
 refine wp_block ?_
 refine wp_loop_ghost (fun g a w => ∃ (k : Nat) (out a1 : List PI) (p pa1 : Option Addr) (c ca1 : Nat), k ≤ lb.length ∧ g = lb.length - k ∧ out ++ laterL a1 (lb.drop k) = laterL la lb ∧ out.length + a1.length ≤ la.length + k ∧ ItsOk a1 ∧ Rd (fun _ => True) w0 (.slice pa1 a1.length ca1) (.l 2 (a1.map itD)) ∧ Has 59 [(0, .slice pa1 a1.length ca1), (5, .slice p (out.map itD).length c), (8, .slice pb lb.length cb), (9, .int .i64 lb.length), (10, .int .i64 k)] a ∧ MemOk (cn w0) w0 [(9, .row (.slice p (out.map itD).length c) 48 2 (out.map itD))] w) (lb.length) ?_ ?_
 · have mz := m0.nilR 9 48 2
   exact ⟨0, [], la, _, _, _, _, Nat.zero_le _, rfl, rfl, by simp, hoa, h1, Hz.only [0, 5, 8, 9, 10], mz.only [9]⟩
 clear Hz m0
 rintro g Az w6 ⟨k, out, a1, p, pa1, c, ca1, hkl, hg, hL, hlen, hoA, hA, Hz, m6⟩
 refine regS Hz (.lss rfl rfl .nil) fun Az Hz => ?_
 refine wsk fun K1 hK1 => ?_
 refine bc Hz 11 ?_ ?_
 ·
  intro hb8 Hz; try simp only [QQ, Qax] at hb8
  have hk : k < lb.length := by have := hb8; first | omega | (simp at this; omega)
  obtain ⟨⟨xb, xd⟩, hes⟩ : ∃ e, lb[k]? = some e := ⟨_, List.getElem?_eq_getElem hk⟩
  have hdk : lb.drop k = (xb, xd) :: lb.drop (k + 1) := by rw [List.drop_eq_getElem_cons hk]; congr 1; exact Option.some.inj ((List.getElem?_eq_getElem hk).symm.trans hes)
  refine wct Hz ?_
  refine zss (hK1 _ _ ?_)
  refine wsk fun K2 hK2 => ?_
  refine wp_block ?_
  refine zsr fun K3 hK3 => ?_
  obtain ⟨gx10, ox10, vx10, hp10, hl10, hR10, hrg10⟩ := h2.extA (k) (r := [.v (.int .i64 xb), .ns .u8 xd]) (itD_get hes)
  revert Hz
  cases hp10
  rcases hR10 with _ | ⟨hd10_0, _ | ⟨hd10_1, _ | _⟩⟩
  obtain rfl := hd10_0.v_out
  clear hd10_0
  obtain ⟨p11, c11, hv11, hw11⟩ := hd10_1.ns_shape; subst hv11
  intro Hz
  refine goCh Hz (.c rfl (fun _ h => y_idx h rfl rfl U36 fct1 (k) rfl hk) <| .loadAt (hrg10 m6 rfl) rfl U48 rfl fct1 .nil) fun Az Hz => ?_
  refine plz (e_alloc Hz m6 101 fct3 rfl fun g14 Az w15 Hz m15 _ _ => ?_)
  refine plz (stw Hz m15 101 fct1 fun w16 m16 _ => ?_)
  refine znl (hK3 _ _ ?_)
  refine wsk fun K4 hK4 => ?_
  refine wp_block ?_
  refine wp_loop_ghost (fun g a w => ∃ (out a1 : List PI) (p pa1 : Option Addr) (c ca1 B7 : Nat), g = a1.length ∧ out ++ laterL a1 (lb.drop k) = laterL la lb ∧ out.length + a1.length ≤ la.length + k ∧ ItsOk a1 ∧ Rd (fun _ => True) w0 (.slice pa1 a1.length ca1) (.l 2 (a1.map itD)) ∧ Has 59 [(0, .slice pa1 a1.length ca1), (5, .slice p (out.map itD).length c), (8, .slice (some ⟨gx10, ox10, none⟩) lb.length cb), (9, .int .i64 lb.length), (10, .int .i64 k), (7, .pointer (some ⟨B7, 0, none⟩))] a ∧ MemOk (cn w0) w0 [(9, .row (.slice p (out.map itD).length c) 48 2 (out.map itD)), (7, .box B7 48 [.int .i64 xb, .slice p11 xd.length c11])] w) (a1.length) ?_ ?_
  · exact ⟨out, a1, _, _, _, _, _, rfl, hL, hlen, hoA, hA, Hz.only [0, 5, 8, 9, 10, 7], m16.ren [(9, 9), (7, 101)] (by decide)⟩
  clear Hz m16
  rintro g Az w17 ⟨out, a1, p, pa1, c, ca1, B7, hg, hL, hlen, hoA, hA, Hz, m17⟩
  rcases a1 with _ | ⟨⟨ab, ad⟩, ar⟩
  ·
   refine wsk fun K5 hK5 => ?_
   refine wsk fun K6 hK6 => ?_
   have m18 := m17.oz [7, 9]
   refine region_p 12 (B := [(7, _), (9, _)]) (m18.to ⟨il, il, trivial⟩) m18 (by kernel_rfl) (fun w19 hP19 m19 => ?_); clear m18
   refine goA hP19 [0, 1, 2, 3] 4 0 15 Hz (m19.to ⟨il, il, trivial⟩) (.move rfl <| .len rfl U36 <| .gtr rfl rfl <| .move rfl .nil) fun Az Hz => ?_
   refine bc Hz 17 ?_ ?_
   · intro hb _; exact absurd hb (by first | (simp; done) | (simp; omega))
   clear Hz; intro _ Hz
   refine goA hP19 [4, 5, 6, 7, 8, 9, 10, 11] 8 15 4095 Hz (m19.to ⟨il, il, trivial⟩) (.s <| .s <| .s <| .s <| .s <| .s <| .s <| .pickF rfl rfl .nil) fun Az Hz => ?_
   refine wpAnyE_done (by kernel_rfl) ?_ _
   refine hK6 _ _ ?_
   refine wcf Hz ?_
   refine wp_exit ?_
   refine hK4 _ _ ?_
   refine wsk fun K7 hK7 => ?_
   refine wsk fun K8 hK8 => ?_
   replace Hz := Hz.oz [0, 5, 8, 9, 10, 7]
   have m34 := m19.oz [7, 9]
   refine region_p 12 (B := [(7, _), (9, _)]) (m34.to ⟨il, il, trivial⟩) m34 (by kernel_rfl) (fun w35 hP35 m35 => ?_); clear m34
   refine goA hP35 [0, 1, 2, 3] 4 0 15 Hz (m35.to ⟨il, il, trivial⟩) (.move rfl <| .len rfl U36 <| .gtr rfl rfl <| .move rfl .nil) fun Az Hz => ?_
   refine bc Hz 38 ?_ ?_
   · intro hb _; exact absurd hb (by first | (simp; done) | (simp; omega))
   clear Hz; intro _ Hz
   refine goA hP35 [4, 5, 6, 7, 8, 9, 10, 11] 8 15 4095 Hz (m35.to ⟨il, il, trivial⟩) (.s <| .s <| .s <| .s <| .s <| .s <| .s <| .pickF rfl rfl .nil) fun Az Hz => ?_
   refine wpAnyE_done (by kernel_rfl) ?_ _
   refine hK8 _ _ ?_
   refine wcf Hz ?_
   refine zss (hK7 _ _ ?_)
   replace Hz := Hz.oz [0, 5, 8, 9, 10, 7]
   refine wp_region_lit ?_
   refine goCh Hz (.move rfl <| .loadBR m35 (i := 7) rfl rfl U48 rfl fct1 (by simp) (by dsimp only [List.drop, List.take] <;> rfl) .nil) fun Az Hz => ?_
   refine plz (ecl Hz Tryd.func73 rfl (item_any xb xd _ _ _ ((hd10_1.now' m35 rfl).any) (hob _ (List.mem_of_getElem? hes))) ?_)
   rintro e w52 ⟨p52, c52, rfl, hd52, hb52⟩
   have m53 := m35.callF 200 rfl hb52 hd52
   refine ⟨_, rfl, ?_⟩; intro Az Hz
   have hL2 : (out ++ [(xb, xd)]) ++ laterL [] (lb.drop (k + 1)) = laterL la lb := by rw [← hL, hdk, later_nil, later_nil, List.append_assoc]; rfl
   have hoA2 : ItsOk ([] : List PI) := hoA
   have hA2 := hA
   refine plz (e_litR Hz m53 201 (mm := 2) rfl (.cons rfl rfl (.cons (.v _) (.cons (m53.rd (i := 200) rfl) .nil)) .nil) U36 fct24 rfl rfl rfl rfl rfl fun g55 Az w56 Hz m56 => ?_)
   have m58 := m56.freezeR 201 rfl
   refine plz (e_appR Hz m58 9 rfl rfl rfl (m58.rd (i := 201) rfl) U36 fct24 rfl rfl (by decide) (by simp; omega) rfl fun p57 c57 Az w59 Hz m59 => ?_)
   refine gz hK2 Hz (.assign rfl .nil) fun Az Hz => ?_
   refine wp_region_lit ?_
   refine goCh Hz (.inc (k + 1) <| .move rfl .nil) fun Az Hz => ?_
   refine wpList_nil ?_
   show ∃ n', n' < _ ∧ _
   have hE : (out.map itD) ++ [[D.v (.int .i64 xb), .ns .u8 xd]] = (out ++ [(xb, xd)]).map itD := by rw [List.map_append]; rfl
   rw [hE] at m59 Hz
   exact ⟨lb.length - (k + 1), by omega, k + 1, out ++ [(xb, xd)], ([] : List PI), _, _, _, _, by omega, rfl, hL2, by have h9 := hlen; first | (simp only [List.length_append, List.length_cons, List.length_nil] at h9 ⊢; omega) | (simp only [List.length_append, List.length_cons, List.length_nil]; omega), hoA2, hA2, Hz.only [0, 5, 8, 9, 10], m59.ren [(9, 9)] (by decide)⟩
  refine wsk fun K9 hK9 => ?_
  refine wsk fun K10 hK10 => ?_
  obtain ⟨gx64, ox64, vx64, hp64, hl64, hR64, hrg64⟩ := hA.extA (0) (r := [.v (.int .i64 ab), .ns .u8 ad]) rfl
  revert Hz
  cases hp64
  rcases hR64 with _ | ⟨hd64_0, _ | ⟨hd64_1, _ | _⟩⟩
  obtain rfl := hd64_0.v_out
  clear hd64_0
  obtain ⟨p65, c65, hv65, hw65⟩ := hd64_1.ns_shape; subst hv65
  intro Hz
  have m66 := m17.oz [7, 9]
  refine region_p 12 (B := [(7, _), (9, _)]) (m66.to ⟨il, il, trivial⟩) m66 (by kernel_rfl) (fun w67 hP67 m67 => ?_); clear m66
  refine goA hP67 [0, 1, 2, 3] 4 0 15 Hz (m67.to ⟨il, il, trivial⟩) (.move rfl <| .len rfl U36 <| .gtr rfl rfl <| .move rfl .nil) fun Az Hz => ?_
  refine bc Hz 17 ?_ ?_
  rotate_left
  · intro hb _; exact absurd hb (by first | (simp; done) | (simp; omega))
  clear Hz; intro _ Hz
  refine goR hP67 [4, 5, 6, 7, 8, 9, 10, 11] [7, 9] 8 15 4095 Hz (m67.to ⟨il, il, trivial⟩) (.move rfl <| .p (fun _ _ h => y_idx h rfl rfl U36 fct1 (0) rfl (by simp)) <| .fieldAddrQ 0 rfl U48 rfl (s := 0) (by kernel_rfl) rfl <| .loadAt1 (fun _ h => (hrg64 h rfl)) (q := 0) rfl rfl rfl U3 rfl <| .fa 0 rfl U48 <| .lb hh 7 U3 rfl rfl rfl <| .lss rfl rfl <| .pickT rfl rfl .nil) fun Az Hz => ?_
  refine wpAnyE_done (by kernel_rfl) ?_ _
  refine hK10 _ _ ?_
  refine bc Hz 25 ?_ ?_
  ·
   intro hb81 Hz; try simp only [QQ, Qax] at hb81
   have hab : ab < xb := by have := hb81; first | omega | (simp at this; omega)
   refine wct Hz ?_
   refine zss (hK9 _ _ ?_)
   refine wp_block ?_
   replace Hz := Hz.oz [0, 5, 8, 9, 10, 7]
   obtain ⟨gx84, ox84, vx84, hp84, hl84, hR84, hrg84⟩ := hA.extA (0) (r := [.v (.int .i64 ab), .ns .u8 ad]) rfl
   revert Hz
   cases hp84
   rcases hR84 with _ | ⟨hd84_0, _ | ⟨hd84_1, _ | _⟩⟩
   obtain rfl := hd84_0.v_out
   clear hd84_0
   obtain ⟨p85, c85, hv85, hw85⟩ := hd84_1.ns_shape; subst hv85
   intro Hz
   have m86 := m67.oz [7, 9]
   refine region_p 6 (B := [(7, _)]) (m86.to ⟨il, trivial⟩) m86 (by kernel_rfl) (fun w87 hP87 m87 => ?_); clear m86
   refine goR hP87 [0, 1, 2, 3, 7] [3] 5 0 143 Hz (m87.to ⟨il, trivial⟩) (.move rfl <| .move rfl <| .p (fun _ _ h => y_idx h rfl rfl U36 fct1 (0) rfl (by simp)) <| .loadAt (fun _ h => (hrg84 h rfl)) rfl U48 rfl fct1 <| .move rfl .nil) fun Az Hz => ?_
   have hA3 := hA.dropL 1 (by simp)
   refine goA hP87 [8] 1 143 399 Hz (m87.to ⟨il, trivial⟩) (.p (fun _ _ h => y_sliceLn h 1 rfl rfl U36 fct1 rfl (by simp)) .nil) fun Az Hz => ?_
   refine so 4 ?_
   refine ecl Hz Tryd.func73 rfl (item_any ab ad _ _ _ ((hd84_1.now' m87 rfl).any) (hoA _ List.mem_cons_self)) ?_
   rintro e w94 ⟨p94, c94, rfl, hd94, hb94⟩
   have m95 := m87.callF 202 rfl hb94 hd94
   refine ⟨_, rfl, ?_⟩; intro Az Hz
   refine ⟨m95.to ⟨il, trivial⟩, ?_⟩
   refine so 5 ?_
   refine e_litR Hz m95 203 (mm := 2) rfl (.cons rfl rfl (.cons (.v _) (.cons (m95.rd (i := 202) rfl) .nil)) .nil) U36 fct24 rfl rfl rfl rfl rfl fun g97 Az w98 Hz m98 => ?_
   refine ⟨m98.to ⟨il, trivial⟩, ?_⟩
   have m100 := m98.freezeR 203 rfl
   refine se 6 ?_
   refine e_appR Hz m100 9 rfl rfl rfl (m100.rd (i := 203) rfl) U36 fct24 rfl rfl (by decide) (by simp; omega) rfl fun p99 c99 Az w101 Hz m101 => ?_
   refine goB hP87 [9, 10] 2 511 2047 Hz (.assign rfl <| .assign rfl .nil) fun Az Hz => ?_
   refine wpAnyE_done (by kernel_rfl) ?_ _
   show ∃ n', n' < _ ∧ _
   have hE : (out.map itD) ++ [[D.v (.int .i64 ab), .ns .u8 ad]] = (out ++ [(ab, ad)]).map itD := by rw [List.map_append]; rfl
   rw [hE] at m101 Hz
   exact ⟨ar.length, by rw [hg, List.length_cons]; omega, out ++ [(ab, ad)], ar, _, _, _, _, _, rfl, by rw [← hL, hdk, later_lt hab, List.append_assoc]; rfl, by have h9 := hlen; rw [List.length_cons] at h9; rw [List.length_append, List.length_singleton]; omega, (fun e he => hoA e (List.mem_cons_of_mem _ he)), hA3, Hz.only [0, 5, 8, 9, 10, 7], m101.ren [(9, 9), (7, 7)] (by decide)⟩
  intro hb81 Hz; try simp only [QQ, Qax] at hb81
  have hab2 : ¬ ab < xb := by have := hb81; first | omega | (simp at this; omega)
  refine wcf Hz ?_
  refine wp_exit ?_
  refine hK4 _ _ ?_
  refine wsk fun K11 hK11 => ?_
  refine wsk fun K12 hK12 => ?_
  replace Hz := Hz.oz [0, 5, 8, 9, 10, 7]
  obtain ⟨gx106, ox106, vx106, hp106, hl106, hR106, hrg106⟩ := hA.extA (0) (r := [.v (.int .i64 ab), .ns .u8 ad]) rfl
  revert Hz
  cases hp106
  rcases hR106 with _ | ⟨hd106_0, _ | ⟨hd106_1, _ | _⟩⟩
  obtain rfl := hd106_0.v_out
  clear hd106_0
  obtain ⟨p107, c107, hv107, hw107⟩ := hd106_1.ns_shape; subst hv107
  intro Hz
  have m108 := m67.oz [7, 9]
  refine region_p 12 (B := [(7, _), (9, _)]) (m108.to ⟨il, il, trivial⟩) m108 (by kernel_rfl) (fun w109 hP109 m109 => ?_); clear m108
  refine goA hP109 [0, 1, 2, 3] 4 0 15 Hz (m109.to ⟨il, il, trivial⟩) (.move rfl <| .len rfl U36 <| .gtr rfl rfl <| .move rfl .nil) fun Az Hz => ?_
  refine bc Hz 38 ?_ ?_
  rotate_left
  · intro hb _; exact absurd hb (by first | (simp; done) | (simp; omega))
  clear Hz; intro _ Hz
  refine goR hP109 [4, 5, 6, 7, 8, 9, 10, 11] [7, 9] 8 15 4095 Hz (m109.to ⟨il, il, trivial⟩) (.move rfl <| .p (fun _ _ h => y_idx h rfl rfl U36 fct1 (0) rfl (by simp)) <| .fieldAddrQ 0 rfl U48 rfl (s := 0) (by kernel_rfl) rfl <| .loadAt1 (fun _ h => (hrg106 h rfl)) (q := 0) rfl rfl rfl U3 rfl <| .fa 0 rfl U48 <| .lb hh 7 U3 rfl rfl rfl <| .eql rfl rfl <| .pickT rfl rfl .nil) fun Az Hz => ?_
  refine wpAnyE_done (by kernel_rfl) ?_ _
  refine hK12 _ _ ?_
  refine bc Hz 46 ?_ ?_
  ·
   intro hb123 Hz; try simp only [QQ, Qax] at hb123
   have hae : ab = xb := by have := hb123; first | omega | (simp at this; omega)
   refine wct Hz ?_
   replace Hz := Hz.oz [0, 5, 8, 9, 10, 7]
   refine wp_region_lit ?_
   refine goCh Hz (.move rfl .nil) fun Az Hz => ?_
   have hA3 := hA.dropL 1 (by simp)
   refine gz hK11 Hz (.c rfl (fun _ h => y_sliceLn h 1 rfl rfl U36 fct1 rfl (by simp)) <| .assign rfl <| .nil) fun Az Hz => ?_
   refine wp_region_lit ?_
   refine goCh Hz (.move rfl <| .loadBR m109 (i := 7) rfl rfl U48 rfl fct1 (by simp) (by dsimp only [List.drop, List.take] <;> rfl) .nil) fun Az Hz => ?_
   refine plz (ecl Hz Tryd.func73 rfl (item_any xb xd _ _ _ ((hd10_1.now' m109 rfl).any) (hob _ (List.mem_of_getElem? hes))) ?_)
   rintro e w130 ⟨p130, c130, rfl, hd130, hb130⟩
   have m131 := m109.callF 202 rfl hb130 hd130
   refine ⟨_, rfl, ?_⟩; intro Az Hz
   have hL2 : (out ++ [(xb, xd)]) ++ laterL ar (lb.drop (k + 1)) = laterL la lb := by rw [← hL, hdk, later_eq hae, List.append_assoc]; rfl
   have hoA2 : ItsOk ar := fun e he => hoA e (List.mem_cons_of_mem _ he)
   have hA2 := hA3
   refine plz (e_litR Hz m131 203 (mm := 2) rfl (.cons rfl rfl (.cons (.v _) (.cons (m131.rd (i := 202) rfl) .nil)) .nil) U36 fct24 rfl rfl rfl rfl rfl fun g133 Az w134 Hz m134 => ?_)
   have m136 := m134.freezeR 203 rfl
   refine plz (e_appR Hz m136 9 rfl rfl rfl (m136.rd (i := 203) rfl) U36 fct24 rfl rfl (by decide) (by simp; omega) rfl fun p135 c135 Az w137 Hz m137 => ?_)
   refine gz hK2 Hz (.assign rfl .nil) fun Az Hz => ?_
   replace Hz := Hz.oz [0, 5, 8, 9, 10, 7]
   refine wp_region_lit ?_
   refine goCh Hz (.inc (k + 1) <| .move rfl .nil) fun Az Hz => ?_
   refine wpList_nil ?_
   show ∃ n', n' < _ ∧ _
   have hE : (out.map itD) ++ [[D.v (.int .i64 xb), .ns .u8 xd]] = (out ++ [(xb, xd)]).map itD := by rw [List.map_append]; rfl
   rw [hE] at m137 Hz
   exact ⟨lb.length - (k + 1), by omega, k + 1, out ++ [(xb, xd)], ar, _, _, _, _, by omega, rfl, hL2, by have h9 := hlen; first | (simp only [List.length_append, List.length_cons, List.length_nil] at h9 ⊢; omega) | (simp only [List.length_append, List.length_cons, List.length_nil]; omega), hoA2, hA2, Hz.only [0, 5, 8, 9, 10], m137.ren [(9, 9)] (by decide)⟩
  intro hb123 Hz; try simp only [QQ, Qax] at hb123
  have hae2 : ¬ ab = xb := by have := hb123; first | omega | (simp at this; omega)
  refine wcf Hz ?_
  refine zss (hK11 _ _ ?_)
  replace Hz := Hz.oz [0, 5, 8, 9, 10, 7]
  refine wp_region_lit ?_
  refine goCh Hz (.move rfl <| .loadBR m109 (i := 7) rfl rfl U48 rfl fct1 (by simp) (by dsimp only [List.drop, List.take] <;> rfl) .nil) fun Az Hz => ?_
  refine plz (ecl Hz Tryd.func73 rfl (item_any xb xd _ _ _ ((hd10_1.now' m109 rfl).any) (hob _ (List.mem_of_getElem? hes))) ?_)
  rintro e w145 ⟨p145, c145, rfl, hd145, hb145⟩
  have m146 := m109.callF 202 rfl hb145 hd145
  refine ⟨_, rfl, ?_⟩; intro Az Hz
  have hL2 : (out ++ [(xb, xd)]) ++ laterL ((ab, ad) :: ar) (lb.drop (k + 1)) = laterL la lb := by rw [← hL, hdk, later_gt (by omega), List.append_assoc]; rfl
  have hoA2 := hoA
  have hA2 := hA
  refine plz (e_litR Hz m146 203 (mm := 2) rfl (.cons rfl rfl (.cons (.v _) (.cons (m146.rd (i := 202) rfl) .nil)) .nil) U36 fct24 rfl rfl rfl rfl rfl fun g148 Az w149 Hz m149 => ?_)
  have m151 := m149.freezeR 203 rfl
  refine plz (e_appR Hz m151 9 rfl rfl rfl (m151.rd (i := 203) rfl) U36 fct24 rfl rfl (by decide) (by simp; omega) rfl fun p150 c150 Az w152 Hz m152 => ?_)
  refine gz hK2 Hz (.assign rfl .nil) fun Az Hz => ?_
  refine wp_region_lit ?_
  refine goCh Hz (.inc (k + 1) <| .move rfl .nil) fun Az Hz => ?_
  refine wpList_nil ?_
  show ∃ n', n' < _ ∧ _
  have hE : (out.map itD) ++ [[D.v (.int .i64 xb), .ns .u8 xd]] = (out ++ [(xb, xd)]).map itD := by rw [List.map_append]; rfl
  rw [hE] at m152 Hz
  exact ⟨lb.length - (k + 1), by omega, k + 1, out ++ [(xb, xd)], ((ab, ad) :: ar), _, _, _, _, by omega, rfl, hL2, by have h9 := hlen; first | (simp only [List.length_append, List.length_cons, List.length_nil] at h9 ⊢; omega) | (simp only [List.length_append, List.length_cons, List.length_nil]; omega), hoA2, hA2, Hz.only [0, 5, 8, 9, 10], m152.ren [(9, 9)] (by decide)⟩
 intro hb8 Hz; try simp only [QQ, Qax] at hb8
 have hke : k = lb.length := by have := hb8; first | omega | (simp at this; omega)
 refine wcf Hz ?_
 refine wp_exit ?_
 refine hK0 _ _ ?_
 refine zsr fun K13 hK13 => ?_
 refine goCh Hz (.move rfl <| .move rfl .nil) fun Az Hz => ?_
 refine plz (ecl Hz Tryd.func74 rfl (items_any a1 _ _ _ _ ((hA.now' m6 rfl).any) (by omega) hoA) ?_)
 rintro e w160 ⟨p160, c160, rfl, hd160, hb160⟩
 have m161 := m6.callF 100 rfl hb160 hd160
 refine ⟨_, rfl, ?_⟩; intro Az Hz
 refine plz (e_appR Hz m161 9 rfl rfl rfl (m161.rd (i := 100) rfl) U36 fct24 rfl rfl (by decide) (by simp; omega) rfl fun p163 c163 Az w164 Hz m164 => ?_)
 refine gz hK13 Hz (.assign rfl .nil) fun Az Hz => ?_
 refine rt1 Hz ?_
 have m166 := m164.freezeR 9 rfl
 rw [hke, List.drop_length, later_nil2] at hL
 rw [← List.map_append, hL] at m166
 rw [← List.map_append, hL]
 exact ⟨_, _, by rw [List.length_map], by have h9 := m166.outF (i := 9) rfl; rwa [List.length_map] at h9, m166.below⟩
theorem pstream_any (v : StrV) (p : Option Addr) (n c : Nat) (w0 : World) (h1 : Rd (fun _ => True) w0 (.slice p n c) (.l 2 (v.its.map itD))) (hl : v.its.length ≤ 1000000) (hok : ItsOk v.its) :
   Calls Tryd.prog 51 #[.agg #[.int .i64 v.bl, .int .i64 v.sz, .int .i64 v.fr, .int .i64 v.to, .slice p n c]] w0 fun e w' => ∃ p c, e = .returned (.agg #[.int .i64 v.bl, .int .i64 v.sz, .int .i64 v.fr, .int .i64 v.to, .slice p v.its.length c]) ∧ Rd (New w0) w' (.slice p v.its.length c) (.l 2 (v.its.map itD)) ∧ Below w0.heap.size w0 w' := by
 obtain rfl : n = v.its.length := by obtain ⟨pq, cq, hv, _⟩ := h1.l_shape; injection hv with _ e2 _; rw [List.length_map] at e2; exact e2
 refine ent1 Tryd.func51 rfl Tryd.ntmps51 fun Az Hz => ?_
 have m0 := MemOk.start (fun _ => False) w0
 refine zsr fun K0 hK0 => ?_
 refine plz (e_box Hz m0 20 (cs := [_, _, _, _, _]) rfl rfl rfl fun g1 Az w2 Hz m2 _ _ => ?_)
 refine plz (e_alloc Hz m2 21 fct17 rfl fun g3 Az w4 Hz m4 _ _ => ?_)
 refine znl (hK0 _ _ ?_)
 refine zsr fun K1 hK1 => ?_
 refine goCh Hz (.fa 4 rfl U38 <| .lb m4 20 U36 rfl rfl rfl .nil) fun Az Hz => ?_
 refine plz (ecl Hz Tryd.func74 rfl (items_any v.its _ _ _ _ ((h1.now' m4 rfl).any) hl hok) ?_)
 rintro e w9 ⟨p9, c9, rfl, hd9, hb9⟩
 have m10 := m4.callF 22 rfl hb9 hd9
 refine ⟨_, rfl, ?_⟩; intro Az Hz
 refine goCh Hz (.fieldAddr (off := 4) rfl U38 rfl (s := 0) (by kernel_rfl) rfl .nil) fun Az Hz => ?_
 refine plz (st1 Hz m10 20 fct19 fun w13 m13 _ => ?_)
 refine znl (hK1 _ _ ?_)
 refine zsr fun K2 hK2 => ?_
 refine goCh Hz (.loadBR m13 (i := 20) rfl rfl U38 rfl fct2 (by simp) (by dsimp only [List.drop, List.take] <;> rfl) .nil) fun Az Hz => ?_
 refine plz (stw Hz m13 21 fct2 fun w16 m16 _ => ?_)
 refine znl (hK2 _ _ ?_)
 refine rtd (retC (fn := Tryd.f51) Hz m16 (i := 21) rfl rfl rfl U38 rfl fct2 ?_)
 exact ⟨_, _, by rw [List.length_map], by have h9 := m16.outF (i := 22) rfl; rwa [List.length_map] at h9, m16.below⟩
theorem merge_any (x y : StrV) (pa pb : Option Addr) (na nb ca cb : Nat) (w0 : World) (h1 : Rd (fun _ => True) w0 (.slice pa na ca) (.l 2 (x.its.map itD))) (h2 : Rd (fun _ => True) w0 (.slice pb nb cb) (.l 2 (y.its.map itD))) (hlen : x.its.length + y.its.length ≤ 1000000) (hoa : ItsOk x.its) (hob : ItsOk y.its) :
   Calls Tryd.prog 29 #[.agg #[.int .i64 x.bl, .int .i64 x.sz, .int .i64 x.fr, .int .i64 x.to, .slice pa na ca], .agg #[.int .i64 y.bl, .int .i64 y.sz, .int .i64 y.fr, .int .i64 y.to, .slice pb nb cb]] w0 fun e w' => ∃ p c, e = .returned (.agg #[.int .i64 (mergeV x y).bl, .int .i64 (mergeV x y).sz, .int .i64 (mergeV x y).fr, .int .i64 (mergeV x y).to, .slice p (mergeV x y).its.length c]) ∧ Rd (New w0) w' (.slice p (mergeV x y).its.length c) (.l 2 ((mergeV x y).its.map itD)) ∧ Below w0.heap.size w0 w' := by
 obtain rfl : na = x.its.length := by obtain ⟨pq, cq, hv, _⟩ := h1.l_shape; injection hv with _ e2 _; rw [List.length_map] at e2; exact e2
 obtain rfl : nb = y.its.length := by obtain ⟨pq, cq, hv, _⟩ := h2.l_shape; injection hv with _ e2 _; rw [List.length_map] at e2; exact e2
 refine ent2 Tryd.func29 rfl Tryd.ntmps29 fun Az Hz => ?_
 have m0 := MemOk.start (fun _ => False) w0
 refine zsr fun K0 hK0 => ?_
 refine plz (e_box Hz m0 20 (cs := [_, _, _, _, _]) rfl rfl rfl fun g1 Az w2 Hz m2 _ _ => ?_)
 refine plz (e_box Hz m2 21 (cs := [_, _, _, _, _]) rfl rfl rfl fun g3 Az w4 Hz m4 _ _ => ?_)
 refine plz (e_alloc Hz m4 22 fct17 rfl fun g5 Az w6 Hz m6 _ _ => ?_)
 refine znl (hK0 _ _ ?_)
 refine wsk fun K1 hK1 => ?_
 have m7 := m6.oz [20, 21, 22]
 refine region_p 14 (B := [(20, _), (21, _), (22, _)]) (m7.to ⟨il, il, il, trivial⟩) m7 (by kernel_rfl) (fun w8 hP8 m8 => ?_); clear m7
 refine goR hP8 [0, 1, 2, 3, 4, 5, 6, 7, 8, 9, 10, 11] [1, 3, 5, 7, 9, 11] 12 0 4095 Hz (m8.to ⟨il, il, il, trivial⟩) (.fa 0 rfl U38 <| .lb hh 20 U3 rfl rfl rfl <| .fa 1 rfl U38 <| .lb hh 20 U3 rfl rfl rfl <| .fa 2 rfl U38 <| .lb hh 20 U2 rfl rfl rfl <| .fa 3 rfl U38 <| .lb hh 21 U2 rfl rfl rfl <| .fa 4 rfl U38 <| .lb hh 20 U36 rfl rfl rfl <| .fa 4 rfl U38 <| .lb hh 21 U36 rfl rfl rfl .nil) fun Az Hz => ?_
 refine so 12 ?_
 refine ecl Hz Tryd.func50 rfl (later_any x.its y.its _ _ _ _ _ _ _ ((h1.now' m8 rfl).any) ((h2.now' m8 rfl).any) hlen hoa hob) ?_
 rintro e w21 ⟨p21, c21, rfl, hd21, hb21⟩
 have m22 := m8.callF 23 rfl hb21 hd21
 refine ⟨_, rfl, ?_⟩; intro Az Hz
 refine ⟨m22.to ⟨il, il, il, trivial⟩, ?_⟩
 refine goA hP8 [13] 1 8191 16383 Hz (m22.to ⟨il, il, il, trivial⟩) (.build rfl fct17 fl38cme rfl (by dsimp only [setL, List.set] <;> rfl) .nil) fun Az Hz => ?_
 refine se 14 ?_
 refine stw Hz m22 22 fct2 fun w25 m25 _ => ?_
 refine wpAnyE_done (by kernel_rfl) ?_ _
 refine hK1 _ _ ?_
 refine rtd (retC (fn := Tryd.f29) Hz m25 (i := 22) rfl rfl rfl U38 rfl fct2 ?_)
 exact ⟨_, _, rfl, m25.outF (i := 23) rfl, m25.below⟩
theorem all_any (N : Nat) : ∀ (l : List StrV) (p : Option Addr) (nn c : Nat) (w0 : World) (h1 : Rd (fun _ => True) w0 (.slice p nn c) (.l 5 (l.map strD))) (h0 : 0 < l.length) (hN : l.length ≤ N) (hb : N ≤ 1000) (ht : totL l ≤ 1000000) (hok : ∀ s ∈ l, ItsOk s.its),
   Calls Tryd.prog 30 #[.slice p nn c] w0 fun e w' => ∃ (s : StrV) (p : Option Addr) (c : Nat), Ev l s ∧ s.its.length ≤ totL l ∧ ItsOk s.its ∧ e = .returned (.agg #[.int .i64 s.bl, .int .i64 s.sz, .int .i64 s.fr, .int .i64 s.to, .slice p s.its.length c]) ∧ Rd (New w0) w' (.slice p s.its.length c) (.l 2 (s.its.map itD)) ∧ Below w0.heap.size w0 w' := by
 induction N with
 | zero => intros; omega
 | succ N ih =>
 intro l p nn c w0 h1 h0 hN hb ht hok
 obtain rfl : nn = l.length := by obtain ⟨pq, cq, hv, _⟩ := h1.l_shape; injection hv with _ e2 _; rw [List.length_map] at e2; exact e2
 refine ent1 Tryd.func30 rfl Tryd.ntmps30 fun Az Hz => ?_
 have m0 := MemOk.start (fun _ => False) w0
 have hcap : l.length ≤ c := by obtain ⟨pq, cq, hv, hcap⟩ := h1.l_shape; injection hv with _ _ e3; rw [List.length_map] at hcap; omega
 refine zsr fun K0 hK0 => ?_
 refine plz (e_alloc Hz m0 20 fct17 rfl fun g1 Az w2 Hz m2 _ _ => ?_)
 refine znl (hK0 _ _ ?_)
 refine wsk fun K1 hK1 => ?_
 refine regS Hz (.move rfl <| .len rfl U26 <| .eql rfl rfl .nil) fun Az Hz => ?_
 refine bc Hz 6 ?_ ?_
 ·
  intro hb6 Hz; try simp only [QQ, Qax] at hb6
  have hl1 : l.length = 1 := by have := hb6; first | omega | (simp at this; omega)
  obtain ⟨sv, hes⟩ : ∃ e, l[0]? = some e := ⟨_, List.getElem?_eq_getElem (by omega)⟩
  have hso := hok sv (List.mem_of_getElem? hes)
  have hsl := tot_mem ht (List.mem_of_getElem? hes)
  have hlo := one_of hl1 hes
  refine wct Hz ?_
  refine zsr fun K2 hK2 => ?_
  refine goCh Hz (.move rfl .nil) fun Az Hz => ?_
  obtain ⟨gx10, ox10, vx10, hp10, hl10, hR10, hrg10⟩ := h1.extA (0) (r := [.v (.int .i64 sv.bl), .v (.int .i64 sv.sz), .v (.int .i64 sv.fr), .v (.int .i64 sv.to), .l 2 (sv.its.map itD)]) (strD_get hes)
  revert Hz
  cases hp10
  rcases hR10 with _ | ⟨hd10_0, _ | ⟨hd10_1, _ | ⟨hd10_2, _ | ⟨hd10_3, _ | ⟨hd10_4, _ | _⟩⟩⟩⟩⟩
  obtain rfl := hd10_0.v_out
  clear hd10_0
  obtain rfl := hd10_1.v_out
  clear hd10_1
  obtain rfl := hd10_2.v_out
  clear hd10_2
  obtain rfl := hd10_3.v_out
  clear hd10_3
  obtain ⟨p11, c11, hv11, hw11⟩ := hd10_4.l_shape; subst hv11
  intro Hz
  refine goCh Hz (.c rfl (fun _ h => y_idx h rfl rfl U26 fct2 (0) rfl (by omega)) <| .loadAt (hrg10 m2 rfl) rfl U38 rfl fct2 .nil) fun Az Hz => ?_
  refine plz (ecl Hz Tryd.func51 rfl (pstream_any sv _ _ _ _ ((hd10_4.now' m2 rfl).any) hsl hso) ?_)
  rintro e w14 ⟨p14, c14, rfl, hd14, hb14⟩
  have m15 := m2.callF 22 rfl hb14 hd14
  refine ⟨_, rfl, ?_⟩; intro Az Hz
  refine plz (stw Hz m15 20 fct2 fun w17 m17 _ => ?_)
  refine znl (hK2 _ _ ?_)
  refine rtd (retC (fn := Tryd.f30) Hz m17 (i := 20) rfl rfl rfl U38 rfl fct2 ?_)
  exact ⟨sv, _, _, hlo, tot_le (List.mem_of_getElem? hes), hso, rfl, m17.outF (i := 22) rfl, m17.below⟩
 intro hb6 Hz; try simp only [QQ, Qax] at hb6
 have hl2 : 2 ≤ l.length := by have := hb6; first | omega | (simp at this; omega)
 obtain ⟨hta, htb, htt⟩ := tot_split ht (l.length / 2)
 refine wcf Hz ?_
 refine zss (hK1 _ _ ?_)
 refine regS Hz (.move rfl <| .len rfl U26 <| .quo rfl rfl (by omega) (r := ((l.length / 2 : Nat) : Int)) (by rw [Int.tdiv_eq_ediv_of_nonneg (by omega), IntWalk.i64_in _ (by omega)]; omega) <| .assign rfl .nil) fun Az Hz => ?_
 refine wsk fun K3 hK3 => ?_
 replace Hz := Hz.oz [0, 2, 3]
 have m23 := m2.oz [20]
 refine region_p 9 (B := [(20, _)]) (m23.to ⟨il, trivial⟩) m23 (by kernel_rfl) (fun w24 hP24 m24 => ?_); clear m23
 refine goA hP24 [0, 1] 2 0 3 Hz (m24.to ⟨il, trivial⟩) (.move rfl <| .move rfl .nil) fun Az Hz => ?_
 have hT := h1.takeL (l.length / 2) (by rw [List.length_map]; omega)
 rw [← List.map_take] at hT
 refine goA hP24 [2, 4, 5] 3 3 55 Hz (m24.to ⟨il, trivial⟩) (.p (fun _ _ h => y_sliceHn h (l.length / 2) rfl rfl U26 fct2 rfl (by omega)) <| .move rfl <| .move rfl .nil) fun Az Hz => ?_
 have hD := h1.dropL (l.length / 2) (by rw [List.length_map]; omega)
 rw [← List.map_drop] at hD
 refine goA hP24 [6] 1 55 119 Hz (m24.to ⟨il, trivial⟩) (.p (fun _ _ h => y_sliceLn h (l.length / 2) rfl rfl U26 fct2 rfl (by omega)) .nil) fun Az Hz => ?_
 refine so 3 ?_
 refine ecl Hz Tryd.func30 rfl (ih (l.take (l.length / 2)) _ _ _ _ ((hT.now' m24 rfl).any) (by rw [List.length_take]; omega) (by rw [List.length_take]; omega) (by omega) hta (fun e he => hok e (List.mem_of_mem_take he))) ?_
 rintro e w31 ⟨x, p31, c31, hEx, hlx, hox, rfl, hd31, hb31⟩
 have m32 := m24.callF 21 rfl hb31 hd31
 refine ⟨_, rfl, ?_⟩; intro Az Hz
 refine ⟨m32.to ⟨il, trivial⟩, ?_⟩
 refine so 7 ?_
 refine ecl Hz Tryd.func30 rfl (ih (l.drop (l.length / 2)) _ _ _ _ ((hD.now' m32 rfl).any) (by rw [List.length_drop]; omega) (by rw [List.length_drop]; omega) (by omega) htb (fun e he => hok e (List.mem_of_mem_drop he))) ?_
 rintro e w34 ⟨y, p34, c34, hEy, hly, hoy, rfl, hd34, hb34⟩
 have m35 := m32.callF 22 rfl hb34 hd34
 refine ⟨_, rfl, ?_⟩; intro Az Hz
 refine ⟨m35.to ⟨il, trivial⟩, ?_⟩
 refine so 8 ?_
 refine ecl Hz Tryd.func29 rfl (merge_any x y _ _ _ _ _ _ _ ((m35.rd (i := 21) rfl).any) ((m35.rd (i := 22) rfl).any) (by omega) hox hoy) ?_
 rintro e w37 ⟨p37, c37, rfl, hd37, hb37⟩
 have m38 := m35.callF 23 rfl hb37 hd37
 refine ⟨_, rfl, ?_⟩; intro Az Hz
 refine ⟨m38.to ⟨il, trivial⟩, ?_⟩
 refine se 9 ?_
 refine stw Hz m38 20 fct2 fun w40 m40 _ => ?_
 refine wpAnyE_done (by kernel_rfl) ?_ _
 refine hK3 _ _ ?_
 refine rtd (retC (fn := Tryd.f30) Hz m40 (i := 20) rfl rfl rfl U38 rfl fct2 ?_)
 exact ⟨mergeV x y, _, _, Ev.half hEx hEy, by have h9 := later_len x.its y.its; show (laterL _ _).length ≤ _; omega, later_ok hox hoy, rfl, m40.outF (i := 23) rfl, m40.below⟩
end Go.Proofs.YtcccomafnmdlfaaDoor.K
