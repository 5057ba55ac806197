/- chain: streams as values, the items of two, merged; all of a chain as one. -/
import Derived.Test.YtflcgpajodfkoaaDoorInt1
namespace Go.Proofs.YtflcgpajodfkoaaDoor.K
open Go.ChangeShapes Go.WideShapes Go.ChangeAt Go.RowKit
set_option linter.unusedVariables false
set_option linter.unusedSimpArgs false
theorem fl35cme : flatS Tryd.prog 35 [.int .i64 0, .int .i64 0, .int .i64 0, .int .i64 0, .slice none 0 0] = true := by kernel_rfl
structure StrV where
 bl : Int
 sz : Int
 fr : Int
 to : Int
 its : List PI
def s0V : StrV := ⟨0, 0, 0, 0, []⟩
def strD (s : StrV) : List D := [.v (.int .i64 s.bl), .v (.int .i64 s.sz), .v (.int .i64 s.fr), .v (.int .i64 s.to), .l 2 (s.its.map itD)]
theorem strD_get {A : List StrV} {k : Nat} {s : StrV} (h : A[k]? = some s) : (A.map strD)[k]? = some [.v (.int .i64 s.bl), .v (.int .i64 s.sz), .v (.int .i64 s.fr), .v (.int .i64 s.to), .l 2 (s.its.map itD)] := by simp [h, strD]
def laterL : List PI → List PI → List PI
 | [], b => b
 | p :: a, [] => p :: a
 | p :: a, q :: b => if p.1 < q.1 then p :: laterL a (q :: b) else if p.1 = q.1 then q :: laterL a b else q :: laterL (p :: a) b
termination_by a b => a.length + b.length
theorem later_nil (b : List PI) : laterL [] b = b := by rw [laterL]
theorem later_nil2 (a : List PI) : laterL a [] = a := by cases a <;> rw [laterL]
theorem later_lt {p q : Int} {x y : List Int} {a b : List PI} (h : p < q) : laterL ((p, x) :: a) ((q, y) :: b) = (p, x) :: laterL a ((q, y) :: b) := by rw [laterL, if_pos h]
theorem later_eq {p q : Int} {x y : List Int} {a b : List PI} (h : p = q) : laterL ((p, x) :: a) ((q, y) :: b) = (q, y) :: laterL a b := by rw [laterL, if_neg (by simp only; omega), if_pos h]
theorem later_gt {p q : Int} {x y : List Int} {a b : List PI} (h : q < p) : laterL ((p, x) :: a) ((q, y) :: b) = (q, y) :: laterL ((p, x) :: a) b := by rw [laterL, if_neg (by simp only; omega), if_neg (by simp only; omega)]
theorem later_mem {a b : List PI} : ∀ e ∈ laterL a b, e ∈ a ∨ e ∈ b := by
 fun_induction laterL a b with
 | case1 b => intro e h; exact .inr h
 | case2 p a => intro e h; exact .inl h
 | case3 p a q b h ih =>
   intro e he
   rcases List.mem_cons.1 he with rfl | he
   · exact .inl List.mem_cons_self
   rcases ih e he with h1 | h1
   · exact .inl (List.mem_cons_of_mem _ h1)
   exact .inr h1
 | case4 p a q b h h2 ih =>
   intro e he
   rcases List.mem_cons.1 he with rfl | he
   · exact .inr List.mem_cons_self
   rcases ih e he with h1 | h1
   · exact .inl (List.mem_cons_of_mem _ h1)
   exact .inr (List.mem_cons_of_mem _ h1)
 | case5 p a q b h h2 ih =>
   intro e he
   rcases List.mem_cons.1 he with rfl | he
   · exact .inr List.mem_cons_self
   rcases ih e he with h1 | h1
   · exact .inl h1
   exact .inr (List.mem_cons_of_mem _ h1)
theorem later_len (a b : List PI) : (laterL a b).length ≤ a.length + b.length := by
 fun_induction laterL a b <;> simp only [List.length_cons, List.length_nil] at * <;> omega
theorem later_ok {a b : List PI} (ha : ItsOk a) (hb : ItsOk b) : ItsOk (laterL a b) := fun e he => (later_mem e he).elim (ha e) (hb e)
def mergeV (x y : StrV) : StrV := ⟨x.bl, x.sz, x.fr, y.to, laterL x.its y.its⟩
inductive Ev : List StrV → StrV → Prop
 | one (s : StrV) : Ev [s] s
 | two {a b : List StrV} {x y : StrV} (h1 : Ev a x) (h2 : Ev b y) : Ev (a ++ b) (mergeV x y)
theorem Ev.half {l : List StrV} {k : Nat} {x y : StrV} (h1 : Ev (l.take k) x) (h2 : Ev (l.drop k) y) : Ev l (mergeV x y) := by
 have := Ev.two h1 h2
 rwa [List.take_append_drop] at this
theorem one_of {l : List StrV} {s : StrV} (h : l.length = 1) (hs : l[0]? = some s) : Ev l s := by
 match l, h with
 | [x], _ => injection hs with hs; subst hs; exact .one x
def totL (l : List StrV) : Nat := (l.map (·.its.length)).sum
theorem tot_app (a b : List StrV) : totL (a ++ b) = totL a + totL b := by simp [totL]
theorem tot_le {l : List StrV} {s : StrV} (h : s ∈ l) : s.its.length ≤ totL l := by
 obtain ⟨a, b, rfl⟩ := List.append_of_mem h
 rw [tot_app, show s :: b = [s] ++ b from rfl, tot_app]
 have : totL [s] = s.its.length := by simp [totL]
 omega
theorem tot_mem {l : List StrV} {s : StrV} (ht : totL l ≤ 1000000) (h : s ∈ l) : s.its.length ≤ 1000000 := Nat.le_trans (tot_le h) ht
theorem tot_split {l : List StrV} (ht : totL l ≤ 1000000) (k : Nat) : totL (l.take k) ≤ 1000000 ∧ totL (l.drop k) ≤ 1000000 ∧ totL (l.take k) + totL (l.drop k) = totL l := by
 have h := tot_app (l.take k) (l.drop k)
 rw [List.take_append_drop] at h
 omega
set_option maxRecDepth 100000
set_option maxHeartbeats 4000000
theorem later_any (la lb : List PI) (pa pb : Option Addr) (na nb ca cb : Nat) (w0 : World) (h1 : Rd (fun _ => True) w0 (.slice pa na ca) (.l 2 (la.map itD))) (h2 : Rd (fun _ => True) w0 (.slice pb nb cb) (.l 2 (lb.map itD))) (hlb : la.length + lb.length ≤ 1000000) (hoa : ItsOk la) (hob : ItsOk lb) :
   Calls Tryd.prog 47 #[.slice pa na ca, .slice pb nb cb] w0 fun e w' => ∃ p c, e = .returned (.slice p (laterL la lb).length c) ∧ Rd (New w0) w' (.slice p (laterL la lb).length c) (.l 2 ((laterL la lb).map itD)) ∧ Below w0.heap.size w0 w' := by
 obtain rfl : na = la.length := by obtain ⟨pq, cq, hv, _⟩ := h1.l_shape; injection hv with _ e2 _; rw [List.length_map] at e2; exact e2
 obtain rfl : nb = lb.length := by obtain ⟨pq, cq, hv, _⟩ := h2.l_shape; injection hv with _ e2 _; rw [List.length_map] at e2; exact e2
 refine ent2 Tryd.func47 rfl Tryd.ntmps47 fun Az Hz => ?_
 have m0 := MemOk.start (fun _ => False) w0
 refine regS Hz (.assign rfl <| .nil) ?_
 clear Hz Az; intro Az Hz
 refine regS Hz (.assign rfl <| .nil) ?_
 clear Hz Az; intro Az Hz
 refine wp_seq_k (fun K0 hK0 => ?_)
 refine regS Hz (.move rfl <| .len rfl U33 <| .move rfl <| .nil) ?_
 clear Hz Az; intro Az Hz
 refine wp_block ?_
 refine wp_loop_ghost (fun g a w => ∃ (k : Nat) (out a1 : List PI) (p pa1 : Option Addr) (c ca1 : Nat), k ≤ lb.length ∧ g = lb.length - k ∧ out ++ laterL a1 (lb.drop k) = laterL la lb ∧ out.length + a1.length ≤ la.length + k ∧ ItsOk a1 ∧ Rd (fun _ => True) w0 (.slice pa1 a1.length ca1) (.l 2 (a1.map itD)) ∧ Has 59 [(0, .slice pa1 a1.length ca1), (5, .slice p (out.map itD).length c), (8, .slice pb lb.length cb), (9, .int .i64 lb.length), (10, .int .i64 k)] a ∧ MemOk (cn w0) w0 [(9, .row (.slice p (out.map itD).length c) 58 2 (out.map itD))] w) (lb.length) ?_ ?_
 · have mz := m0.nilR 9 58 2
   exact ⟨0, [], la, _, _, _, _, Nat.zero_le _, rfl, rfl, by simp, hoa, h1, Hz.only [0, 5, 8, 9, 10], mz.only [9]⟩
 clear Hz m0
 rintro g Az w6 ⟨k, out, a1, p, pa1, c, ca1, hkl, hg, hL, hlen, hoA, hA, Hz, m6⟩
 refine regS Hz (.lss rfl rfl <| .nil) ?_
 clear Hz Az; intro Az Hz
 refine wp_seq_k (fun K1 hK1 => ?_)
 refine bool_cases Hz (t := 11) rfl ?_ ?_
 ·
  clear Hz; intro hb8 Hz; try simp only [QQ, Qax] at hb8
  have hk : k < lb.length := by have := hb8; first | omega | (simp at this; omega)
  obtain ⟨⟨xb, xd⟩, hes⟩ : ∃ e, lb[k]? = some e := ⟨_, List.getElem?_eq_getElem hk⟩
  have hdk : lb.drop k = (xb, xd) :: lb.drop (k + 1) := by rw [List.drop_eq_getElem_cons hk]; congr 1; exact Option.some.inj ((List.getElem?_eq_getElem hk).symm.trans hes)
  refine wp_cond_true (Hz.ev (x := .tmp 11) rfl) ?_
  refine zss (hK1 _ _ ?_); clear hK1
  refine wp_seq_k (fun K2 hK2 => ?_)
  refine wp_block ?_
  refine zsr fun K3 hK3 => ?_
  obtain ⟨gx10, ox10, vx10, hp10, hl10, hR10, hrg10⟩ := h2.extA (k) (r := [.v (.int .i64 xb), .ns .u8 xd]) (itD_get hes)
  cases hp10; clear hl10
  rcases hR10 with _ | ⟨hd10_0, _ | ⟨hd10_1, _ | _⟩⟩
  obtain rfl := hd10_0.v_out
  clear hd10_0
  obtain ⟨p11, c11, hv11, hw11⟩ := hd10_1.ns_shape; subst hv11
  refine goCh Hz (.c rfl (fun _ h => y_idx h rfl rfl U33 fct2 (k) rfl hk) <| .loadAt (hrg10 m6 rfl) rfl U58 rfl fct2 <| .nil) ?_
  clear Hz Az; intro Az Hz
  refine wpList_plain rfl (fun K hK => ?_)
  refine e_alloc Hz m6 101 fct3 rfl ?_
  clear Hz Az m6; intro g14 Az w15 Hz m15 hB15 hg15
  clear hB15 hg15
  refine hK _ _ ?_; clear hK
  refine wpList_plain rfl (fun K hK => ?_)
  refine e_storeW Hz m15 101 rfl rfl rfl rfl rfl fct2 ?_
  clear m15; intro w16 m16 hB16
  clear hB16
  refine hK _ _ ?_; clear hK
  refine znl (hK3 _ _ ?_); clear hK3
  refine wp_seq_k (fun K4 hK4 => ?_)
  refine wp_block ?_
  refine wp_loop_ghost (fun g a w => ∃ (out a1 : List PI) (p pa1 : Option Addr) (c ca1 B7 : Nat), g = a1.length ∧ out ++ laterL a1 (lb.drop k) = laterL la lb ∧ out.length + a1.length ≤ la.length + k ∧ ItsOk a1 ∧ Rd (fun _ => True) w0 (.slice pa1 a1.length ca1) (.l 2 (a1.map itD)) ∧ Has 59 [(0, .slice pa1 a1.length ca1), (5, .slice p (out.map itD).length c), (8, .slice (some ⟨gx10, ox10, none⟩) lb.length cb), (9, .int .i64 lb.length), (10, .int .i64 k), (7, .pointer (some ⟨B7, 0, none⟩))] a ∧ MemOk (cn w0) w0 [(9, .row (.slice p (out.map itD).length c) 58 2 (out.map itD)), (7, .box B7 58 [.int .i64 xb, .slice p11 xd.length c11])] w) (a1.length) ?_ ?_
  · exact ⟨out, a1, _, _, _, _, _, rfl, hL, hlen, hoA, hA, Hz.only [0, 5, 8, 9, 10, 7], m16.ren [(9, 9), (7, 101)] (by decide)⟩
  clear Hz m16
  rintro g Az w17 ⟨out, a1, p, pa1, c, ca1, B7, hg, hL, hlen, hoA, hA, Hz, m17⟩
  rcases a1 with _ | ⟨⟨ab, ad⟩, ar⟩
  ·
   refine wp_seq_k (fun K5 hK5 => ?_)
   refine wp_seq_k (fun K6 hK6 => ?_)
   have m18 : MemOk _ _ [(7, _), (9, _)] _ := m17.only [7, 9]; clear m17
   refine region_p 12 (B := [(7, _), (9, _)]) (m18.to ⟨il, il, trivial⟩) m18 (by kernel_rfl) (fun w19 hP19 m19 => ?_); clear m18
   refine goA hP19 [0, 1, 2, 3] 4 0 15 Hz (m19.to ⟨il, il, trivial⟩) (.move rfl <| .len rfl U33 <| .gtr rfl rfl <| .move rfl <| .nil) ?_
   clear Hz Az; intro Az Hz
   refine bool_cases Hz (t := 17) rfl ?_ ?_
   · intro hb _; exact absurd hb (by first | (simp; done) | (simp; omega))
   clear Hz; intro _ Hz
   refine goA hP19 [4, 5, 6, 7, 8, 9, 10, 11] 8 15 4095 Hz (m19.to ⟨il, il, trivial⟩) (.s <| .s <| .s <| .s <| .s <| .s <| .s <| .pickF rfl rfl <| .nil) ?_
   clear Hz Az; intro Az Hz
   refine wpAnyE_done (by kernel_rfl) ?_ _
   refine hK6 _ _ ?_; clear hK6
   refine wp_cond_false (Hz.ev (x := .tmp 25) rfl) ?_
   refine wp_exit ?_
   refine hK4 _ _ ?_; clear hK4
   refine wp_seq_k (fun K7 hK7 => ?_)
   refine wp_seq_k (fun K8 hK8 => ?_)
   replace Hz : Has 59 [(0, _), (5, _), (8, _), (9, _), (10, _), (7, _)] Az := Hz.only [0, 5, 8, 9, 10, 7]
   have m34 : MemOk _ _ [(7, _), (9, _)] _ := m19.only [7, 9]; clear m19
   refine region_p 12 (B := [(7, _), (9, _)]) (m34.to ⟨il, il, trivial⟩) m34 (by kernel_rfl) (fun w35 hP35 m35 => ?_); clear m34
   refine goA hP35 [0, 1, 2, 3] 4 0 15 Hz (m35.to ⟨il, il, trivial⟩) (.move rfl <| .len rfl U33 <| .gtr rfl rfl <| .move rfl <| .nil) ?_
   clear Hz Az; intro Az Hz
   refine bool_cases Hz (t := 38) rfl ?_ ?_
   · intro hb _; exact absurd hb (by first | (simp; done) | (simp; omega))
   clear Hz; intro _ Hz
   refine goA hP35 [4, 5, 6, 7, 8, 9, 10, 11] 8 15 4095 Hz (m35.to ⟨il, il, trivial⟩) (.s <| .s <| .s <| .s <| .s <| .s <| .s <| .pickF rfl rfl <| .nil) ?_
   clear Hz Az; intro Az Hz
   refine wpAnyE_done (by kernel_rfl) ?_ _
   refine hK8 _ _ ?_; clear hK8
   refine wp_cond_false (Hz.ev (x := .tmp 46) rfl) ?_
   refine zss (hK7 _ _ ?_); clear hK7
   replace Hz : Has 59 [(0, _), (5, _), (8, _), (9, _), (10, _), (7, _)] Az := Hz.only [0, 5, 8, 9, 10, 7]
   refine wp_region_lit ?_
   refine goCh Hz (.move rfl <| .loadBR m35 (i := 7) rfl rfl U58 rfl fct2 (by simp) (by dsimp only [List.drop, List.take] <;> rfl) <| .nil) ?_
   clear Hz Az; intro Az Hz
   refine wpList_plain rfl (fun K hK => ?_)
   refine e_call Hz Tryd.func68 rfl rfl rfl rfl (item_any xb xd _ _ _ ((hd10_1.now' m35 rfl).any) (hob _ (List.mem_of_getElem? hes))) ?_
   rintro e w52 ⟨p52, c52, rfl, hd52, hb52⟩
   have m53 := m35.callF 200 rfl hb52 hd52
   clear m35
   clear hb52 hd52
   refine ⟨_, rfl, ?_⟩; clear Hz Az; intro Az Hz
   refine hK _ _ ?_; clear hK
   have hL2 : (out ++ [(xb, xd)]) ++ laterL [] (lb.drop (k + 1)) = laterL la lb := by rw [← hL, hdk, later_nil, later_nil, List.append_assoc]; rfl
   have hoA2 : ItsOk ([] : List PI) := hoA
   have hA2 := hA
   refine wpList_plain rfl (fun K hK => ?_)
   refine e_litR Hz m53 201 (mm := 2) rfl (.cons rfl rfl (.cons (.v _) (.cons (m53.rd (i := 200) rfl) .nil)) <| .nil) U33 fct4 rfl rfl rfl rfl rfl ?_
   clear Hz Az m53; intro g55 Az w56 Hz m56
   refine hK _ _ ?_; clear hK
   have m58 := m56.freezeR 201 rfl; clear m56
   refine wpList_plain rfl (fun K hK => ?_)
   refine e_appR Hz m58 9 rfl rfl rfl (m58.rd (i := 201) rfl) U33 fct4 rfl rfl (by decide) (by simp; omega) rfl ?_
   clear Hz Az m58; intro p57 c57 Az w59 Hz m59
   refine hK _ _ ?_; clear hK
   refine goCh Hz (.assign rfl .nil) ?_
   clear Hz Az; intro Az Hz
   refine znl (hK2 _ _ ?_); clear hK2
   refine wp_region_lit ?_
   refine goCh Hz (.add rfl rfl (r := ((k + 1 : Nat) : Int)) (by rw [IntWalk.i64_in _ (by omega)]; omega) <| .move rfl <| .nil) ?_
   clear Hz Az; intro Az Hz
   refine wpList_nil ?_
   show ∃ n', n' < _ ∧ _
   have hE : (out.map itD) ++ [[D.v (.int .i64 xb), .ns .u8 xd]] = (out ++ [(xb, xd)]).map itD := by rw [List.map_append]; rfl
   rw [hE] at m59 Hz
   exact ⟨lb.length - (k + 1), by omega, k + 1, out ++ [(xb, xd)], ([] : List PI), _, _, _, _, by omega, rfl, hL2, by have h9 := hlen; first | (simp only [List.length_append, List.length_cons, List.length_nil] at h9 ⊢; omega) | (simp only [List.length_append, List.length_cons, List.length_nil]; omega), hoA2, hA2, Hz.only [0, 5, 8, 9, 10], m59.ren [(9, 9)] (by decide)⟩
  refine wp_seq_k (fun K9 hK9 => ?_)
  refine wp_seq_k (fun K10 hK10 => ?_)
  obtain ⟨gx64, ox64, vx64, hp64, hl64, hR64, hrg64⟩ := hA.extA (0) (r := [.v (.int .i64 ab), .ns .u8 ad]) rfl
  cases hp64; clear hl64
  rcases hR64 with _ | ⟨hd64_0, _ | ⟨hd64_1, _ | _⟩⟩
  obtain rfl := hd64_0.v_out
  clear hd64_0
  obtain ⟨p65, c65, hv65, hw65⟩ := hd64_1.ns_shape; subst hv65
  have m66 : MemOk _ _ [(7, _), (9, _)] _ := m17.only [7, 9]; clear m17
  refine region_p 12 (B := [(7, _), (9, _)]) (m66.to ⟨il, il, trivial⟩) m66 (by kernel_rfl) (fun w67 hP67 m67 => ?_); clear m66
  refine goA hP67 [0, 1, 2, 3] 4 0 15 Hz (m67.to ⟨il, il, trivial⟩) (.move rfl <| .len rfl U33 <| .gtr rfl rfl <| .move rfl <| .nil) ?_
  clear Hz Az; intro Az Hz
  refine bool_cases Hz (t := 17) rfl ?_ ?_
  rotate_left
  · intro hb _; exact absurd hb (by first | (simp; done) | (simp; omega))
  clear Hz; intro _ Hz
  refine goR hP67 [4, 5, 6, 7, 8, 9, 10, 11] [7, 9] 8 15 4095 Hz (m67.to ⟨il, il, trivial⟩) (.move rfl <| .p (fun _ _ h => y_idx h rfl rfl U33 fct2 (0) rfl (by simp)) <| .fieldAddrQ 0 rfl U58 rfl (s := 0) (by kernel_rfl) rfl <| .loadAt1 (fun _ h => (hrg64 h rfl)) (q := 0) rfl rfl rfl U3 rfl <| .fa 0 rfl U58 <| .lb hh 7 U3 rfl rfl rfl <| .lss rfl rfl <| .pickT rfl rfl <| .nil) ?_
  clear Hz Az; intro Az Hz
  refine wpAnyE_done (by kernel_rfl) ?_ _
  refine hK10 _ _ ?_; clear hK10
  refine bool_cases Hz (t := 25) rfl ?_ ?_
  ·
   clear Hz; intro hb81 Hz; try simp only [QQ, Qax] at hb81
   have hab : ab < xb := by have := hb81; first | omega | (simp at this; omega)
   refine wp_cond_true (Hz.ev (x := .tmp 25) rfl) ?_
   refine zss (hK9 _ _ ?_); clear hK9
   refine wp_block ?_
   replace Hz : Has 59 [(0, _), (5, _), (8, _), (9, _), (10, _), (7, _)] Az := Hz.only [0, 5, 8, 9, 10, 7]
   obtain ⟨gx84, ox84, vx84, hp84, hl84, hR84, hrg84⟩ := hA.extA (0) (r := [.v (.int .i64 ab), .ns .u8 ad]) rfl
   cases hp84; clear hl84
   rcases hR84 with _ | ⟨hd84_0, _ | ⟨hd84_1, _ | _⟩⟩
   obtain rfl := hd84_0.v_out
   clear hd84_0
   obtain ⟨p85, c85, hv85, hw85⟩ := hd84_1.ns_shape; subst hv85
   have m86 : MemOk _ _ [(7, _), (9, _)] _ := m67.only [7, 9]; clear m67
   refine region_p 6 (B := [(7, _)]) (m86.to ⟨il, trivial⟩) m86 (by kernel_rfl) (fun w87 hP87 m87 => ?_); clear m86
   refine goR hP87 [0, 1, 2, 3, 7] [3] 5 0 143 Hz (m87.to ⟨il, trivial⟩) (.move rfl <| .move rfl <| .p (fun _ _ h => y_idx h rfl rfl U33 fct2 (0) rfl (by simp)) <| .loadAt (fun _ h => (hrg84 h rfl)) rfl U58 rfl fct2 <| .move rfl <| .nil) ?_
   clear Hz Az; intro Az Hz
   have hA3 := hA.dropL 1 (by simp)
   refine goA hP87 [8] 1 143 399 Hz (m87.to ⟨il, trivial⟩) (.p (fun _ _ h => y_sliceLn h 1 rfl rfl U33 fct2 rfl (by simp)) <| .nil) ?_
   clear Hz Az; intro Az Hz
   refine stepE_only 4 rfl (by kernel_rfl) rfl (fun K hK => ?_)
   refine e_call Hz Tryd.func68 rfl rfl rfl rfl (item_any ab ad _ _ _ ((hd84_1.now' m87 rfl).any) (hoA _ List.mem_cons_self)) ?_
   rintro e w94 ⟨p94, c94, rfl, hd94, hb94⟩
   have m95 := m87.callF 202 rfl hb94 hd94
   clear m87
   clear hb94 hd94
   refine ⟨_, rfl, ?_⟩; clear Hz Az; intro Az Hz
   refine hK _ _ (m95.to ⟨il, trivial⟩) ?_; clear hK K
   refine stepE_only 5 rfl (by kernel_rfl) rfl (fun K hK => ?_)
   refine e_litR Hz m95 203 (mm := 2) rfl (.cons rfl rfl (.cons (.v _) (.cons (m95.rd (i := 202) rfl) .nil)) <| .nil) U33 fct4 rfl rfl rfl rfl rfl ?_
   clear Hz Az m95; intro g97 Az w98 Hz m98
   refine hK _ _ (m98.to ⟨il, trivial⟩) ?_; clear hK K
   have m100 := m98.freezeR 203 rfl; clear m98
   refine stepE_end 6 rfl (by kernel_rfl) rfl (by rfl) (fun K hK => ?_)
   refine e_appR Hz m100 9 rfl rfl rfl (m100.rd (i := 203) rfl) U33 fct4 rfl rfl (by decide) (by simp; omega) rfl ?_
   clear Hz Az m100; intro p99 c99 Az w101 Hz m101
   refine hK _ _ ?_; clear hK
   refine goB hP87 [9, 10] 2 511 2047 Hz (.assign rfl <| .assign rfl <| .nil) ?_
   clear Hz Az; intro Az Hz
   refine wpAnyE_done (by kernel_rfl) ?_ _
   show ∃ n', n' < _ ∧ _
   have hE : (out.map itD) ++ [[D.v (.int .i64 ab), .ns .u8 ad]] = (out ++ [(ab, ad)]).map itD := by rw [List.map_append]; rfl
   rw [hE] at m101 Hz
   exact ⟨ar.length, by rw [hg, List.length_cons]; omega, out ++ [(ab, ad)], ar, _, _, _, _, _, rfl, by rw [← hL, hdk, later_lt hab, List.append_assoc]; rfl, by have h9 := hlen; rw [List.length_cons] at h9; rw [List.length_append, List.length_singleton]; omega, (fun e he => hoA e (List.mem_cons_of_mem _ he)), hA3, Hz.only [0, 5, 8, 9, 10, 7], m101.ren [(9, 9), (7, 7)] (by decide)⟩
  clear Hz; intro hb81 Hz; try simp only [QQ, Qax] at hb81
  have hab2 : ¬ ab < xb := by have := hb81; first | omega | (simp at this; omega)
  refine wp_cond_false (Hz.ev (x := .tmp 25) rfl) ?_
  refine wp_exit ?_
  refine hK4 _ _ ?_; clear hK4
  refine wp_seq_k (fun K11 hK11 => ?_)
  refine wp_seq_k (fun K12 hK12 => ?_)
  replace Hz : Has 59 [(0, _), (5, _), (8, _), (9, _), (10, _), (7, _)] Az := Hz.only [0, 5, 8, 9, 10, 7]
  obtain ⟨gx106, ox106, vx106, hp106, hl106, hR106, hrg106⟩ := hA.extA (0) (r := [.v (.int .i64 ab), .ns .u8 ad]) rfl
  cases hp106; clear hl106
  rcases hR106 with _ | ⟨hd106_0, _ | ⟨hd106_1, _ | _⟩⟩
  obtain rfl := hd106_0.v_out
  clear hd106_0
  obtain ⟨p107, c107, hv107, hw107⟩ := hd106_1.ns_shape; subst hv107
  have m108 : MemOk _ _ [(7, _), (9, _)] _ := m67.only [7, 9]; clear m67
  refine region_p 12 (B := [(7, _), (9, _)]) (m108.to ⟨il, il, trivial⟩) m108 (by kernel_rfl) (fun w109 hP109 m109 => ?_); clear m108
  refine goA hP109 [0, 1, 2, 3] 4 0 15 Hz (m109.to ⟨il, il, trivial⟩) (.move rfl <| .len rfl U33 <| .gtr rfl rfl <| .move rfl <| .nil) ?_
  clear Hz Az; intro Az Hz
  refine bool_cases Hz (t := 38) rfl ?_ ?_
  rotate_left
  · intro hb _; exact absurd hb (by first | (simp; done) | (simp; omega))
  clear Hz; intro _ Hz
  refine goR hP109 [4, 5, 6, 7, 8, 9, 10, 11] [7, 9] 8 15 4095 Hz (m109.to ⟨il, il, trivial⟩) (.move rfl <| .p (fun _ _ h => y_idx h rfl rfl U33 fct2 (0) rfl (by simp)) <| .fieldAddrQ 0 rfl U58 rfl (s := 0) (by kernel_rfl) rfl <| .loadAt1 (fun _ h => (hrg106 h rfl)) (q := 0) rfl rfl rfl U3 rfl <| .fa 0 rfl U58 <| .lb hh 7 U3 rfl rfl rfl <| .eql rfl rfl <| .pickT rfl rfl <| .nil) ?_
  clear Hz Az; intro Az Hz
  refine wpAnyE_done (by kernel_rfl) ?_ _
  refine hK12 _ _ ?_; clear hK12
  refine bool_cases Hz (t := 46) rfl ?_ ?_
  ·
   clear Hz; intro hb123 Hz; try simp only [QQ, Qax] at hb123
   have hae : ab = xb := by have := hb123; first | omega | (simp at this; omega)
   refine wp_cond_true (Hz.ev (x := .tmp 46) rfl) ?_
   replace Hz : Has 59 [(0, _), (5, _), (8, _), (9, _), (10, _), (7, _)] Az := Hz.only [0, 5, 8, 9, 10, 7]
   refine wp_region_lit ?_
   refine goCh Hz (.move rfl .nil) ?_
   clear Hz Az; intro Az Hz
   have hA3 := hA.dropL 1 (by simp)
   refine goCh Hz (.c rfl (fun _ h => y_sliceLn h 1 rfl rfl U33 fct2 rfl (by simp)) <| .assign rfl <| .nil) ?_
   clear Hz Az; intro Az Hz
   refine znl (hK11 _ _ ?_); clear hK11
   refine wp_region_lit ?_
   refine goCh Hz (.move rfl <| .loadBR m109 (i := 7) rfl rfl U58 rfl fct2 (by simp) (by dsimp only [List.drop, List.take] <;> rfl) <| .nil) ?_
   clear Hz Az; intro Az Hz
   refine wpList_plain rfl (fun K hK => ?_)
   refine e_call Hz Tryd.func68 rfl rfl rfl rfl (item_any xb xd _ _ _ ((hd10_1.now' m109 rfl).any) (hob _ (List.mem_of_getElem? hes))) ?_
   rintro e w130 ⟨p130, c130, rfl, hd130, hb130⟩
   have m131 := m109.callF 202 rfl hb130 hd130
   clear m109
   clear hb130 hd130
   refine ⟨_, rfl, ?_⟩; clear Hz Az; intro Az Hz
   refine hK _ _ ?_; clear hK
   have hL2 : (out ++ [(xb, xd)]) ++ laterL ar (lb.drop (k + 1)) = laterL la lb := by rw [← hL, hdk, later_eq hae, List.append_assoc]; rfl
   have hoA2 : ItsOk ar := fun e he => hoA e (List.mem_cons_of_mem _ he)
   have hA2 := hA3
   refine wpList_plain rfl (fun K hK => ?_)
   refine e_litR Hz m131 203 (mm := 2) rfl (.cons rfl rfl (.cons (.v _) (.cons (m131.rd (i := 202) rfl) .nil)) <| .nil) U33 fct4 rfl rfl rfl rfl rfl ?_
   clear Hz Az m131; intro g133 Az w134 Hz m134
   refine hK _ _ ?_; clear hK
   have m136 := m134.freezeR 203 rfl; clear m134
   refine wpList_plain rfl (fun K hK => ?_)
   refine e_appR Hz m136 9 rfl rfl rfl (m136.rd (i := 203) rfl) U33 fct4 rfl rfl (by decide) (by simp; omega) rfl ?_
   clear Hz Az m136; intro p135 c135 Az w137 Hz m137
   refine hK _ _ ?_; clear hK
   refine goCh Hz (.assign rfl .nil) ?_
   clear Hz Az; intro Az Hz
   refine znl (hK2 _ _ ?_); clear hK2
   replace Hz : Has 59 [(0, _), (5, _), (8, _), (9, _), (10, _), (7, _)] Az := Hz.only [0, 5, 8, 9, 10, 7]
   refine wp_region_lit ?_
   refine goCh Hz (.add rfl rfl (r := ((k + 1 : Nat) : Int)) (by rw [IntWalk.i64_in _ (by omega)]; omega) <| .move rfl <| .nil) ?_
   clear Hz Az; intro Az Hz
   refine wpList_nil ?_
   show ∃ n', n' < _ ∧ _
   have hE : (out.map itD) ++ [[D.v (.int .i64 xb), .ns .u8 xd]] = (out ++ [(xb, xd)]).map itD := by rw [List.map_append]; rfl
   rw [hE] at m137 Hz
   exact ⟨lb.length - (k + 1), by omega, k + 1, out ++ [(xb, xd)], ar, _, _, _, _, by omega, rfl, hL2, by have h9 := hlen; first | (simp only [List.length_append, List.length_cons, List.length_nil] at h9 ⊢; omega) | (simp only [List.length_append, List.length_cons, List.length_nil]; omega), hoA2, hA2, Hz.only [0, 5, 8, 9, 10], m137.ren [(9, 9)] (by decide)⟩
  clear Hz; intro hb123 Hz; try simp only [QQ, Qax] at hb123
  have hae2 : ¬ ab = xb := by have := hb123; first | omega | (simp at this; omega)
  refine wp_cond_false (Hz.ev (x := .tmp 46) rfl) ?_
  refine zss (hK11 _ _ ?_); clear hK11
  replace Hz : Has 59 [(0, _), (5, _), (8, _), (9, _), (10, _), (7, _)] Az := Hz.only [0, 5, 8, 9, 10, 7]
  refine wp_region_lit ?_
  refine goCh Hz (.move rfl <| .loadBR m109 (i := 7) rfl rfl U58 rfl fct2 (by simp) (by dsimp only [List.drop, List.take] <;> rfl) <| .nil) ?_
  clear Hz Az; intro Az Hz
  refine wpList_plain rfl (fun K hK => ?_)
  refine e_call Hz Tryd.func68 rfl rfl rfl rfl (item_any xb xd _ _ _ ((hd10_1.now' m109 rfl).any) (hob _ (List.mem_of_getElem? hes))) ?_
  rintro e w145 ⟨p145, c145, rfl, hd145, hb145⟩
  have m146 := m109.callF 202 rfl hb145 hd145
  clear m109
  clear hb145 hd145
  refine ⟨_, rfl, ?_⟩; clear Hz Az; intro Az Hz
  refine hK _ _ ?_; clear hK
  have hL2 : (out ++ [(xb, xd)]) ++ laterL ((ab, ad) :: ar) (lb.drop (k + 1)) = laterL la lb := by rw [← hL, hdk, later_gt (by omega), List.append_assoc]; rfl
  have hoA2 := hoA
  have hA2 := hA
  refine wpList_plain rfl (fun K hK => ?_)
  refine e_litR Hz m146 203 (mm := 2) rfl (.cons rfl rfl (.cons (.v _) (.cons (m146.rd (i := 202) rfl) .nil)) <| .nil) U33 fct4 rfl rfl rfl rfl rfl ?_
  clear Hz Az m146; intro g148 Az w149 Hz m149
  refine hK _ _ ?_; clear hK
  have m151 := m149.freezeR 203 rfl; clear m149
  refine wpList_plain rfl (fun K hK => ?_)
  refine e_appR Hz m151 9 rfl rfl rfl (m151.rd (i := 203) rfl) U33 fct4 rfl rfl (by decide) (by simp; omega) rfl ?_
  clear Hz Az m151; intro p150 c150 Az w152 Hz m152
  refine hK _ _ ?_; clear hK
  refine goCh Hz (.assign rfl .nil) ?_
  clear Hz Az; intro Az Hz
  refine znl (hK2 _ _ ?_); clear hK2
  refine wp_region_lit ?_
  refine goCh Hz (.add rfl rfl (r := ((k + 1 : Nat) : Int)) (by rw [IntWalk.i64_in _ (by omega)]; omega) <| .move rfl <| .nil) ?_
  clear Hz Az; intro Az Hz
  refine wpList_nil ?_
  show ∃ n', n' < _ ∧ _
  have hE : (out.map itD) ++ [[D.v (.int .i64 xb), .ns .u8 xd]] = (out ++ [(xb, xd)]).map itD := by rw [List.map_append]; rfl
  rw [hE] at m152 Hz
  exact ⟨lb.length - (k + 1), by omega, k + 1, out ++ [(xb, xd)], ((ab, ad) :: ar), _, _, _, _, by omega, rfl, hL2, by have h9 := hlen; first | (simp only [List.length_append, List.length_cons, List.length_nil] at h9 ⊢; omega) | (simp only [List.length_append, List.length_cons, List.length_nil]; omega), hoA2, hA2, Hz.only [0, 5, 8, 9, 10], m152.ren [(9, 9)] (by decide)⟩
 clear Hz; intro hb8 Hz; try simp only [QQ, Qax] at hb8
 have hke : k = lb.length := by have := hb8; first | omega | (simp at this; omega)
 refine wp_cond_false (Hz.ev (x := .tmp 11) rfl) ?_
 refine wp_exit ?_
 refine hK0 _ _ ?_; clear hK0
 refine zsr fun K13 hK13 => ?_
 refine goCh Hz (.move rfl <| .move rfl <| .nil) ?_
 clear Hz Az; intro Az Hz
 refine wpList_plain rfl (fun K hK => ?_)
 refine e_call Hz Tryd.func67 rfl rfl rfl rfl (items_any a1 _ _ _ _ ((hA.now' m6 rfl).any) (by omega) hoA) ?_
 rintro e w160 ⟨p160, c160, rfl, hd160, hb160⟩
 have m161 := m6.callF 100 rfl hb160 hd160
 clear m6
 clear hb160 hd160
 refine ⟨_, rfl, ?_⟩; clear Hz Az; intro Az Hz
 refine hK _ _ ?_; clear hK
 refine wpList_plain rfl (fun K hK => ?_)
 refine e_appR Hz m161 9 rfl rfl rfl (m161.rd (i := 100) rfl) U33 fct4 rfl rfl (by decide) (by simp; omega) rfl ?_
 clear Hz Az m161; intro p163 c163 Az w164 Hz m164
 refine hK _ _ ?_; clear hK
 refine goCh Hz (.assign rfl .nil) ?_
 clear Hz Az; intro Az Hz
 refine znl (hK13 _ _ ?_); clear hK13
 refine wp_ret ?_
 try dsimp only [Exit.then, Exit.inBlock]
 refine (ret1 (fn := Tryd.f47) Hz rfl rfl ?_)
 have m166 := m164.freezeR 9 rfl; clear m164
 rw [hke, List.drop_length, later_nil2] at hL
 rw [← List.map_append, hL] at m166
 rw [← List.map_append, hL]
 exact ⟨_, _, by rw [List.length_map], by have h9 := m166.outF (i := 9) rfl; rwa [List.length_map] at h9, m166.below⟩
theorem pstream_any (v : StrV) (p : Option Addr) (n c : Nat) (w0 : World) (h1 : Rd (fun _ => True) w0 (.slice p n c) (.l 2 (v.its.map itD))) (hl : v.its.length ≤ 1000000) (hok : ItsOk v.its) :
   Calls Tryd.prog 46 #[.agg #[.int .i64 v.bl, .int .i64 v.sz, .int .i64 v.fr, .int .i64 v.to, .slice p n c]] w0 fun e w' => ∃ p c, e = .returned (.agg #[.int .i64 v.bl, .int .i64 v.sz, .int .i64 v.fr, .int .i64 v.to, .slice p v.its.length c]) ∧ Rd (New w0) w' (.slice p v.its.length c) (.l 2 (v.its.map itD)) ∧ Below w0.heap.size w0 w' := by
 obtain rfl : n = v.its.length := by obtain ⟨pq, cq, hv, _⟩ := h1.l_shape; injection hv with _ e2 _; rw [List.length_map] at e2; exact e2
 refine ent1 Tryd.func46 rfl Tryd.ntmps46 fun Az Hz => ?_
 have m0 := MemOk.start (fun _ => False) w0
 refine zsr fun K0 hK0 => ?_
 refine wpList_plain rfl (fun K hK => ?_)
 refine e_box Hz m0 20 (cs := [_, _, _, _, _]) rfl rfl rfl ?_
 clear Hz Az m0; intro g1 Az w2 Hz m2 hB2 hg2
 clear hB2 hg2
 refine hK _ _ ?_; clear hK
 refine wpList_plain rfl (fun K hK => ?_)
 refine e_alloc Hz m2 21 fct21 rfl ?_
 clear Hz Az m2; intro g3 Az w4 Hz m4 hB4 hg4
 clear hB4 hg4
 refine hK _ _ ?_; clear hK
 refine znl (hK0 _ _ ?_); clear hK0
 refine zsr fun K1 hK1 => ?_
 refine goCh Hz (.fa 4 rfl U35 <| .lb m4 20 U33 rfl rfl rfl <| .nil) ?_
 clear Hz Az; intro Az Hz
 refine wpList_plain rfl (fun K hK => ?_)
 refine e_call Hz Tryd.func67 rfl rfl rfl rfl (items_any v.its _ _ _ _ ((h1.now' m4 rfl).any) hl hok) ?_
 rintro e w9 ⟨p9, c9, rfl, hd9, hb9⟩
 have m10 := m4.callF 22 rfl hb9 hd9
 clear m4
 clear hb9 hd9
 refine ⟨_, rfl, ?_⟩; clear Hz Az; intro Az Hz
 refine hK _ _ ?_; clear hK
 refine goCh Hz (.fieldAddr (off := 4) rfl U35 rfl (s := 0) (by kernel_rfl) rfl .nil) ?_
 clear Hz Az; intro Az Hz
 refine wpList_plain rfl (fun K hK => ?_)
 refine e_store1 Hz m10 20 rfl rfl rfl rfl rfl fct27 (by dsimp only [List.set] <;> rfl) ?_
 clear m10; intro w13 m13 hB13
 clear hB13
 refine hK _ _ ?_; clear hK
 refine znl (hK1 _ _ ?_); clear hK1
 refine zsr fun K2 hK2 => ?_
 refine goCh Hz (.loadBR m13 (i := 20) rfl rfl U35 rfl fct7 (by simp) (by dsimp only [List.drop, List.take] <;> rfl) .nil) ?_
 clear Hz Az; intro Az Hz
 refine wpList_plain rfl (fun K hK => ?_)
 refine e_storeW Hz m13 21 rfl rfl rfl rfl rfl fct7 ?_
 clear m13; intro w16 m16 hB16
 clear hB16
 refine hK _ _ ?_; clear hK
 refine znl (hK2 _ _ ?_); clear hK2
 refine wp_ret ?_
 try dsimp only [Exit.then, Exit.inBlock]
 refine (retC (fn := Tryd.f46) Hz m16 (i := 21) rfl rfl rfl U35 rfl fct7 ?_)
 exact ⟨_, _, by rw [List.length_map], by have h9 := m16.outF (i := 22) rfl; rwa [List.length_map] at h9, m16.below⟩
theorem merge_any (x y : StrV) (pa pb : Option Addr) (na nb ca cb : Nat) (w0 : World) (h1 : Rd (fun _ => True) w0 (.slice pa na ca) (.l 2 (x.its.map itD))) (h2 : Rd (fun _ => True) w0 (.slice pb nb cb) (.l 2 (y.its.map itD))) (hlen : x.its.length + y.its.length ≤ 1000000) (hoa : ItsOk x.its) (hob : ItsOk y.its) :
   Calls Tryd.prog 25 #[.agg #[.int .i64 x.bl, .int .i64 x.sz, .int .i64 x.fr, .int .i64 x.to, .slice pa na ca], .agg #[.int .i64 y.bl, .int .i64 y.sz, .int .i64 y.fr, .int .i64 y.to, .slice pb nb cb]] w0 fun e w' => ∃ p c, e = .returned (.agg #[.int .i64 (mergeV x y).bl, .int .i64 (mergeV x y).sz, .int .i64 (mergeV x y).fr, .int .i64 (mergeV x y).to, .slice p (mergeV x y).its.length c]) ∧ Rd (New w0) w' (.slice p (mergeV x y).its.length c) (.l 2 ((mergeV x y).its.map itD)) ∧ Below w0.heap.size w0 w' := by
 obtain rfl : na = x.its.length := by obtain ⟨pq, cq, hv, _⟩ := h1.l_shape; injection hv with _ e2 _; rw [List.length_map] at e2; exact e2
 obtain rfl : nb = y.its.length := by obtain ⟨pq, cq, hv, _⟩ := h2.l_shape; injection hv with _ e2 _; rw [List.length_map] at e2; exact e2
 refine ent2 Tryd.func25 rfl Tryd.ntmps25 fun Az Hz => ?_
 have m0 := MemOk.start (fun _ => False) w0
 refine zsr fun K0 hK0 => ?_
 refine wpList_plain rfl (fun K hK => ?_)
 refine e_box Hz m0 20 (cs := [_, _, _, _, _]) rfl rfl rfl ?_
 clear Hz Az m0; intro g1 Az w2 Hz m2 hB2 hg2
 clear hB2 hg2
 refine hK _ _ ?_; clear hK
 refine wpList_plain rfl (fun K hK => ?_)
 refine e_box Hz m2 21 (cs := [_, _, _, _, _]) rfl rfl rfl ?_
 clear Hz Az m2; intro g3 Az w4 Hz m4 hB4 hg4
 clear hB4 hg4
 refine hK _ _ ?_; clear hK
 refine wpList_plain rfl (fun K hK => ?_)
 refine e_alloc Hz m4 22 fct21 rfl ?_
 clear Hz Az m4; intro g5 Az w6 Hz m6 hB6 hg6
 clear hB6 hg6
 refine hK _ _ ?_; clear hK
 refine znl (hK0 _ _ ?_); clear hK0
 refine wp_seq_k (fun K1 hK1 => ?_)
 have m7 : MemOk _ _ [(20, _), (21, _), (22, _)] _ := m6.only [20, 21, 22]; clear m6
 refine region_p 14 (B := [(20, _), (21, _), (22, _)]) (m7.to ⟨il, il, il, trivial⟩) m7 (by kernel_rfl) (fun w8 hP8 m8 => ?_); clear m7
 refine goR hP8 [0, 1, 2, 3, 4, 5, 6, 7, 8, 9, 10, 11] [1, 3, 5, 7, 9, 11] 12 0 4095 Hz (m8.to ⟨il, il, il, trivial⟩) (.fa 0 rfl U35 <| .lb hh 20 U3 rfl rfl rfl <| .fa 1 rfl U35 <| .lb hh 20 U3 rfl rfl rfl <| .fa 2 rfl U35 <| .lb hh 20 U2 rfl rfl rfl <| .fa 3 rfl U35 <| .lb hh 21 U2 rfl rfl rfl <| .fa 4 rfl U35 <| .lb hh 20 U33 rfl rfl rfl <| .fa 4 rfl U35 <| .lb hh 21 U33 rfl rfl rfl <| .nil) ?_
 clear Hz Az; intro Az Hz
 refine stepE_only 12 rfl (by kernel_rfl) rfl (fun K hK => ?_)
 refine e_call Hz Tryd.func47 rfl rfl rfl rfl (later_any x.its y.its _ _ _ _ _ _ _ ((h1.now' m8 rfl).any) ((h2.now' m8 rfl).any) hlen hoa hob) ?_
 rintro e w21 ⟨p21, c21, rfl, hd21, hb21⟩
 have m22 := m8.callF 23 rfl hb21 hd21
 clear m8
 clear hb21 hd21
 refine ⟨_, rfl, ?_⟩; clear Hz Az; intro Az Hz
 refine hK _ _ (m22.to ⟨il, il, il, trivial⟩) ?_; clear hK K
 refine goA hP8 [13] 1 8191 16383 Hz (m22.to ⟨il, il, il, trivial⟩) (.build rfl fct21 fl35cme rfl (by dsimp only [setL, List.set] <;> rfl) <| .nil) ?_
 clear Hz Az; intro Az Hz
 refine stepE_end 14 rfl (by kernel_rfl) rfl (by rfl) (fun K hK => ?_)
 refine e_storeW Hz m22 22 rfl rfl rfl rfl rfl fct7 ?_
 clear m22; intro w25 m25 hB25
 clear hB25
 refine hK _ _ ?_; clear hK
 refine wpAnyE_done (by kernel_rfl) ?_ _
 refine hK1 _ _ ?_; clear hK1
 refine wp_ret ?_
 try dsimp only [Exit.then, Exit.inBlock]
 refine (retC (fn := Tryd.f25) Hz m25 (i := 22) rfl rfl rfl U35 rfl fct7 ?_)
 exact ⟨_, _, rfl, m25.outF (i := 23) rfl, m25.below⟩
theorem all_any (N : Nat) : ∀ (l : List StrV) (p : Option Addr) (nn c : Nat) (w0 : World) (h1 : Rd (fun _ => True) w0 (.slice p nn c) (.l 5 (l.map strD))) (h0 : 0 < l.length) (hN : l.length ≤ N) (hb : N ≤ 1000) (ht : totL l ≤ 1000000) (hok : ∀ s ∈ l, ItsOk s.its),
   Calls Tryd.prog 24 #[.slice p nn c] w0 fun e w' => ∃ (s : StrV) (p : Option Addr) (c : Nat), Ev l s ∧ s.its.length ≤ totL l ∧ ItsOk s.its ∧ e = .returned (.agg #[.int .i64 s.bl, .int .i64 s.sz, .int .i64 s.fr, .int .i64 s.to, .slice p s.its.length c]) ∧ Rd (New w0) w' (.slice p s.its.length c) (.l 2 (s.its.map itD)) ∧ Below w0.heap.size w0 w' := by
 induction N with
 | zero => intros; omega
 | succ N ih =>
 intro l p nn c w0 h1 h0 hN hb ht hok
 obtain rfl : nn = l.length := by obtain ⟨pq, cq, hv, _⟩ := h1.l_shape; injection hv with _ e2 _; rw [List.length_map] at e2; exact e2
 refine ent1 Tryd.func24 rfl Tryd.ntmps24 fun Az Hz => ?_
 have m0 := MemOk.start (fun _ => False) w0
 have hcap : l.length ≤ c := by obtain ⟨pq, cq, hv, hcap⟩ := h1.l_shape; injection hv with _ _ e3; rw [List.length_map] at hcap; omega
 refine zsr fun K0 hK0 => ?_
 refine wpList_plain rfl (fun K hK => ?_)
 refine e_alloc Hz m0 20 fct21 rfl ?_
 clear Hz Az m0; intro g1 Az w2 Hz m2 hB2 hg2
 clear hB2 hg2
 refine hK _ _ ?_; clear hK
 refine znl (hK0 _ _ ?_); clear hK0
 refine wp_seq_k (fun K1 hK1 => ?_)
 refine regS Hz (.move rfl <| .len rfl U25 <| .eql rfl rfl <| .nil) ?_
 clear Hz Az; intro Az Hz
 refine bool_cases Hz (t := 6) rfl ?_ ?_
 ·
  clear Hz; intro hb6 Hz; try simp only [QQ, Qax] at hb6
  have hl1 : l.length = 1 := by have := hb6; first | omega | (simp at this; omega)
  obtain ⟨sv, hes⟩ : ∃ e, l[0]? = some e := ⟨_, List.getElem?_eq_getElem (by omega)⟩
  have hso := hok sv (List.mem_of_getElem? hes)
  have hsl := tot_mem ht (List.mem_of_getElem? hes)
  have hlo := one_of hl1 hes
  refine wp_cond_true (Hz.ev (x := .tmp 6) rfl) ?_
  refine zsr fun K2 hK2 => ?_
  refine goCh Hz (.move rfl .nil) ?_
  clear Hz Az; intro Az Hz
  obtain ⟨gx10, ox10, vx10, hp10, hl10, hR10, hrg10⟩ := h1.extA (0) (r := [.v (.int .i64 sv.bl), .v (.int .i64 sv.sz), .v (.int .i64 sv.fr), .v (.int .i64 sv.to), .l 2 (sv.its.map itD)]) (strD_get hes)
  cases hp10; clear hl10
  rcases hR10 with _ | ⟨hd10_0, _ | ⟨hd10_1, _ | ⟨hd10_2, _ | ⟨hd10_3, _ | ⟨hd10_4, _ | _⟩⟩⟩⟩⟩
  obtain rfl := hd10_0.v_out
  clear hd10_0
  obtain rfl := hd10_1.v_out
  clear hd10_1
  obtain rfl := hd10_2.v_out
  clear hd10_2
  obtain rfl := hd10_3.v_out
  clear hd10_3
  obtain ⟨p11, c11, hv11, hw11⟩ := hd10_4.l_shape; subst hv11
  refine goCh Hz (.c rfl (fun _ h => y_idx h rfl rfl U25 fct7 (0) rfl (by omega)) <| .loadAt (hrg10 m2 rfl) rfl U35 rfl fct7 <| .nil) ?_
  clear Hz Az; intro Az Hz
  refine wpList_plain rfl (fun K hK => ?_)
  refine e_call Hz Tryd.func46 rfl rfl rfl rfl (pstream_any sv _ _ _ _ ((hd10_4.now' m2 rfl).any) hsl hso) ?_
  rintro e w14 ⟨p14, c14, rfl, hd14, hb14⟩
  have m15 := m2.callF 22 rfl hb14 hd14
  clear m2
  clear hb14 hd14
  refine ⟨_, rfl, ?_⟩; clear Hz Az; intro Az Hz
  refine hK _ _ ?_; clear hK
  refine wpList_plain rfl (fun K hK => ?_)
  refine e_storeW Hz m15 20 rfl rfl rfl rfl rfl fct7 ?_
  clear m15; intro w17 m17 hB17
  clear hB17
  refine hK _ _ ?_; clear hK
  refine znl (hK2 _ _ ?_); clear hK2
  refine wp_ret ?_
  try dsimp only [Exit.then, Exit.inBlock]
  refine (retC (fn := Tryd.f24) Hz m17 (i := 20) rfl rfl rfl U35 rfl fct7 ?_)
  exact ⟨sv, _, _, hlo, tot_le (List.mem_of_getElem? hes), hso, rfl, m17.outF (i := 22) rfl, m17.below⟩
 clear Hz; intro hb6 Hz; try simp only [QQ, Qax] at hb6
 have hl2 : 2 ≤ l.length := by have := hb6; first | omega | (simp at this; omega)
 obtain ⟨hta, htb, htt⟩ := tot_split ht (l.length / 2)
 refine wp_cond_false (Hz.ev (x := .tmp 6) rfl) ?_
 refine zss (hK1 _ _ ?_); clear hK1
 refine regS Hz (.move rfl <| .len rfl U25 <| .quo rfl rfl (by omega) (r := ((l.length / 2 : Nat) : Int)) (by rw [Int.tdiv_eq_ediv_of_nonneg (by omega), IntWalk.i64_in _ (by omega)]; omega) <| .assign rfl <| .nil) ?_
 clear Hz Az; intro Az Hz
 refine wp_seq_k (fun K3 hK3 => ?_)
 replace Hz : Has 23 [(0, _), (2, _), (3, _)] Az := Hz.only [0, 2, 3]
 have m23 : MemOk _ _ [(20, _)] _ := m2.only [20]; clear m2
 refine region_p 9 (B := [(20, _)]) (m23.to ⟨il, trivial⟩) m23 (by kernel_rfl) (fun w24 hP24 m24 => ?_); clear m23
 refine goA hP24 [0, 1] 2 0 3 Hz (m24.to ⟨il, trivial⟩) (.move rfl <| .move rfl <| .nil) ?_
 clear Hz Az; intro Az Hz
 have hT := h1.takeL (l.length / 2) (by rw [List.length_map]; omega)
 rw [← List.map_take] at hT
 refine goA hP24 [2, 4, 5] 3 3 55 Hz (m24.to ⟨il, trivial⟩) (.p (fun _ _ h => y_sliceHn h (l.length / 2) rfl rfl U25 fct7 rfl (by omega)) <| .move rfl <| .move rfl <| .nil) ?_
 clear Hz Az; intro Az Hz
 have hD := h1.dropL (l.length / 2) (by rw [List.length_map]; omega)
 rw [← List.map_drop] at hD
 refine goA hP24 [6] 1 55 119 Hz (m24.to ⟨il, trivial⟩) (.p (fun _ _ h => y_sliceLn h (l.length / 2) rfl rfl U25 fct7 rfl (by omega)) <| .nil) ?_
 clear Hz Az; intro Az Hz
 refine stepE_only 3 rfl (by kernel_rfl) rfl (fun K hK => ?_)
 refine e_call Hz Tryd.func24 rfl rfl rfl rfl (ih (l.take (l.length / 2)) _ _ _ _ ((hT.now' m24 rfl).any) (by rw [List.length_take]; omega) (by rw [List.length_take]; omega) (by omega) hta (fun e he => hok e (List.mem_of_mem_take he))) ?_
 rintro e w31 ⟨x, p31, c31, hEx, hlx, hox, rfl, hd31, hb31⟩
 have m32 := m24.callF 21 rfl hb31 hd31
 clear m24
 clear hb31 hd31
 refine ⟨_, rfl, ?_⟩; clear Hz Az; intro Az Hz
 refine hK _ _ (m32.to ⟨il, trivial⟩) ?_; clear hK K
 refine stepE_only 7 rfl (by kernel_rfl) rfl (fun K hK => ?_)
 refine e_call Hz Tryd.func24 rfl rfl rfl rfl (ih (l.drop (l.length / 2)) _ _ _ _ ((hD.now' m32 rfl).any) (by rw [List.length_drop]; omega) (by rw [List.length_drop]; omega) (by omega) htb (fun e he => hok e (List.mem_of_mem_drop he))) ?_
 rintro e w34 ⟨y, p34, c34, hEy, hly, hoy, rfl, hd34, hb34⟩
 have m35 := m32.callF 22 rfl hb34 hd34
 clear m32
 clear hb34 hd34
 refine ⟨_, rfl, ?_⟩; clear Hz Az; intro Az Hz
 refine hK _ _ (m35.to ⟨il, trivial⟩) ?_; clear hK K
 refine stepE_only 8 rfl (by kernel_rfl) rfl (fun K hK => ?_)
 refine e_call Hz Tryd.func25 rfl rfl rfl rfl (merge_any x y _ _ _ _ _ _ _ ((m35.rd (i := 21) rfl).any) ((m35.rd (i := 22) rfl).any) (by omega) hox hoy) ?_
 rintro e w37 ⟨p37, c37, rfl, hd37, hb37⟩
 have m38 := m35.callF 23 rfl hb37 hd37
 clear m35
 clear hb37 hd37
 refine ⟨_, rfl, ?_⟩; clear Hz Az; intro Az Hz
 refine hK _ _ (m38.to ⟨il, trivial⟩) ?_; clear hK K
 refine stepE_end 9 rfl (by kernel_rfl) rfl (by rfl) (fun K hK => ?_)
 refine e_storeW Hz m38 20 rfl rfl rfl rfl rfl fct7 ?_
 clear m38; intro w40 m40 hB40
 clear hB40
 refine hK _ _ ?_; clear hK
 refine wpAnyE_done (by kernel_rfl) ?_ _
 refine hK3 _ _ ?_; clear hK3
 refine wp_ret ?_
 try dsimp only [Exit.then, Exit.inBlock]
 refine (retC (fn := Tryd.f24) Hz m40 (i := 20) rfl rfl rfl U35 rfl fct7 ?_)
 exact ⟨mergeV x y, _, _, Ev.half hEx hEy, by have h9 := later_len x.its y.its; show (laterL _ _).length ≤ _; omega, later_ok hox hoy, rfl, m40.outF (i := 23) rfl, m40.below⟩
end Go.Proofs.YtflcgpajodfkoaaDoor.K
