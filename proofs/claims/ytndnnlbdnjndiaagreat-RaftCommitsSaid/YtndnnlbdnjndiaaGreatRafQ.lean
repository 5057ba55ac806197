/- raft: a leader of k members that proposed, and what acks make of it. -/
import Derived.Test.YtndnnlbdnjndiaaGreatRafB
namespace Go.Proofs.YtndnnlbdnjndiaaGreat.K
open Go.ChangeShapes Go.WideShapes Go.ChangeAt Go.RowKit
set_option linter.unusedVariables false
set_option linter.unusedSimpArgs false
abbrev prS (s : RS) (j : Int) : RS := clrS (tellS (addS s 1 [j]))
def propN (k : Nat) : Nat → RS
 | 0 => B3 1 k
 | j + 1 => prS (propN k j) (j : Int)
def propB (k j : Nat) : Bool :=
 let s := propN k j
 rcB 1 s && decide (s.x.ro = 3) && decide (s.x.te = 1) && decide (lastS s = (j : Int) + 1) && nxB (addS s 1 [(j : Int)]) && decide (s.bi = 0) && decide (memS s = upL k) && decide (s.x.co = 0) && decide (s.x.ap = 0) &&
 decide (s.x.m1 = 0) && decide (s.x.m2 = 0) && decide (s.x.m3 = 0) && decide (s.x.m4 = 0) && decide (s.x.n1 = 1) && decide (s.x.n2 = 1) && decide (s.x.n3 = 1) && decide (s.x.n4 = 1) &&
 decide (s.es.length = j + 1) && s.ms.isEmpty && s.rs.isEmpty && decide (s.re = false) &&
 ((List.range (j + 1)).all fun i => decide (termS s ((i : Int) + 1) = 1)) && ((List.range k).all fun f => decide (f = 0) || (othS s).contains (f : Int))
theorem prop_ok : ∀ k, k < 6 → 2 ≤ k → ∀ j, j < 6 → propB k j = true := by decide +kernel
structure PropOut (k j : Nat) : Prop where
 ok : ROk (propN k j)
 gr : (propN k j).x.gr = 1
 id : (propN k j).x.id = 0
 ro : (propN k j).x.ro = 3
 te : (propN k j).x.te = 1
 la : lastS (propN k j) = (j : Int) + 1
 nx : ∀ n ∈ othS (addS (propN k j) 1 [(j : Int)]), (addS (propN k j) 1 [(j : Int)]).bi < K.nx (addS (propN k j) 1 [(j : Int)]).x n ∧ K.nx (addS (propN k j) 1 [(j : Int)]).x n ≤ 1000000000000000000
 bi : (propN k j).bi = 0
 mem : memS (propN k j) = upL k
 co : (propN k j).x.co = 0
 ap : (propN k j).x.ap = 0
 m1 : (propN k j).x.m1 = 0
 m2 : (propN k j).x.m2 = 0
 m3 : (propN k j).x.m3 = 0
 m4 : (propN k j).x.m4 = 0
 n1 : (propN k j).x.n1 = 1
 n2 : (propN k j).x.n2 = 1
 n3 : (propN k j).x.n3 = 1
 n4 : (propN k j).x.n4 = 1
 es : (propN k j).es.length = j + 1
 ms : (propN k j).ms = []
 rs : (propN k j).rs = []
 re : (propN k j).re = false
 tm : ∀ i : Nat, i < j + 1 → termS (propN k j) ((i : Int) + 1) = 1
 ot : ∀ f : Nat, f < k → f = 0 ∨ (othS (propN k j)).contains (f : Int) = true
theorem prop_out {k j : Nat} (h1 : k < 6) (h2 : 2 ≤ k) (h3 : j < 6) : PropOut k j := by
 have h := prop_ok k h1 h2 j h3
 simp only [propB, Bool.and_eq_true, decide_eq_true_eq, List.isEmpty_iff, List.all_eq_true, List.mem_range, Bool.or_eq_true] at h
 obtain ⟨⟨⟨⟨⟨⟨⟨⟨⟨⟨⟨⟨⟨⟨⟨⟨⟨⟨⟨⟨⟨⟨a0, a1⟩, a2⟩, a3⟩, a4⟩, a5⟩, a6⟩, a7⟩, a8⟩, a9⟩, b0⟩, b1⟩, b2⟩, b3⟩, b4⟩, b5⟩, b6⟩, b7⟩, b8⟩, b9⟩, c0⟩, c1⟩, c2⟩ := h
 have hr := rcB_ok a0
 exact ⟨hr.1, hr.2.1, hr.2.2, a1, a2, a3, nxB_ok a4, a5, a6, a7, a8, a9, b0, b1, b2, b3, b4, b5, b6, b7, b8, b9, c0, c1, c2⟩
abbrev akX (x : RV) (h1 h2 h3 h4 w : Int) : RV := { x with m1 := h1, m2 := h2, m3 := h3, m4 := h4, n1 := h1 + 1, n2 := h2 + 1, n3 := h3 + 1, n4 := h4 + 1, co := w }
def AK (k c : Nat) (h1 h2 h3 h4 w : Int) : RS := withX (propN k c) (akX (propN k c).x h1 h2 h3 h4 w)
theorem AK_zero {k c : Nat} (h : PropOut k c) : propN k c = AK k c 0 0 0 0 0 := by
 have e : (propN k c).x = akX (propN k c).x 0 0 0 0 0 := by
   have a1 := h.m1; have a2 := h.m2; have a3 := h.m3; have a4 := h.m4; have b1 := h.n1; have b2 := h.n2; have b3 := h.n3; have b4 := h.n4; have c1 := h.co
   generalize (propN k c).x = x at a1 a2 a3 a4 b1 b2 b3 b4 c1
   obtain ⟨_, _, _, _, _, _, _, _, _, _, _, _, _, _, _, _, _, _, _, _, _, _, _, _⟩ := x
   subst a1; subst a2; subst a3; subst a4; subst b1; subst b2; subst b3; subst b4; subst c1
   rfl
 unfold AK
 rw [← e]
theorem AK_ok {k c : Nat} (h : PropOut k c) (hc : c < 6) (h1 h2 h3 h4 w : Int) (hw : 0 ≤ w ∧ w ≤ 100) : ROk (AK k c h1 h2 h3 h4 w) :=
 ⟨h.ok.l, h.ok.n, by show -1000000000 ≤ w ∧ w ≤ 1000000000; omega, by have := h.la; show lastS (propN k c) - w ≤ 900; omega, h.ok.ms, h.ok.rs, h.ok.te, h.ok.id, h.ok.si, h.ok.be, h.ok.ys⟩
def U (f : Nat) (v : Int) (j : Nat) (h : Int) : Int := if f = j then max h v else h
def WN (k : Nat) (L : List Int) : Nat → Int
 | 0 => 0
 | j + 1 => if k < 2 * cnt ((j : Int) + 1) (L.take k) then (j : Int) + 1 else WN k L j
theorem WN_bd (k : Nat) (L : List Int) : ∀ n, 0 ≤ WN k L n ∧ WN k L n ≤ n
 | 0 => by unfold WN; omega
 | n + 1 => by
   have := WN_bd k L n
   unfold WN; split <;> omega
theorem WN_maj (k : Nat) (L : List Int) : ∀ n, WN k L n = 0 ∨ k < 2 * cnt (WN k L n) (L.take k)
 | 0 => .inl rfl
 | n + 1 => by
   unfold WN
   split
   · right; assumption
   · exact WN_maj k L n
theorem WN_at {k : Nat} {L : List Int} : ∀ {n : Nat}, (n = 0 ∨ k < 2 * cnt (n : Int) (L.take k)) → WN k L n = n
 | 0, _ => rfl
 | n + 1, h => by
   unfold WN
   rcases h with h | h
   · omega
   · rw [if_pos (by rw [show ((n : Int) + 1) = ((n + 1 : Nat) : Int) from by omega]; exact h)]; omega
theorem scan_WN {k : Nat} {L ts : List Int} {w : Nat} (hk : (L.take k).length = k) (hw : WN k L w = w) : ∀ n : Nat, (∀ i, i < n → ts.getD i 0 = 1) → scanC 1 (w : Int) (L.take k) ts n = WN k L (w + n)
 | 0, _ => by unfold scanC; rw [Nat.add_zero, hw]
 | n + 1, h => by
   have ih := scan_WN hk hw n (fun i hi => h i (by omega))
   unfold scanC
   rw [ih, show w + (n + 1) = (w + n) + 1 from by omega]
   conv => rhs; unfold WN
   rw [hk, h n (by omega), show (w : Int) + 1 + (n : Int) = ((w + n : Nat) : Int) + 1 from by omega]
   simp
theorem cnt_set_le (j v : Int) : ∀ (L : List Int) (f : Nat), (∀ x, L[f]? = some x → x ≤ v) → cnt j L ≤ cnt j (L.set f v)
 | [], f, _ => by simp
 | a :: L, 0, h => by
   have := h a rfl
   unfold cnt
   rw [List.set_cons_zero, List.countP_cons, List.countP_cons]
   by_cases h1 : j ≤ a
   · simp [h1, Int.le_trans h1 this]
   · simp [h1]
 | a :: L, f + 1, h => by
   have ih := cnt_set_le j v L f (fun x hx => h x (by simpa using hx))
   unfold cnt at ih ⊢
   rw [List.set_cons_succ, List.countP_cons, List.countP_cons]
   omega
theorem match_AK {k c : Nat} (h : PropOut k c) (hk : k < 6) (h2 : 2 ≤ k) (a1 a2 a3 a4 w : Int) : matchL (AK k c a1 a2 a3 a4 w) = [(c : Int) + 1, a1, a2, a3, a4].take k := by
 have e : matchL (AK k c a1 a2 a3 a4 w) = (upL k).map fun n => if n = 0 then (c : Int) + 1 else mx (AK k c a1 a2 a3 a4 w).x n := by
   unfold matchL
   rw [show memS (AK k c a1 a2 a3 a4 w) = upL k from h.mem, show lastS (AK k c a1 a2 a3 a4 w) = (c : Int) + 1 from h.la, show (AK k c a1 a2 a3 a4 w).x.id = 0 from h.id]
 rw [e]
 rcases (show k = 2 ∨ k = 3 ∨ k = 4 ∨ k = 5 by omega) with rfl | rfl | rfl | rfl <;> rfl
theorem terms_AK {k c : Nat} (h : PropOut k c) {a1 a2 a3 a4 : Int} {w : Nat} (hw : w ≤ c + 1) : (termsL (AK k c a1 a2 a3 a4 (w : Int))).length = c + 1 - w ∧ ∀ i, i < c + 1 - w → (termsL (AK k c a1 a2 a3 a4 (w : Int))).getD i 0 = 1 := by
 have e : termsL (AK k c a1 a2 a3 a4 (w : Int)) = (List.range (c + 1 - w)).map fun (i : Nat) => termS (propN k c) ((w : Int) + 1 + (i : Int)) := by
   show (List.range (lastS (propN k c) - (w : Int)).toNat).map _ = _
   rw [h.la, show ((c : Int) + 1 - (w : Int)).toNat = c + 1 - w from by omega]
   rfl
 rw [e]
 refine ⟨by simp, fun i hi => ?_⟩
 rw [List.getD, List.getElem?_map, List.getElem?_range hi]
 show termS (propN k c) ((w : Int) + 1 + (i : Int)) = 1
 have := h.tm (w + i) (by omega)
 rw [show ((w + i : Nat) : Int) + 1 = (w : Int) + 1 + (i : Int) from by omega] at this
 exact this
theorem ack_set {k c f : Nat} {a1 a2 a3 a4 w at' : Int} (hf : 1 ≤ f) (hf2 : f < 5) : ackS (AK k c a1 a2 a3 a4 w) (f : Int) at' = AK k c (U f at' 1 a1) (U f at' 2 a2) (U f at' 3 a3) (U f at' 4 a4) w := by
 rcases (show f = 1 ∨ f = 2 ∨ f = 3 ∨ f = 4 by omega) with rfl | rfl | rfl | rfl <;> rfl
theorem mx_AK {k c f : Nat} {a1 a2 a3 a4 w : Int} (hf : 1 ≤ f) (hf2 : f < 5) : mx (AK k c a1 a2 a3 a4 w).x (f : Int) = [(c : Int) + 1, a1, a2, a3, a4].getD f 0 := by
 rcases (show f = 1 ∨ f = 2 ∨ f = 3 ∨ f = 4 by omega) with rfl | rfl | rfl | rfl <;> rfl
theorem U_list {c f : Nat} {a1 a2 a3 a4 at' : Int} (hf : 1 ≤ f) (hf2 : f < 5) : [(c : Int) + 1, U f at' 1 a1, U f at' 2 a2, U f at' 3 a3, U f at' 4 a4] = [(c : Int) + 1, a1, a2, a3, a4].set f (max ([(c : Int) + 1, a1, a2, a3, a4].getD f 0) at') := by
 rcases (show f = 1 ∨ f = 2 ∨ f = 3 ∨ f = 4 by omega) with rfl | rfl | rfl | rfl <;> rfl
theorem set_same {L : List Int} {f : Nat} (h : f < L.length) : L.set f (L.getD f 0) = L := by
 rw [List.getD, List.getElem?_eq_getElem h]; exact List.set_getElem_self h
theorem AK_clr {k c : Nat} (h : PropOut k c) (a1 a2 a3 a4 w : Int) : clrS (AK k c a1 a2 a3 a4 w) = AK k c a1 a2 a3 a4 w := by
 have a := h.ms; have b := h.rs; have d := h.re
 show ({ propN k c with x := akX (propN k c).x a1 a2 a3 a4 w, ms := [], rs := [], re := false } : RS) = { propN k c with x := akX (propN k c).x a1 a2 a3 a4 w }
 rw [← a, ← b, ← d]
theorem ack_step {k c f : Nat} (h : PropOut k c) (hk : k < 6) (h2 : 2 ≤ k) (hc : c < 6) (hf : 1 ≤ f) (hfk : f < k) (a1 a2 a3 a4 at' : Int) :
   clrS (appOkS (AK k c a1 a2 a3 a4 (WN k [(c : Int) + 1, a1, a2, a3, a4] (c + 1))) (f : Int) at') =
     AK k c (U f at' 1 a1) (U f at' 2 a2) (U f at' 3 a3) (U f at' 4 a4) (WN k [(c : Int) + 1, U f at' 1 a1, U f at' 2 a2, U f at' 3 a3, U f at' 4 a4] (c + 1)) := by
 obtain ⟨w, hw⟩ : ∃ w : Nat, (w : Int) = WN k [(c : Int) + 1, a1, a2, a3, a4] (c + 1) := ⟨(WN k [(c : Int) + 1, a1, a2, a3, a4] (c + 1)).toNat, by have := WN_bd k [(c : Int) + 1, a1, a2, a3, a4] (c + 1); omega⟩
 have hwb := WN_bd k [(c : Int) + 1, a1, a2, a3, a4] (c + 1)
 have hwm := WN_maj k [(c : Int) + 1, a1, a2, a3, a4] (c + 1)
 rw [← hw] at hwb hwm ⊢
 by_cases hm : mx (AK k c a1 a2 a3 a4 (w : Int)).x (f : Int) < at'
 · have e : clrS (appOkS (AK k c a1 a2 a3 a4 (w : Int)) (f : Int) at') = clrS (countS (ackS (AK k c a1 a2 a3 a4 (w : Int)) (f : Int) at')) := by
     by_cases hn : nx (countS (ackS (AK k c a1 a2 a3 a4 (w : Int)) (f : Int) at')).x (f : Int) ≤ lastS (countS (ackS (AK k c a1 a2 a3 a4 (w : Int)) (f : Int) at'))
     · rw [appOk_word _ _ _ hm hn]; rfl
     · rw [appOk_more _ _ _ hm (by omega)]
   rw [e, ack_set hf (by omega)]
   have hcm : commS (AK k c (U f at' 1 a1) (U f at' 2 a2) (U f at' 3 a3) (U f at' 4 a4) (w : Int)) = WN k [(c : Int) + 1, U f at' 1 a1, U f at' 2 a2, U f at' 3 a3, U f at' 4 a4] (c + 1) := by
     obtain ⟨t1, t2⟩ := terms_AK h (a1 := U f at' 1 a1) (a2 := U f at' 2 a2) (a3 := U f at' 3 a3) (a4 := U f at' 4 a4) (w := w) (by omega)
     unfold commS
     rw [match_AK h hk h2, show (AK k c (U f at' 1 a1) (U f at' 2 a2) (U f at' 3 a3) (U f at' 4 a4) (w : Int)).x.te = 1 from h.te, show (AK k c (U f at' 1 a1) (U f at' 2 a2) (U f at' 3 a3) (U f at' 4 a4) (w : Int)).x.co = (w : Int) from rfl]
     have hl : ([(c : Int) + 1, U f at' 1 a1, U f at' 2 a2, U f at' 3 a3, U f at' 4 a4].take k).length = k := by rw [List.length_take]; simp; omega
     unfold commitC
     rw [if_neg (by rw [hl]; omega), t1]
     have hw2 : WN k [(c : Int) + 1, U f at' 1 a1, U f at' 2 a2, U f at' 3 a3, U f at' 4 a4] w = w := by
       refine WN_at ?_
       rcases hwm with h9 | h9
       · left; omega
       · right
         refine Nat.lt_of_lt_of_le h9 (Nat.mul_le_mul_left 2 ?_)
         rw [U_list hf (by omega), List.take_set]
         refine cnt_set_le _ _ _ _ (fun x hx => ?_)
         rw [List.getElem?_take_of_lt hfk] at hx
         rw [List.getD, hx]
         exact Int.le_max_left _ _
     have := scan_WN hl hw2 (c + 1 - w) t2
     rw [show w + (c + 1 - w) = c + 1 from by omega] at this
     exact this
   rw [← hcm]
   exact AK_clr h _ _ _ _ _
 · rw [appOk_no _ _ _ hm, ack_set hf (by omega), AK_clr h]
   rw [mx_AK hf (by omega)] at hm
   have e2 : [(c : Int) + 1, U f at' 1 a1, U f at' 2 a2, U f at' 3 a3, U f at' 4 a4] = [(c : Int) + 1, a1, a2, a3, a4] := by
     rw [U_list hf (by omega), Int.max_eq_left (by omega), set_same (by simp; omega)]
   rw [e2, ← hw]
end Go.Proofs.YtndnnlbdnjndiaaGreat.K
