/- A cell of an element of a slice of one's own is written. For any program. -/
import Derived.Test.YtocfbocdnklllaaAb15
namespace Go.Proofs.Ytocfbocdnklllaa.K
open Go.ChangeShapes Go.WideShapes Go.ChangeAt Go.RowKit
set_option linter.unusedVariables false
set_option linter.unusedSimpArgs false

theorem flatten_set {α : Type} {mm : Nat} (v : α) (q : Nat) (hq : q < mm) : ∀ (cs : List (List α)) (J : Nat) (c : List α), (∀ c ∈ cs, c.length = mm) → cs[J]? = some c → cs.flatten.set (J * mm + q) v = (cs.set J (c.set q v)).flatten
  | [], J, c, _, h => by simp at h
  | a :: cs, 0, c, hc, h => by
    simp at h; subst h
    have ha := hc a (by simp)
    rw [List.set_cons_zero, List.flatten_cons, List.flatten_cons, Nat.zero_mul, Nat.zero_add, List.set_append_left _ _ (by omega)]
  | a :: cs, J + 1, c, hc, h => by
    have ha := hc a (by simp)
    have ih := flatten_set v q hq cs J c (fun c h => hc c (by simp [h])) (by simpa using h)
    rw [List.set_cons_succ, List.flatten_cons, List.flatten_cons, ← ih, List.set_append_right _ _ (by rw [ha, Nat.add_mul]; omega)]
    congr 2
    rw [ha, Nat.add_mul]; omega
theorem RowOk.cast {N : Nat} {S S' : Nat → Prop} {w : World} {v : Value} {e : TypeId} {m : Nat} {rows : List (List D)} (h : RowOk N S w v e m rows) (hs : ∀ b, S b → S' b) : RowOk N S' w v e m rows := by
  obtain ⟨cs, h1, h2, h3, h4, h5⟩ := h
  exact ⟨cs, h1, h2, h3, h4, fun j q c r x d a1 a2 a3 a4 => (h5 j q c r x d a1 a2 a3 a4).cast hs⟩
section
variable {P : Program} {n : Nat} {T : List (Nat × Value)} {a : Act} {w w0 : World} {X : Cx} {M : Mm} {tt : TypeId} {pos : String} {af : Array Edge} {gd : Option (Nat × Bool)} {Q : Exit → Act → World → Prop} {K : Act → World → Prop}
theorem e_storeSV (ha : Has n T a) (m : MemOk X w0 M w) (i : Nat) {g o l c mm : Nat} {t e : TypeId} {x y : Operand} {rows : List (List D)} {v : Value} (hm : lk M i = some (.seg (.slice (some ⟨g, o, none⟩) l c) e mm rows)) (J : Nat) {r : List D} (hr : rows[J]? = some r) {q q' : Nat} (hq : Nat.blt q mm = true) (hx : evT T x = some (.pointer (some ⟨g, q', none⟩))) (hq' : q' = o + J * mm + q) (hy : evT T y = some v) (hv : v.oneCell' = true) (hs : (P.info? t).map (·.size) = some 1)
    (h : ∀ w', MemOk X w0 ((i, .seg (.slice (some ⟨g, o, none⟩) l c) e mm (rows.set J (r.set q (.v v)))) :: M) w' → K a w') : Oper.wp P ⟨none, .store t x y, tt, pos, af, gd⟩ a w K Q := by
  obtain ⟨⟨cs, h1, h2, h3, h4, h5⟩, hX⟩ := m.ok i _ hm
  subst hq'
  have hq0 : q < mm := by simpa [Nat.blt_eq] using hq
  have hJ : J < rows.length := (List.getElem?_eq_some_iff.1 hr).1
  have hJc : cs[J]? = some cs[J] := List.getElem?_eq_getElem (by omega)
  rcases h1.2 with ⟨e1, _⟩ | ⟨g', off, cap, cur, e1, hg', hbk, hnc, hcm, hcs, htk⟩
  · cases e1
  · injection e1 with e1 e2 e3
    injection e1 with e1
    injection e1 with e1 e4
    subst e1; subst e4; subst e2; subst e3
    have hJm : J * mm + q < rows.length * mm := by
      calc J * mm + q < J * mm + mm := by omega
        _ = (J + 1) * mm := by rw [Nat.add_mul]; omega
        _ ≤ rows.length * mm := Nat.mul_le_mul_right _ (by omega)
    have hcapm : rows.length * mm ≤ c * mm := Nat.mul_le_mul_right _ hnc
    have hb : Blk w g e cur.toList := by unfold Blk; rw [Array.toArray_toList]; exact hbk
    have hcl : cur.toList.length = cur.size := Array.length_toList
    obtain ⟨w', hrn, hb', hk⟩ := run_storeVar_blk (P := P) hb (o + J * mm + q) t [v] (by simp; omega) (by simpa using hs) (by simpa using hv)
    have hst : (Instr.storeAt t (.pointer (some ⟨g, o + J * mm + q, none⟩)) v).run P w = .ok () w' := by
      have e1 : v.cells = #[v] := cells_one hv
      have e2 : (Value.agg #[v]).cells = #[v] := rfl
      simp only [Instr.storeAt, storeVar, List.toArray, e1, e2] at hrn ⊢
      exact hrn
    have hrun : (execOp a.eval ⟨none, .store t x y, tt, pos, af, gd⟩).run P w = .ok .skip w' := by
      simp [execOp, ha.ev hx, ha.ev hy, hst]
    show Oper.upon P _ a K Q _
    rw [hrun]
    have hcur : cur.toList.take (o + J * mm + q) ++ [v] ++ cur.toList.drop (o + J * mm + q + [v].length) = cur.toList.set (o + J * mm + q) v := by
      rw [List.set_eq_take_append_cons_drop, if_pos (by omega)]; simp
    rw [hcur] at hb'
    have hlen : (rows.set J (r.set q (.v v))).length = rows.length := List.length_set ..
    have hkeep : Keep (fun b => ∃ r, lk M i = some r ∧ r.blk = some b) w w' := (hk (fun b => b = g) rfl).mono (fun b e => ⟨_, hm, by rw [show b = g from e]; rfl⟩)
    refine h w' (m.upd i _ hkeep (fun b hb => .inl ⟨_, hm, hb⟩) (fun hf _ => ⟨⟨cs.set J (cs[J].set q v), ?_, by rw [List.length_set, h2, hlen], fun c' hc' => ?_, fun r' hr' => ?_, fun j q2 c' r' x' d a1 a2 a3 a4 => ?_⟩, hX⟩))
    · rw [hlen, ← flatten_set v q hq0 cs J cs[J] (fun c hc => (h3 c hc).1) hJc]
      refine ⟨by rw [List.length_set]; exact h1.1, .inr ⟨g, o, c, (cur.toList.set (o + J * mm + q) v).toArray, rfl, Nat.zero_le _, hb', hnc, hcm, by simp; omega, ?_⟩⟩
      rw [← htk]
      show ((cur.toList.set (o + J * mm + q) v).drop o).take (rows.length * mm) = _
      rw [List.drop_set, if_neg (by omega), List.take_set]
      congr 1; omega
    · rcases List.mem_or_eq_of_mem_set hc' with hc' | rfl
      · exact h3 c' hc'
      · have := h3 cs[J] (List.getElem_mem (by omega))
        refine ⟨by rw [List.length_set]; exact this.1, fun x hx => ?_⟩
        rcases List.mem_or_eq_of_mem_set hx with hx | rfl
        · exact this.2 x hx
        · exact hv
    · rcases List.mem_or_eq_of_mem_set hr' with hr' | rfl
      · exact h4 r' hr'
      · rw [List.length_set]; exact h4 r (List.mem_of_getElem? hr)
    · have hmono : ∀ b, b < w.heap.size → Free X M b → w'.heap[b]? = w.heap[b]? ∧ Free X ((i, Res.seg (.slice (some ⟨g, o, none⟩) rows.length c) e mm (rows.set J (r.set q (.v v)))) :: M) b := fun b hlt hF => ⟨(hk (fun b => b = g) rfl).2.2.2.2 b hlt (fun e => hF.2 ⟨i, _, hm, by rw [show b = g from e]; rfl⟩), hf b hlt hF⟩
      have hsz := hkeep.size
      by_cases hjJ : j = J
      · subst hjJ
        rw [List.getElem?_set_self (by omega)] at a1
        rw [List.getElem?_set_self (by omega)] at a2
        cases a1; cases a2
        by_cases hqq : q2 = q
        · subst hqq
          have l1 := (List.getElem?_eq_some_iff.1 a3).1
          have l2 := (List.getElem?_eq_some_iff.1 a4).1
          rw [List.length_set] at l1 l2
          rw [List.getElem?_set_self l1] at a3
          rw [List.getElem?_set_self l2] at a4
          cases a3; cases a4
          exact .v v
        · rw [List.getElem?_set_ne (by omega)] at a3
          rw [List.getElem?_set_ne (by omega)] at a4
          exact (h5 j q2 _ r x' d hJc hr a3 a4).mono hsz hmono
      · rw [List.getElem?_set_ne (by omega)] at a1
        rw [List.getElem?_set_ne (by omega)] at a2
        exact (h5 j q2 c' r' x' d a1 a2 a3 a4).mono hsz hmono
end
end Go.Proofs.Ytocfbocdnklllaa.K
