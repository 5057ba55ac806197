/- A slice is written into an element of a slice of one's own. For any program. -/
import Derived.Test.YtocfbocdnklllaaAb17
import Derived.Laws.MakeOwn
namespace Go.Proofs.Ytocfbocdnklllaa.K
open Go.ChangeShapes Go.WideShapes Go.ChangeAt Go.RowKit
set_option linter.unusedVariables false
set_option linter.unusedSimpArgs false

section
variable {P : Program} {n : Nat} {T : List (Nat × Value)} {a : Act} {w w0 : World} {X : Cx} {M : Mm} {tt : TypeId} {pos : String} {af : Array Edge} {gd : Option (Nat × Bool)} {Q : Exit → Act → World → Prop} {K : Act → World → Prop}
theorem e_storeSD (ha : Has n T a) (m : MemOk X w0 M w) (i : Nat) {g o l c mm : Nat} {t e : TypeId} {x y : Operand} {rows : List (List D)} {v : Value} {dd : D} (hm : lk M i = some (.seg (.slice (some ⟨g, o, none⟩) l c) e mm rows)) (J : Nat) {r : List D} (hr : rows[J]? = some r) {q q' : Nat} (hq : Nat.blt q mm = true) (hx : evT T x = some (.pointer (some ⟨g, q', none⟩))) (hq' : q' = o + J * mm + q) (hy : evT T y = some v) (hv : v.oneCell' = true) (hs : (P.info? t).map (·.size) = some 1) (hdd : Rd (Free X M) w v dd)
   (h : ∀ w', MemOk X w0 ((i, .seg (.slice (some ⟨g, o, none⟩) l c) e mm (rows.set J (r.set q dd))) :: M) w' → K a w') : Oper.wp P ⟨none, .store t x y, tt, pos, af, gd⟩ a w K Q := by
 obtain ⟨⟨cs, h1, h2, h3, h4, h5⟩, hX⟩ := m.ok i _ hm
 subst hq'
 have hq0 : q < mm := by simpa [Nat.blt_eq] using hq
 have hJ : J < rows.length := (List.getElem?_eq_some_iff.1 hr).1
 have hJc : cs[J]? = some cs[J] := List.getElem?_eq_getElem (by omega)
 rcases h1.2 with ⟨e1, _⟩ | ⟨g', off, cap, cur, e1, hg', hbk, hnc, hcm, hcs, htk⟩
 · cases e1
 · injection e1 with e1 e2 e3
   injection e1 with e1
   injection e1 with e1 e4
   subst e1; subst e4; subst e2; subst e3
   have hJm : J * mm + q < rows.length * mm := by
     calc J * mm + q < J * mm + mm := by omega
       _ = (J + 1) * mm := by rw [Nat.add_mul]; omega
       _ ≤ rows.length * mm := Nat.mul_le_mul_right _ (by omega)
   have hcapm : rows.length * mm ≤ c * mm := Nat.mul_le_mul_right _ hnc
   have hb : Blk w g e cur.toList := by unfold Blk; rw [Array.toArray_toList]; exact hbk
   have hcl : cur.toList.length = cur.size := Array.length_toList
   obtain ⟨w', hrn, hb', hk⟩ := run_storeVar_blk (P := P) hb (o + J * mm + q) t [v] (by simp; omega) (by simpa using hs) (by simpa using hv)
   have hst : (Instr.storeAt t (.pointer (some ⟨g, o + J * mm + q, none⟩)) v).run P w = .ok () w' := by
     have e1 : v.cells = #[v] := cells_one hv
     have e2 : (Value.agg #[v]).cells = #[v] := rfl
     simp only [Instr.storeAt, storeVar, List.toArray, e1, e2] at hrn ⊢
     exact hrn
   have hrun : (execOp a.eval ⟨none, .store t x y, tt, pos, af, gd⟩).run P w = .ok .skip w' := by
     simp [execOp, ha.ev hx, ha.ev hy, hst]
   show Oper.upon P _ a K Q _
   rw [hrun]
   have hcur : cur.toList.take (o + J * mm + q) ++ [v] ++ cur.toList.drop (o + J * mm + q + [v].length) = cur.toList.set (o + J * mm + q) v := by
     rw [List.set_eq_take_append_cons_drop, if_pos (by omega)]; simp
   rw [hcur] at hb'
   have hlen : (rows.set J (r.set q dd)).length = rows.length := List.length_set ..
   have hkeep : Keep (fun b => ∃ r, lk M i = some r ∧ r.blk = some b) w w' := (hk (fun b => b = g) rfl).mono (fun b e => ⟨_, hm, by rw [show b = g from e]; rfl⟩)
   refine h w' (m.upd i _ hkeep (fun b hb => .inl ⟨_, hm, hb⟩) (fun hf _ => ⟨⟨cs.set J (cs[J].set q v), ?_, by rw [List.length_set, h2, hlen], fun c' hc' => ?_, fun r' hr' => ?_, fun j q2 c' r' x' d a1 a2 a3 a4 => ?_⟩, hX⟩))
   · rw [hlen, ← flatten_set v q hq0 cs J cs[J] (fun c hc => (h3 c hc).1) hJc]
     refine ⟨by rw [List.length_set]; exact h1.1, .inr ⟨g, o, c, (cur.toList.set (o + J * mm + q) v).toArray, rfl, Nat.zero_le _, hb', hnc, hcm, by simp; omega, ?_⟩⟩
     rw [← htk]
     show ((cur.toList.set (o + J * mm + q) v).drop o).take (rows.length * mm) = _
     rw [List.drop_set, if_neg (by omega), List.take_set]
     congr 1; omega
   · rcases List.mem_or_eq_of_mem_set hc' with hc' | rfl
     · exact h3 c' hc'
     · have := h3 cs[J] (List.getElem_mem (by omega))
       refine ⟨by rw [List.length_set]; exact this.1, fun x hx => ?_⟩
       rcases List.mem_or_eq_of_mem_set hx with hx | rfl
       · exact this.2 x hx
       · exact hv
   · rcases List.mem_or_eq_of_mem_set hr' with hr' | rfl
     · exact h4 r' hr'
     · rw [List.length_set]; exact h4 r (List.mem_of_getElem? hr)
   · have hmono : ∀ b, b < w.heap.size → Free X M b → w'.heap[b]? = w.heap[b]? ∧ Free X ((i, Res.seg (.slice (some ⟨g, o, none⟩) rows.length c) e mm (rows.set J (r.set q dd))) :: M) b := fun b hlt hF => ⟨(hk (fun b => b = g) rfl).2.2.2.2 b hlt (fun e => hF.2 ⟨i, _, hm, by rw [show b = g from e]; rfl⟩), hf b hlt hF⟩
     have hsz := hkeep.size
     by_cases hjJ : j = J
     · subst hjJ
       rw [List.getElem?_set_self (by omega)] at a1
       rw [List.getElem?_set_self (by omega)] at a2
       cases a1; cases a2
       by_cases hqq : q2 = q
       · subst hqq
         have l1 := (List.getElem?_eq_some_iff.1 a3).1
         have l2 := (List.getElem?_eq_some_iff.1 a4).1
         rw [List.length_set] at l1 l2
         rw [List.getElem?_set_self l1] at a3
         rw [List.getElem?_set_self l2] at a4
         cases a3; cases a4
         exact hdd.mono hsz hmono
       · rw [List.getElem?_set_ne (by omega)] at a3
         rw [List.getElem?_set_ne (by omega)] at a4
         exact (h5 j q2 _ r x' d hJc hr a3 a4).mono hsz hmono
     · rw [List.getElem?_set_ne (by omega)] at a1
       rw [List.getElem?_set_ne (by omega)] at a2
       exact (h5 j q2 c' r' x' d a1 a2 a3 a4).mono hsz hmono
theorem madeZ (k : IntKind) (n : Nat) : (madeCells (Value.int k 0).cells n).toList = (List.replicate n 0).map (Value.int k) := by
 unfold madeCells
 apply List.ext_getElem
 · simp
 · intro i h1 h2
   simp [Value.cells, Nat.mod_one]
theorem e_makeN (ha : Has n T a) (m : MemOk X w0 M w) (i : Nat) {d : Tmp} {t e : TypeId} {x y : Operand} {k kx ky : IntKind} {q q2 : Int} {bytes : Nat} (N : Nat) (hx : evT T x = some (.int kx q)) (hy : evT T y = some (.int ky q2)) (hq : q = N) (hq2 : q2 = N) (ht : P.underlying t = some (.slice e)) (hinf : (P.info? e).map (fun i => (i.zero, i.size, i.bytes)) = some (some (.int k 0), 1, bytes)) (hb8 : bytes ≤ 1000) (hN : N ≤ 100000000) (hd : Nat.blt d n = true)
   (h : ∀ p c a' w', Has n ((d, .slice p N c) :: T) a' → MemOk X w0 ((i, .num (.slice p N c) e k (List.replicate N 0)) :: M) w' → K a' w') : Oper.wp P ⟨some d, .makeSlice t x y, tt, pos, af, gd⟩ a w K Q := by
 obtain ⟨i0, hi, hz0, hz1, hz2⟩ := info_parts hinf
 subst hq; subst hq2
 have hby : N * bytes ≤ 100000000000 := Nat.mul_le_mul hN hb8
 have hby2 : (bytes : Int) * (N : Int) ≤ 281474976710656 := by
   rw [← Int.natCast_mul, Nat.mul_comm]; omega
 have hr := run_make (P := P) w t e i0 _ ht hi hz0 kx ky (N : Int) (N : Int) (by omega) (by omega) (by rw [hz2]; exact hby2) (by omega)
 rw [hz1, Nat.mul_one, Int.toNat_natCast] at hr
 have hrun : (execOp a.eval ⟨some d, .makeSlice t x y, tt, pos, af, gd⟩).run P w = .ok (.value (.slice (some ⟨w.heap.size, 0, none⟩) N N)) (w.alloc (.cells (madeCells (Value.int k 0).cells N) e)) := by
   simp [execOp, ha.ev hx, ha.ev hy, hr]
 show Oper.upon P _ a K Q _
 rw [hrun]
 refine h _ _ _ _ (ha.put hd _) (m.newN i ((Below.refl _ w).alloc (Nat.le_refl _) _) ?_)
 rw [List.length_replicate]
 refine ⟨by simp, .inr ⟨w.heap.size, N, madeCells (Value.int k 0).cells N, rfl, Nat.le_refl _, heap_alloc_new w _, Nat.le_refl _, by unfold maxLen; omega, by rw [size_madeCells, Nat.mul_one], ?_⟩⟩
 rw [madeZ, Nat.mul_one, List.take_of_length_le (by simp)]
end
end Go.Proofs.Ytocfbocdnklllaa.K
