/- stream: append onto bytes of a constant. -/
import Derived.Test.YtcccomafnmdlfaaDoorStr9
import Derived.ArgAppend
namespace Go.Proofs.YtcccomafnmdlfaaDoor.K
open Go.ChangeShapes Go.WideShapes Go.ChangeAt Go.RowKit
set_option linter.unusedVariables false
set_option linter.unusedSimpArgs false
theorem e_appG {P : Program} {X : Cx} {M : Mm} {T : List (Nat × Value)} {n : Nat} {a : Act} {w w0 : World} {K : Act → World → Prop} {Q : Exit → Act → World → Prop} {tt : TypeId} {pos : String} {af : Array Edge} {gd : Option (Nat × Bool)} (ha : Has n T a) (m : MemOk X w0 M w) (i : Nat) {d : Tmp} {t e : TypeId} {k : IntKind} {bytes : Nat} {s x : Operand} {b : Addr} {l c : Nat} {u : Value} {xs zs : List Int} (hs : evT T s = some (.slice (some b) l c)) (hx : evT T x = some u) (hv : IsNums k w (.slice (some b) l c) xs) (hu : IsNums k w u zs) (h0 : xs.length ≠ 0) (hz : zs.length ≠ 0) (hg : c < l + zs.length)
   (ht : P.underlying t = some (.slice e)) (hinf : (P.info? e).map (fun i => (i.zero, i.size, i.bytes)) = some (some (.int k 0), 1, bytes)) (hb8 : bytes ≤ 8) (hn : xs.length + zs.length ≤ 1000000000) (hd : Nat.blt d n = true)
   (h : ∀ p c a' w', Has n ((d, .slice p (xs ++ zs).length c) :: T) a' → MemOk X w0 ((i, .num (.slice p (xs ++ zs).length c) e k (xs ++ zs)) :: M) w' → K a' w') : Oper.wp P ⟨some d, .call { callee := .builtin .append, args := #[s, x], argTypes := #[t, t] }, tt, pos, af, gd⟩ a w K Q := by
 obtain ⟨i0, hi, hz0, hz1, hz2⟩ := info_parts hinf
 obtain ⟨p1, c1, hv1, hc1⟩ := hv
 injection hv1 with q1 q2 q3
 subst q1; subst q2; subst q3
 obtain ⟨p2, c2, rfl, hc2⟩ := hu
 rcases hc1 with hc1 | ⟨b1, o1, e1, hb1, hc1⟩
 · exact absurd hc1 h0
 rcases hc2 with hc2 | ⟨b2, o2, rfl, hb2, hc2⟩
 · exact absurd hc2 hz
 injection e1 with e1
 subst e1
 have cellsOf : ∀ (ys : List Int) (b o : Nat), (∀ j, j < ys.length → w.cell? ⟨b, o + j, none⟩ = some (.int k (ys.getD j 0))) → ∀ j v, (ys.map (Value.int k))[j]? = some v → w.cell? ((⟨b, o, none⟩ : Addr).add j) = some v := fun ys b o hc j v hj => by
   have hjn : j < ys.length := by
     have := (List.getElem?_eq_some_iff.1 hj).1
     simpa using this
   rw [Addr.add_lit, hc j hjn]
   simp [hjn] at hj
   subst hj
   simp [List.getD, hjn]
 have hbn : (xs.length + zs.length) * bytes ≤ 140737488355328 := Nat.le_trans (Nat.mul_le_mul_left _ hb8) (by omega)
 obtain ⟨v', w', hr, h1, h2⟩ := run_append_arg_grows (P := P) w t tt e i0 (.int k 0) 1 bytes ht hi hz0 hz1 hz2 rfl (by decide) ⟨b1, o1, none⟩ xs.length c (xs.map (Value.int k)) (by simp) (cellsOf xs b1 o1 hc1) ⟨b2, o2, none⟩ zs.length c2 (zs.map (Value.int k)) (by simp) (cellsOf zs b2 o2 hc2) hg (by unfold maxLen; omega) hbn
 have hbel : Below w.heap.size w w' := (Below.refl _ w).grown h2 (Nat.le_refl _) (fun j hj => by cases hj)
 rw [← List.map_append, ← List.length_append] at h1
 obtain ⟨p, c9, e9⟩ := ownsRow_shape h1
 subst e9
 have hrun : (execOp a.eval ⟨some d, .call { callee := .builtin .append, args := #[s, x], argTypes := #[t, t] }, tt, pos, af, gd⟩).run P w = .ok (.value (.slice p (xs ++ zs).length c9)) w' := by
   simp only [execOp, resolve, invoke, builtin, Sem.run_bind, Sem.run_pure, Result.andThen_ok, List.map_toArray, List.map_cons, List.map_nil, ha.ev hs, ha.ev hx, hr]
 show Oper.upon P _ a K Q _
 rw [hrun]
 exact h p c9 _ _ (ha.put hd _) (m.newN i hbel h1)
theorem rsum_x {w0 : World} {v : Value} {bs : List Int} (hv : IsNums .u8 w0 v bs) (hb : BytesL bs) (hl : bs.length ≤ 1000000) :
   Calls Tryd.prog 22 #[v] w0 fun e w' => e = .returned (.int .u32 (sumC [bs])) ∧ Below w0.heap.size w0 w' := by
 refine (sum_ref v bs w0 hv (bytesLB hb) hl).mono fun e w' h => ?_
 obtain ⟨rfl, rfl⟩ := h
 exact ⟨rfl, Below.refl _ _⟩
end Go.Proofs.YtcccomafnmdlfaaDoor.K
