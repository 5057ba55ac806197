/- A cell of a row of one's own whose cells are known is read; one is written. For any program. -/
import Derived.Test.YteglmahnkfgelaaGreatChu3
namespace Go.Proofs.YteglmahnkfgelaaGreat.K
open Go.ChangeShapes Go.WideShapes Go.ChangeAt Go.RowKit
set_option linter.unusedVariables false
set_option linter.unusedSimpArgs false
section
variable {P : Program} {n : Nat} {T : List (Nat × Value)} {a : Act} {w w0 : World} {X : Cx} {M : Mm} {tt : TypeId} {pos : String} {af : Array Edge} {gd : Option (Nat × Bool)} {Q : Exit → Act → World → Prop} {K : Act → World → Prop}
theorem cell_rowC {N g l c : Nat} {S : Nat → Prop} {e : TypeId} {rows : List (List D)} {cs : List (List Value)} (h : RowC N S w (.slice (some ⟨g, 0, none⟩) l c) e 1 rows cs) {j : Nat} {v : Value} (hc : cs[j]? = some [v]) : w.cell? ⟨g, j, none⟩ = some v := by
 obtain ⟨h1, h2, h3, h4, h5⟩ := h
 have hfl : ∀ (cs : List (List Value)), (∀ c ∈ cs, c.length = 1) → ∀ j : Nat, cs[j]? = some [v] → cs.flatten[j]? = some v := by
   intro cs
   induction cs with
   | nil => intro _ j hj; simp at hj
   | cons c cs ih =>
     intro hl j hj
     have hc1 := hl c (by simp)
     match c, hc1 with
     | [x], _ =>
       rw [List.flatten_cons]
       cases j with
       | zero => simp at hj; subst hj; rfl
       | succ j => rw [List.getElem?_append_right (by simp)]; exact ih (fun c hc => hl c (by simp [hc])) j (by simpa using hj)
 have hv := hfl cs (fun c hc => (h3 c hc).1) j hc
 have := h1.cells (g := g) rfl j v hv
 rwa [Addr.add_lit, Nat.zero_add] at this
theorem y_loadRC1 (ha : Has n T a) (m : MemOk X w0 M w) {d : Option Tmp} {t : TypeId} {td : TypeDesc} {x : Operand} {i g l c : Nat} {e : TypeId} {rows : List (List D)} {cs : List (List Value)} {v : Value} (hm : lk M i = some (.rowC (.slice (some ⟨g, 0, none⟩) l c) e 1 rows cs)) (j : Nat) (hc : cs[j]? = some [v]) (hx : evT T x = some (.pointer (some ⟨g, 0 + j * 1, none⟩))) (hu : P.underlying t = some td) (hr : td.isRow = false) : Yl P a w ⟨d, .load t x, tt, pos, af, gd⟩ v := by
 have hk := cell_rowC (m.ok i _ hm) hc
 have hr9 : w.rangeAt g j [v] := fun q x hq => by
   cases q with
   | zero => simp at hq; subst hq; exact hk
   | succ q => simp at hq
 rw [show 0 + j * 1 = j + 0 by omega] at hx
 exact y_loadAt1 ha hr9 (q := 0) hx rfl rfl hu hr
theorem e_storeR1 (ha : Has n T a) (m : MemOk X w0 M w) (i : Nat) {g l c : Nat} {t e : TypeId} {x y : Operand} {rows : List (List D)} {v : Value} {dd : D} (hm : lk M i = some (.row (.slice (some ⟨g, 0, none⟩) l c) e 1 rows)) (J : Nat) (hJ : J < rows.length) {q' : Nat} (hx : evT T x = some (.pointer (some ⟨g, q', none⟩))) (hq' : q' = 0 + J * 1) (hy : evT T y = some v) (hv : v.oneCell' = true) (hs : (P.info? t).map (·.size) = some 1) (hdd : Rd (Free X M) w v dd)
   (h : ∀ w', MemOk X w0 ((i, .row (.slice (some ⟨g, 0, none⟩) l c) e 1 (rows.set J [dd])) :: M) w' → K a w') : Oper.wp P ⟨none, .store t x y, tt, pos, af, gd⟩ a w K Q := by
 have h9 : Oper.wp P ⟨none, .store t x (.const (.agg #[v])), tt, pos, af, gd⟩ a w K Q := e_storeRW ha m i hm J hJ hx hq' (y := .const (.agg #[v])) rfl (by simpa using hv) rfl hs (.cons hdd .nil) h
 have e1 : (execOp a.eval ⟨none, .store t x y, tt, pos, af, gd⟩).run P w = (execOp a.eval ⟨none, .store t x (.const (.agg #[v])), tt, pos, af, gd⟩).run P w := by
   have e1 : v.cells = #[v] := cells_one hv
   have e2 : (Value.agg #[v]).cells = #[v] := rfl
   have e3 : a.eval (.const (.agg #[v])) = .agg #[v] := rfl
   simp only [execOp, ha.ev hy, e3, ha.ev hx, Instr.storeAt, storeVar, e1, e2]
 have e4 : Oper.wp P ⟨none, .store t x y, tt, pos, af, gd⟩ a w K Q = Oper.upon P ⟨none, .store t x y, tt, pos, af, gd⟩ a K Q ((execOp a.eval ⟨none, .store t x y, tt, pos, af, gd⟩).run P w) := rfl
 have e5 : Oper.wp P ⟨none, .store t x (.const (.agg #[v])), tt, pos, af, gd⟩ a w K Q = Oper.upon P ⟨none, .store t x (.const (.agg #[v])), tt, pos, af, gd⟩ a K Q ((execOp a.eval ⟨none, .store t x (.const (.agg #[v])), tt, pos, af, gd⟩).run P w) := rfl
 rw [e4, e1]
 rw [e5] at h9
 exact h9
end
end Go.Proofs.YteglmahnkfgelaaGreat.K
