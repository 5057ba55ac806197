/- A slice of one's own is read by a call; it becomes data. For any program. -/
import Derived.Test.YtocfbocdnklllaaAb9
namespace Go.Proofs.Ytocfbocdnklllaa.K
open Go.ChangeShapes Go.WideShapes Go.ChangeAt Go.RowKit
set_option linter.unusedVariables false
set_option linter.unusedSimpArgs false

theorem SegOk.rd {S S' : Nat → Prop} {w : World} {v : Value} {e : TypeId} {mm : Nat} {rows : List (List D)} (h : SegOk S w v e mm rows) (hS : ∀ b, b < w.heap.size → S b → S' b) (hv : ∀ b, v.ownBlock = some b → S' b) : Rd S' w v (.l mm rows) := by
 obtain ⟨cs, h1, h2, h3, h4, h5⟩ := h
 rcases h1.2 with ⟨rfl, h0⟩ | ⟨g, off, cap, cur, e1, hg, hbk, hcap, h7, h8, h9⟩
 · obtain rfl := List.length_eq_zero_iff.1 h0
   exact .l0 none 0 mm
 · subst e1
   have hlt := (Array.getElem?_eq_some_iff.1 hbk).1
   refine .l mm g off cap rows (fun j q => (cs.flatten[j * mm + q]?).getD undef) (hv g rfl) hlt hcap h4 (fun j q hj hq => ?_) (fun j q r d hj hq => ?_)
   · have hjc : j < cs.length := by omega
     have hc : cs[j]? = some cs[j] := List.getElem?_eq_getElem hjc
     have hm := (h3 cs[j] (List.getElem_mem hjc)).1
     have hx : cs[j][q]? = some (cs[j][q]'(by omega)) := List.getElem?_eq_getElem (by omega)
     have hf := flatten_at cs j q cs[j] (fun c hc => (h3 c hc).1) hc hq
     have := h1.cellAt rfl (j * mm + q) (by calc j * mm + q < j * mm + mm := by omega
         _ = (j + 1) * mm := by rw [Nat.add_mul]; omega
         _ ≤ rows.length * mm := Nat.mul_le_mul_right _ (by omega))
     rw [Nat.add_assoc, this, hf, hx]
     exact ⟨rfl, (h3 cs[j] (List.getElem_mem hjc)).2 _ (List.getElem_mem _)⟩
   · have hjr := (List.getElem?_eq_some_iff.1 hj).1
     have hjc : j < cs.length := by omega
     have hc : cs[j]? = some cs[j] := List.getElem?_eq_getElem hjc
     have hm := (h3 cs[j] (List.getElem_mem hjc)).1
     have hqr := (List.getElem?_eq_some_iff.1 hq).1
     have hrm := h4 r (List.mem_of_getElem? hj)
     have hx : cs[j][q]? = some (cs[j][q]'(by omega)) := List.getElem?_eq_getElem (by omega)
     have hf := flatten_at cs j q cs[j] (fun c hc => (h3 c hc).1) hc (by omega)
     show Rd S' w ((cs.flatten[j * mm + q]?).getD undef) d
     rw [hf, hx]
     exact (h5 j q cs[j] r _ d hc hj hx hq).mono (Nat.le_refl _) (fun b hlt hs => ⟨rfl, hS b hlt hs⟩)
theorem SegOk.take {S : Nat → Prop} {w : World} {p : Option Addr} {l c mm : Nat} {e : TypeId} {rows : List (List D)} (h : SegOk S w (.slice p l c) e mm rows) (j : Nat) (hj : j ≤ rows.length) : SegOk S w (.slice p j c) e mm (rows.take j) := by
 obtain ⟨cs, h1, h2, h3, h4, h5⟩ := h
 have hft : (cs.take j).flatten = cs.flatten.take (j * mm) := flatten_take cs j (fun c hc => (h3 c hc).1) (by omega)
 have hjm : j * mm ≤ rows.length * mm := Nat.mul_le_mul_right _ hj
 have hjl : (rows.take j).length = j := by rw [List.length_take]; omega
 refine ⟨cs.take j, ?_, by simp [h2], fun c hc => h3 c (List.mem_of_mem_take hc), fun r hr => h4 r (List.mem_of_mem_take hr), fun j' q c' r x d a1 a2 a3 a4 => ?_⟩
 · rw [hjl, hft]
   refine ⟨by rw [List.length_take, h1.1]; omega, ?_⟩
   rcases h1.2 with ⟨e1, h0⟩ | ⟨g, off, cap, cur, e1, hg, hbk, hcap, h7, h8, h9⟩
   · injection e1 with e1 _ e3; subst e1; subst e3
     obtain rfl : j = 0 := by omega
     exact .inl ⟨rfl, rfl⟩
   · injection e1 with e1 _ e3; subst e1; subst e3
     exact .inr ⟨g, off, c, cur, rfl, hg, hbk, by omega, h7, h8, by rw [← h9, List.take_take, Nat.min_eq_left hjm]⟩
 · have hlt : j' < j := by
     have := (List.getElem?_eq_some_iff.1 a2).1
     rw [hjl] at this; exact this
   rw [List.getElem?_take_of_lt hlt] at a1 a2
   exact h5 j' q c' r x d a1 a2 a3 a4
section
variable {w w0 : World} {X : Cx} {M : Mm}
theorem MemOk.freezeS (m : MemOk X w0 M w) (i : Nat) {v : Value} {e : TypeId} {k : Nat} {rows : List (List D)} (h : lk M i = some (.seg v e k rows)) (hN : ∀ b, b ∉ X.bad) : MemOk X w0 ((i, .dat v (.l k rows)) :: M) w :=
 m.upd i _ (Keep.refl _ _) (fun b hb => by cases hb) (fun h1 h2 => by
   have hs := m.ok i _ h
   exact hs.1.rd h1 (fun b hb => h2 b ⟨_, h, hb⟩ ((hs.2 b hb).resolve_right (hN b)) (fun c hc => by cases hc)))
theorem Rd.now {S2 : Nat → Prop} {v : Value} {d : D} (h : Rd S2 w0 v d) (m : MemOk X w0 M w) (hX : ∀ b, S2 b → b ∉ X.bad) : Rd S2 w v d := h.mono m.keep.size (fun b hlt hS => ⟨m.keep.2.2.2.2 b hlt (hX b hS), hS⟩)
end
end Go.Proofs.Ytocfbocdnklllaa.K
