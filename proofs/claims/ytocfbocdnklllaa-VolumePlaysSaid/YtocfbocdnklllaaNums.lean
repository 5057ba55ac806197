/- Slices of numbers as lists, and appending to a slice of one's own: lemmas for any program. -/
import Derived.Test.YtocfbocdnklllaaRows
import Derived.WalkKit
import Derived.ProofKit
import Derived.OpenShut
import Derived.IntWalk
import Derived.WalkLawsBesides
import Derived.WalkSpells
import Derived.Handy
import Derived.LoopTactic
import Derived.Lib.Hide
import Derived.OwnWalk
namespace Go.Proofs.Ytocfbocdnklllaa.K
open Go.ChangeShapes Go.WideShapes Go.ChangeAt Go.RowKit

def IsNums (k : IntKind) (w : World) (v : Value) (zs : List Int) : Prop :=
 ∃ a c, v = .slice a zs.length c ∧ (zs.length = 0 ∨ ∃ b off, a = some ⟨b, off, none⟩ ∧ b < w.heap.size ∧ ∀ j, j < zs.length → w.cell? ⟨b, off + j, none⟩ = some (.int k (zs.getD j 0)))

theorem IsNums.nil (k : IntKind) (w : World) (a : Option Addr) (c : Nat) : IsNums k w (.slice a 0 c) [] := ⟨a, c, rfl, .inl rfl⟩

theorem IsNums.below {k : IntKind} {B : Nat} {w w' : World} {v : Value} {zs : List Int} (h : IsNums k w v zs) (hb : Below B w w') (hB : w.heap.size ≤ B) : IsNums k w' v zs := by
 obtain ⟨a, c, rfl, h | ⟨b, off, rfl, h1, h2⟩⟩ := h
 · exact ⟨a, c, rfl, .inl h⟩
 · refine ⟨_, c, rfl, .inr ⟨b, off, rfl, by have := hb.size; omega, fun j hj => ?_⟩⟩
   rw [hb.cell (by show b < B; omega)]
   exact h2 j hj

theorem IsNums.alloc {k : IntKind} {w : World} {v : Value} {zs : List Int} (h : IsNums k w v zs) (o : Obj) : IsNums k (w.alloc o) v zs :=
 h.below ((Below.refl w.heap.size w).alloc (Nat.le_refl _) o) (Nat.le_refl _)

theorem IsNums.ofOwn {k : IntKind} {w : World} {B : Nat} {e : TypeId} {v : Value} {n : Nat} {zs : List Int} (h : w.ownsRow B e 1 v n (zs.map (Value.int k))) : IsNums k w v zs := by
 have hn : n = zs.length := by have := h.1; simpa using this.symm
 subst hn
 rcases h.2 with ⟨rfl, h0⟩ | ⟨g, cap, cur, rfl, hg, hb, h1, h2, h3, h4⟩
 · obtain rfl := List.length_eq_zero_iff.1 h0; exact IsNums.nil k w none 0
 · refine ⟨_, cap, rfl, .inr ⟨g, 0, rfl, (Array.getElem?_eq_some_iff.1 hb).1, fun j hj => ?_⟩⟩
   have := h.cellAt j (by omega)
   rw [Nat.zero_add, this]
   simp [hj, List.getD]

theorem IsNums.ofRow {k : IntKind} {w : World} {a : Option Addr} {len cap : Nat} {zs : List Int}
   (h : (a = none ∧ len = 0 ∧ cap = 0 ∧ zs = []) ∨ ∃ x, a = some x ∧ len ≤ cap ∧ cap ≤ maxLen ∧ zs.length = cap ∧ (∀ i, i < zs.length → w.cell? (x.add i) = some (.int k (zs.getD i 0))) ∧ ∀ n ∈ zs, (Lit.int k n).wf = true) :
   ∃ ys, IsNums k w (.slice a len cap) ys ∧ ys.length = len ∧ len ≤ maxLen ∧ ∀ n ∈ ys, (Lit.int k n).wf = true := by
 rcases h with ⟨rfl, rfl, rfl, rfl⟩ | ⟨x, rfl, hl, hm, hz, hcell, hwf⟩
 · exact ⟨[], IsNums.nil _ _ _ _, rfl, Nat.zero_le _, by simp⟩
 · refine ⟨zs.take len, ?_, by simp; omega, Nat.le_trans hl hm, fun n hn => hwf n (List.mem_of_mem_take hn)⟩
   have hlen : (zs.take len).length = len := by simp; omega
   refine ⟨some x, cap, by rw [hlen], ?_⟩
   by_cases h0 : len = 0
   · left; rw [hlen]; exact h0
   · obtain ⟨b, off, spot⟩ := x
     have hc := hcell 0 (by omega)
     have hspot : spot = none := by simpa [Addr.add] using World.cell?_spot hc
     subst hspot
     refine .inr ⟨b, off, rfl, ?_, fun j hj => ?_⟩
     · exact World.block_lt_of_cell? w _ hc
     · have h5 := hcell j (by omega)
       rw [show (Addr.add ⟨b, off, none⟩ j) = ⟨b, off + j, none⟩ by simp [Addr.add]] at h5
       rw [h5]
       simp only [List.getD, List.getElem?_take]
       rw [if_pos (by omega)]

end Go.Proofs.Ytocfbocdnklllaa.K
