/- A region that draws its order: what is held is that all blocks but some named ones stay. For any program. -/
import Derived.Test.YtocfbocdnklllaaRegion
namespace Go.Proofs.Ytocfbocdnklllaa.K
open Go.ChangeShapes Go.WideShapes Go.ChangeAt Go.RowKit
set_option linter.unusedVariables false

def Keep (bad : Nat → Prop) (w W : World) : Prop := W.os = w.os ∧ W.tape = w.tape ∧ W.output = w.output ∧ w.heap.size ≤ W.heap.size ∧ ∀ k, k < w.heap.size → ¬ bad k → W.heap[k]? = w.heap[k]?
theorem Keep.refl (bad : Nat → Prop) (w : World) : Keep bad w w := ⟨rfl, rfl, rfl, Nat.le_refl _, fun _ _ _ => rfl⟩
theorem Keep.trans {bad : Nat → Prop} {a b c : World} (h : Keep bad a b) (k : Keep bad b c) : Keep bad a c :=
 ⟨k.1.trans h.1, k.2.1.trans h.2.1, k.2.2.1.trans h.2.2.1, Nat.le_trans h.2.2.2.1 k.2.2.2.1, fun i hi hn => (k.2.2.2.2 i (Nat.lt_of_lt_of_le hi h.2.2.2.1) hn).trans (h.2.2.2.2 i hi hn)⟩
theorem Keep.mono {bad bad' : Nat → Prop} {w W : World} (h : Keep bad' w W) (hb : ∀ k, bad' k → bad k) : Keep bad w W := ⟨h.1, h.2.1, h.2.2.1, h.2.2.2.1, fun i hi hn => h.2.2.2.2 i hi (fun hb' => hn (hb i hb'))⟩
theorem Keep.ofBelow {bad : Nat → Prop} {w W : World} (h : Below w.heap.size w W) : Keep bad w W := ⟨h.os, h.tape, h.output, h.size, fun k hk _ => h.block k hk⟩
theorem Keep.below {bad : Nat → Prop} {N : Nat} {w W : World} (h : Keep bad w W) (hb : ∀ k, bad k → N ≤ k) (hN : N ≤ w.heap.size) : Below N w W :=
 ⟨h.1, h.2.1, h.2.2.1, h.2.2.2.1, fun k hk => h.2.2.2.2 k (by omega) (fun hbk => by have := hb k hbk; omega)⟩
theorem Keep.cell {bad : Nat → Prop} {w W : World} (h : Keep bad w W) {p : Addr} (hn : ¬ bad p.block) (hp : p.block < w.heap.size) : W.cell? p = w.cell? p := World.cell?_of_block (w := w) (h.2.2.2.2 p.block hp hn)
theorem Keep.frozen {bad : Nat → Prop} {w W : World} (h : Keep bad w W) {p : Addr} (hn : ¬ bad p.block) (hp : p.block < w.heap.size) : W.frozen? p = w.frozen? p := World.frozen?_of_block (w := w) (h.2.2.2.2 p.block hp hn)
theorem Keep.size {bad : Nat → Prop} {w W : World} (h : Keep bad w W) : w.heap.size ≤ W.heap.size := h.2.2.2.1

section
variable {P : Program} {ops : Array Oper} {Q : Exit → Act → World → Prop} {md : Region.Mode} {w0 : World} {bad : Nat → Prop}

end
end Go.Proofs.Ytocfbocdnklllaa.K
