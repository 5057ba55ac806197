/- A region that draws its order: what is held is that all blocks but some named ones stay. For any program. -/
import Derived.Test.YtocfbocdnklllaaRegion
namespace Go.Proofs.Ytocfbocdnklllaa.K
open Go.ChangeShapes Go.WideShapes Go.ChangeAt Go.RowKit
set_option linter.unusedVariables false

/-- The blocks of w stay in W, but those that are bad. -/
def Keep (bad : Nat → Prop) (w W : World) : Prop := W.os = w.os ∧ W.tape = w.tape ∧ W.output = w.output ∧ w.heap.size ≤ W.heap.size ∧ ∀ k, k < w.heap.size → ¬ bad k → W.heap[k]? = w.heap[k]?
theorem Keep.refl (bad : Nat → Prop) (w : World) : Keep bad w w := ⟨rfl, rfl, rfl, Nat.le_refl _, fun _ _ _ => rfl⟩
theorem Keep.trans {bad : Nat → Prop} {a b c : World} (h : Keep bad a b) (k : Keep bad b c) : Keep bad a c :=
  ⟨k.1.trans h.1, k.2.1.trans h.2.1, k.2.2.1.trans h.2.2.1, Nat.le_trans h.2.2.2.1 k.2.2.2.1, fun i hi hn => (k.2.2.2.2 i (Nat.lt_of_lt_of_le hi h.2.2.2.1) hn).trans (h.2.2.2.2 i hi hn)⟩
theorem Keep.mono {bad bad' : Nat → Prop} {w W : World} (h : Keep bad' w W) (hb : ∀ k, bad' k → bad k) : Keep bad w W := ⟨h.1, h.2.1, h.2.2.1, h.2.2.2.1, fun i hi hn => h.2.2.2.2 i hi (fun hb' => hn (hb i hb'))⟩
theorem Keep.ofBelow {bad : Nat → Prop} {w W : World} (h : Below w.heap.size w W) : Keep bad w W := ⟨h.os, h.tape, h.output, h.size, fun k hk _ => h.block k hk⟩
theorem Keep.ofGrown {bad : Nat → Prop} {g : Nat} {w W : World} (h : w.grownBy W (some g)) (hg : bad g) : Keep bad w W := ⟨h.os, h.tape, h.output, h.size, fun k hk hn => h.block k hk (fun e => hn (by injection e with e; rw [e]; exact hg))⟩
theorem Keep.below {bad : Nat → Prop} {N : Nat} {w W : World} (h : Keep bad w W) (hb : ∀ k, bad k → N ≤ k) (hN : N ≤ w.heap.size) : Below N w W :=
  ⟨h.1, h.2.1, h.2.2.1, h.2.2.2.1, fun k hk => h.2.2.2.2 k (by omega) (fun hbk => by have := hb k hbk; omega)⟩
theorem Keep.cell {bad : Nat → Prop} {w W : World} (h : Keep bad w W) {p : Addr} (hn : ¬ bad p.block) (hp : p.block < w.heap.size) : W.cell? p = w.cell? p := World.cell?_of_block (w := w) (h.2.2.2.2 p.block hp hn)
theorem Keep.frozen {bad : Nat → Prop} {w W : World} (h : Keep bad w W) {p : Addr} (hn : ¬ bad p.block) (hp : p.block < w.heap.size) : W.frozen? p = w.frozen? p := World.frozen?_of_block (w := w) (h.2.2.2.2 p.block hp hn)
theorem Keep.size {bad : Nat → Prop} {w W : World} (h : Keep bad w W) : w.heap.size ≤ W.heap.size := h.2.2.2.1

section
variable {P : Program} {ops : Array Oper} {Q : Exit → Act → World → Prop} {md : Region.Mode} {w0 : World} {bad : Nat → Prop}

theorem stepK_read (i : Nat) (d : Option Tmp) {oi : Oper} {v : Value} {fuel : Nat} {listed : Array Bool} {a : Act} {w : World} (hi : ops[i]? = some oi) (hd : oi.dst = d)
    (hs : Region.noSelect ops = true) (hf : Region.free md ops listed i = true) (hr : (Region.ready md ops listed).contains i = true)
    (hQ : ∀ c a w, Q (.panic c) (a.put d v) w → Q (.panic c) a w) (hw : Region.wanted oi (yielded ops a.tmps) = true)
    (hy : ∀ W, Keep bad w W → (execOp a.eval oi).run P W = .ok (.value v) W)
    (h : wpAnyH P md ops Q (Keep bad w) fuel (listed.setIfInBounds i true) (a.put d v) w) : wpAnyH P md ops Q (Keep bad w) (fuel + 1) listed a w := by
  subst hd
  exact wpAnyH_take hi hs hf hr hQ (Or.inl ⟨hw, hy⟩) (Keep.refl _ _) h

theorem stepK_skip (i : Nat) (d : Option Tmp) {oi : Oper} {fuel : Nat} {listed : Array Bool} {a : Act} {w : World} (hi : ops[i]? = some oi) (hd : oi.dst = d)
    (hs : Region.noSelect ops = true) (hf : Region.free md ops listed i = true) (hr : (Region.ready md ops listed).contains i = true)
    (hQ : ∀ c a w, Q (.panic c) (a.put d undef) w → Q (.panic c) a w) (hw : Region.wanted oi (yielded ops a.tmps) = false)
    (h : wpAnyH P md ops Q (Keep bad w) fuel (listed.setIfInBounds i true) (a.put d undef) w) : wpAnyH P md ops Q (Keep bad w) (fuel + 1) listed a w := by
  subst hd
  exact wpAnyH_take hi hs hf hr hQ (Or.inr ⟨hw, rfl⟩) (Keep.refl _ _) h

/-- The one operation that may come up. -/
theorem stepK_only (i : Nat) {o : Oper} {fuel : Nat} {listed : Array Bool} {a : Act} {w : World} (hi : ops[i]? = some o) (hr : Region.ready md ops listed = [i])
    (hw : Region.wanted o (yielded ops a.tmps) = true)
    (h : ∀ K' : Act → World → Prop, (∀ a' w', Keep bad w w' → wpAnyH P md ops Q (Keep bad w') fuel (listed.setIfInBounds i true) a' w' → K' a' w') → Oper.wp P o a w K' Q) :
    wpAnyH P md ops Q (Keep bad w) (fuel + 1) listed a w := by
  refine wpAnyH_all hr (by simp) (fun j hj => ?_)
  obtain rfl : j = i := by simpa using hj
  refine wpOp_step hi (fun K' hK => ?_)
  rw [if_pos hw]
  exact h K' (fun a' w' hb hn => hK a' w' ⟨hb, wpAnyH_weaken (fun W hW => hb.trans hW) fuel _ a' w' hn⟩)

theorem regionK_begin (bad : Nat → Prop) {id : Nat} {a : Act} {w : World} (hm : P.follows .mixedOrders = true)
    (h : wpAnyH P .any ops Q (Keep bad w.drew) ops.size (Array.replicate ops.size false) a w.drew) : (Code.region id ops true).wp P Q a w :=
  wp_region_held hm h
end
end Go.Proofs.Ytocfbocdnklllaa.K
