/- Rows of equal parts as lists; arrays of bytes in the middle of a block that is known whole: load, store, copy. For any program. -/
import Derived.Test.YtocfbocdnklllaaBytes
import Derived.Test.YtocfbocdnklllaaRegionK
import Derived.Deep.MidRow
import Derived.Laws.CopyOwn
import Derived.Great.BuildSlice
namespace Go.Proofs.Ytocfbocdnklllaa.K
open Go.ChangeShapes Go.WideShapes Go.ChangeAt Go.RowKit
set_option linter.unusedVariables false

/-! ### Lists of parts of one length -/
theorem parts_len {α : Type} (f : α → List Value) (k : Nat) : ∀ (l : List α), (∀ s ∈ l, (f s).length = k) → (l.flatMap f).length = l.length * k
 | [], _ => by simp
 | a :: l, h => by
   rw [List.flatMap_cons, List.length_append, h a (by simp), parts_len f k l (fun s hs => h s (by simp [hs])), List.length_cons, Nat.add_mul]
   omega
/-! ### Bytes as cells -/
def B8 (s : List Int) : List Value := s.map (Value.int .u8)
def flat (ss : List (List Int)) : List Value := ss.flatMap B8
/-! ### A block that is known whole -/
def Blk (w : World) (g : Nat) (e : TypeId) (cs : List Value) : Prop := w.heap[g]? = some (.cells cs.toArray e (0, 0))
theorem Blk.lt {w : World} {g : Nat} {e : TypeId} {cs : List Value} (h : Blk w g e cs) : g < w.heap.size := (Array.getElem?_eq_some_iff.1 h).1
theorem Blk.cell {w : World} {g : Nat} {e : TypeId} {cs : List Value} (h : Blk w g e cs) (j : Nat) : w.cell? ⟨g, j, none⟩ = cs[j]? := by
 rw [cell_of_row w g j _ e (0, 0) h]; simp
theorem Blk.free {w : World} {g : Nat} {e : TypeId} {cs : List Value} (h : Blk w g e cs) (j : Nat) : w.frozen? ⟨g, j, none⟩ = false := frozen_of_row w g j _ e h
theorem Blk.keep {bad : Nat → Prop} {w W : World} {g : Nat} {e : TypeId} {cs : List Value} (h : Blk w g e cs) (hk : Keep bad w W) (hb : ¬ bad g) : Blk W g e cs := (hk.2.2.2.2 g h.lt hb).trans h
theorem Blk.below {N : Nat} {w W : World} {g : Nat} {e : TypeId} {cs : List Value} (h : Blk w g e cs) (hk : Below N w W) (hb : g < N) : Blk W g e cs := (hk.block g hb).trans h
theorem Blk.alloc (w : World) (e : TypeId) (cs : Array Value) : Blk (w.alloc (.cells cs e)) w.heap.size e cs.toList := by
 unfold Blk; rw [Array.toArray_toList]; exact heap_alloc_new w _
theorem Blk.range {w : World} {g : Nat} {e : TypeId} {cs : List Value} (h : Blk w g e cs) (o : Nat) (xs : List Value) (hx : ∀ j, j < xs.length → cs[o + j]? = xs[j]?) : w.rangeAt g o xs := fun j v hv => by
 have hj : j < xs.length := (List.getElem?_eq_some_iff.1 hv).1
 rw [h.cell, hx j hj, hv]
theorem Blk.nums {w : World} {g : Nat} {e : TypeId} {cs : List Value} (h : Blk w g e cs) (o c : Nat) (s : List Int) (n : Nat) (hn : n = s.length) (hx : ∀ j, j < s.length → cs[o + j]? = (B8 s)[j]?) : IsNums .u8 w (.slice (some ⟨g, o, none⟩) n c) s := by
 subst hn
 refine ⟨_, c, rfl, .inr ⟨g, o, rfl, h.lt, fun j hj => ?_⟩⟩
 rw [h.cell, hx j hj]
 simp [B8, hj, List.getD]
theorem Keep.setRow {bad : Nat → Prop} {w : World} {g : Nat} (hb : bad g) (cs : Array Value) : Keep bad w (w.setRow g cs) :=
 ⟨rfl, rfl, rfl, by simp [World.setRow], fun k hk hn => setRow_other w g k cs (fun e => hn (by rw [e]; exact hb))⟩
theorem Keep.alloc (bad : Nat → Prop) (w : World) (o : Obj) : Keep bad w (w.alloc o) := Keep.ofBelow ((Below.refl _ w).alloc (Nat.le_refl _) o)
theorem run_storeVar_blk {P : Program} {w : World} {g : Nat} {e : TypeId} {cs : List Value} (h : Blk w g e cs) (o : Nat) (ty : TypeId) (xs : List Value) (hfit : o + xs.length ≤ cs.length)
   (hi : (P.info? ty).map (·.size) = some xs.length) (h1 : ∀ v ∈ xs, v.oneCell' = true) :
   ∃ w', (Instr.storeAt ty (.pointer (some ⟨g, o, none⟩)) (.agg xs.toArray)).run P w = .ok () w' ∧ Blk w' g e (cs.take o ++ xs ++ cs.drop (o + xs.length)) ∧ ∀ bad : Nat → Prop, bad g → Keep bad w w' := by
 have hst := run_storeCells_at P g o e xs 0 cs.toArray w h (by simpa using hfit) h1
 cases hq : P.info? ty with
 | none => simp [hq] at hi
 | some i =>
   have hs : xs.length = i.size := by simp [hq] at hi; omega
   refine ⟨w.setRow g (cs.take o ++ xs ++ cs.drop (o + xs.length)).toArray, ?_, ?_, fun bad hb => Keep.setRow hb _⟩
   · rw [Nat.add_zero] at hst
     have hst' : (storeCells ⟨g, o, none⟩ xs 0).run P w = .ok () (w.setRow g (cs.take o ++ xs ++ cs.drop (o + xs.length)).toArray) := by rw [hst]
     simp only [Instr.storeAt, Instr.sureAddr, Sem.run_bind, Sem.run_pure, Result.andThen_ok]
     simp [storeVar, sizeOf, typeInfo, hq, Value.cells, ← hs, hst']
   · unfold Blk
     rw [setRow_heap w g _ _ e _ h]

/-! ### What a literal of a struct lays -/
def NumsOff (bad : Nat → Prop) (w : World) (v : Value) (zs : List Int) : Prop :=
 ∃ a c, v = .slice a zs.length c ∧ (zs.length = 0 ∨ ∃ b off, a = some ⟨b, off, none⟩ ∧ b < w.heap.size ∧ ¬ bad b ∧ ∀ j, j < zs.length → w.cell? ⟨b, off + j, none⟩ = some (.int .u8 (zs.getD j 0)))
theorem NumsOff.nums {bad : Nat → Prop} {w : World} {v : Value} {zs : List Int} (h : NumsOff bad w v zs) : IsNums .u8 w v zs := by
 obtain ⟨a, c, rfl, h | ⟨b, off, rfl, h1, h2, h3⟩⟩ := h
 · exact ⟨a, c, rfl, .inl h⟩
 · exact ⟨_, c, rfl, .inr ⟨b, off, rfl, h1, h3⟩⟩
theorem NumsOff.keep {bad bad' : Nat → Prop} {w W : World} {v : Value} {zs : List Int} (h : NumsOff bad w v zs) (hk : Keep bad' w W) (hb : ∀ k, bad' k → bad k) : NumsOff bad W v zs := by
 obtain ⟨a, c, rfl, h | ⟨b, off, rfl, h1, h2, h3⟩⟩ := h
 · exact ⟨a, c, rfl, .inl h⟩
 · exact ⟨_, c, rfl, .inr ⟨b, off, rfl, Nat.lt_of_lt_of_le h1 hk.size, h2, fun j hj => by rw [hk.cell (fun hh => h2 (hb _ hh)) h1]; exact h3 j hj⟩⟩
theorem NumsOff.mono {bad bad' : Nat → Prop} {w : World} {v : Value} {zs : List Int} (h : NumsOff bad w v zs) (hb : ∀ k, k < w.heap.size → bad' k → bad k) : NumsOff bad' w v zs := by
 obtain ⟨a, c, rfl, h | ⟨b, off, rfl, h1, h2, h3⟩⟩ := h
 · exact ⟨a, c, rfl, .inl h⟩
 · exact ⟨_, c, rfl, .inr ⟨b, off, rfl, h1, fun hh => h2 (hb _ h1 hh), h3⟩⟩
theorem NumsOff.nil (bad : Nat → Prop) (w : World) (a : Option Addr) (c : Nat) : NumsOff bad w (.slice a 0 c) [] := ⟨a, c, rfl, .inl rfl⟩
theorem NumsOff.of {bad : Nat → Prop} {w : World} {v : Value} {zs : List Int} (h : IsNums .u8 w v zs) (hb : ∀ k, k < w.heap.size → ¬ bad k) : NumsOff bad w v zs := by
 obtain ⟨a, c, rfl, h | ⟨b, off, rfl, h1, h3⟩⟩ := h
 · exact ⟨a, c, rfl, .inl h⟩
 · exact ⟨_, c, rfl, .inr ⟨b, off, rfl, h1, hb b h1, h3⟩⟩
theorem NumsOff.below {bad : Nat → Prop} {N : Nat} {w W : World} {v : Value} {zs : List Int} (h : IsNums .u8 w v zs) (hW : Below w.heap.size w W) (hb : ∀ k, bad k → w.heap.size ≤ k) : NumsOff bad W v zs := by
 obtain ⟨a, c, rfl, h | ⟨b, off, rfl, h1, h3⟩⟩ := h
 · exact ⟨a, c, rfl, .inl h⟩
 · exact ⟨_, c, rfl, .inr ⟨b, off, rfl, Nat.lt_of_lt_of_le h1 hW.size, fun hh => by have := hb b hh; omega, fun j hj => by rw [hW.cell h1]; exact h3 j hj⟩⟩

section
variable {P : Program} {ops : Array Oper} {rest : List Oper} {op : Oper} {a : Act} {w : World} {Q : Exit → Act → World → Prop} {K : Act → World → Prop}

end
end Go.Proofs.Ytocfbocdnklllaa.K
