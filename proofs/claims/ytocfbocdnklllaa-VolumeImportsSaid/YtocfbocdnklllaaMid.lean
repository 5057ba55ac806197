/- Rows of equal parts as lists; arrays of bytes in the middle of a block that is known whole: load, store, copy. For any program. -/
import Derived.Test.YtocfbocdnklllaaBytes
import Derived.Test.YtocfbocdnklllaaRegionK
import Derived.Deep.MidRow
import Derived.Laws.CopyOwn
import Derived.Great.BuildSlice
namespace Go.Proofs.Ytocfbocdnklllaa.K
open Go.ChangeShapes Go.WideShapes Go.ChangeAt Go.RowKit
set_option linter.unusedVariables false

/-! ### Lists of parts of one length -/
theorem parts_len {α : Type} (f : α → List Value) (k : Nat) : ∀ (l : List α), (∀ s ∈ l, (f s).length = k) → (l.flatMap f).length = l.length * k
  | [], _ => by simp
  | a :: l, h => by
    rw [List.flatMap_cons, List.length_append, h a (by simp), parts_len f k l (fun s hs => h s (by simp [hs])), List.length_cons, Nat.add_mul]
    omega
theorem parts_at {α : Type} (f : α → List Value) (k : Nat) : ∀ (l : List α) (i j : Nat) (d : α), (∀ s ∈ l, (f s).length = k) → i < l.length → j < k → (l.flatMap f)[i * k + j]? = (f (l.getD i d))[j]?
  | [], i, _, _, _, hi, _ => by simp at hi
  | a :: l, 0, j, d, h, _, hj => by
    rw [List.flatMap_cons, Nat.zero_mul, Nat.zero_add, List.getElem?_append_left (by rw [h a (by simp)]; exact hj)]
    rfl
  | a :: l, i + 1, j, d, h, hi, hj => by
    have ha := h a (by simp)
    rw [List.flatMap_cons, List.getElem?_append_right (by rw [ha, Nat.add_mul]; omega), ha, show (i + 1) * k + j - k = i * k + j by rw [Nat.add_mul]; omega,
      parts_at f k l i j d (fun s hs => h s (by simp [hs])) (by simpa using hi) hj]
    rfl
theorem parts_take {α : Type} (f : α → List Value) (k : Nat) : ∀ (l : List α) (n : Nat), (∀ s ∈ l, (f s).length = k) → (l.flatMap f).take (n * k) = (l.take n).flatMap f
  | [], n, _ => by simp
  | a :: l, 0, h => by simp
  | a :: l, n + 1, h => by
    have ha := h a (by simp)
    rw [List.flatMap_cons, List.take_succ_cons, List.flatMap_cons, Nat.add_mul, Nat.one_mul, ← ha, Nat.add_comm, List.take_length_add_append, ha, parts_take f k l n (fun s hs => h s (by simp [hs]))]
theorem parts_drop {α : Type} (f : α → List Value) (k : Nat) : ∀ (l : List α) (n : Nat), (∀ s ∈ l, (f s).length = k) → (l.flatMap f).drop (n * k) = (l.drop n).flatMap f
  | [], n, _ => by simp
  | a :: l, 0, h => by simp
  | a :: l, n + 1, h => by
    have ha := h a (by simp)
    rw [List.flatMap_cons, List.drop_succ_cons, Nat.add_mul, Nat.one_mul, ← ha, Nat.add_comm, List.drop_length_add_append, ha, parts_drop f k l n (fun s hs => h s (by simp [hs]))]
/-- One part is put in another's place. -/
theorem parts_set {α : Type} (f : α → List Value) (k : Nat) (l : List α) (i : Nat) (a : α) (h : ∀ s ∈ l, (f s).length = k) (ha : (f a).length = k) (hi : i < l.length) :
    (l.flatMap f).take (i * k) ++ f a ++ (l.flatMap f).drop (i * k + k) = (l.set i a).flatMap f := by
  rw [show i * k + k = (i + 1) * k by rw [Nat.add_mul]; omega, parts_take f k l i h, parts_drop f k l (i + 1) h, List.set_eq_take_append_cons_drop, if_pos hi, List.flatMap_append, List.flatMap_cons, List.append_assoc]

/-! ### Bytes as cells -/
def B8 (s : List Int) : List Value := s.map (Value.int .u8)
@[simp] theorem B8_len (s : List Int) : (B8 s).length = s.length := by simp [B8]
theorem B8_one (s : List Int) : ∀ v ∈ B8 s, v.oneCell' = true := by
  intro v hv
  obtain ⟨x, _, rfl⟩ := List.mem_map.1 hv
  rfl
theorem B8_append (a b : List Int) : B8 (a ++ b) = B8 a ++ B8 b := by simp [B8]
theorem B8_drop (a : List Int) (n : Nat) : B8 (a.drop n) = (B8 a).drop n := by simp [B8]
theorem B8_take (a : List Int) (n : Nat) : B8 (a.take n) = (B8 a).take n := by simp [B8]
theorem B8_zeros (n : Nat) : B8 (List.replicate n 0) = List.replicate n (Value.int .u8 0) := by simp [B8]
def flat (ss : List (List Int)) : List Value := ss.flatMap B8
/-- The first bytes of one part are put anew. -/
theorem flat_head (ss : List (List Int)) (i : Nat) (b old : List Int) (k : Nat) (h : ∀ s ∈ ss, s.length = k) (hb : b.length ≤ k) (hi : i < ss.length) (ho : ss.getD i [] = old) :
    (flat ss).take (i * k) ++ B8 b ++ (flat ss).drop (i * k + b.length) = flat (ss.set i (b ++ old.drop b.length)) := by
  have hl : old.length = k := by
    have : ss.getD i [] = ss[i] := by simp [List.getD, hi]
    rw [← ho, this]; exact h _ (List.getElem_mem hi)
  have hs8 : ∀ s ∈ ss, (B8 s).length = k := fun s hs => by rw [B8_len]; exact h s hs
  have hp := parts_set B8 k ss i (b ++ old.drop b.length) hs8 (by rw [B8_len, List.length_append, List.length_drop, hl]; omega) hi
  rw [show flat (ss.set i (b ++ old.drop b.length)) = (ss.set i (b ++ old.drop b.length)).flatMap B8 from rfl, ← hp, B8_append]
  have hd : (flat ss).drop (i * k + b.length) = B8 (old.drop b.length) ++ (flat ss).drop (i * k + k) := by
    apply List.ext_getElem?
    intro j
    rw [List.getElem?_drop]
    by_cases hj : b.length + j < k
    · rw [show i * k + b.length + j = i * k + (b.length + j) by omega]
      have := parts_at B8 k ss i (b.length + j) [] hs8 hi hj
      rw [ho] at this
      rw [show flat ss = ss.flatMap B8 from rfl, this, List.getElem?_append_left (by rw [B8_len, List.length_drop, hl]; omega), B8_drop, List.getElem?_drop]
    · rw [List.getElem?_append_right (by rw [B8_len, List.length_drop, hl]; omega), List.getElem?_drop, B8_len, List.length_drop, hl]
      congr 1
      omega
  rw [hd]
  simp only [flat, List.append_assoc]

/-! ### A block that is known whole -/
/-- Block g is these cells. -/
def Blk (w : World) (g : Nat) (e : TypeId) (cs : List Value) : Prop := w.heap[g]? = some (.cells cs.toArray e (0, 0))
theorem Blk.lt {w : World} {g : Nat} {e : TypeId} {cs : List Value} (h : Blk w g e cs) : g < w.heap.size := (Array.getElem?_eq_some_iff.1 h).1
theorem Blk.cell {w : World} {g : Nat} {e : TypeId} {cs : List Value} (h : Blk w g e cs) (j : Nat) : w.cell? ⟨g, j, none⟩ = cs[j]? := by
  rw [cell_of_row w g j _ e (0, 0) h]; simp
theorem Blk.free {w : World} {g : Nat} {e : TypeId} {cs : List Value} (h : Blk w g e cs) (j : Nat) : w.frozen? ⟨g, j, none⟩ = false := frozen_of_row w g j _ e h
theorem Blk.keep {bad : Nat → Prop} {w W : World} {g : Nat} {e : TypeId} {cs : List Value} (h : Blk w g e cs) (hk : Keep bad w W) (hb : ¬ bad g) : Blk W g e cs := (hk.2.2.2.2 g h.lt hb).trans h
theorem Blk.below {N : Nat} {w W : World} {g : Nat} {e : TypeId} {cs : List Value} (h : Blk w g e cs) (hk : Below N w W) (hb : g < N) : Blk W g e cs := (hk.block g hb).trans h
theorem Blk.alloc (w : World) (e : TypeId) (cs : Array Value) : Blk (w.alloc (.cells cs e)) w.heap.size e cs.toList := by
  unfold Blk; rw [Array.toArray_toList]; exact heap_alloc_new w _
theorem Blk.range {w : World} {g : Nat} {e : TypeId} {cs : List Value} (h : Blk w g e cs) (o : Nat) (xs : List Value) (hx : ∀ j, j < xs.length → cs[o + j]? = xs[j]?) : w.rangeAt g o xs := fun j v hv => by
  have hj : j < xs.length := (List.getElem?_eq_some_iff.1 hv).1
  rw [h.cell, hx j hj, hv]
theorem Blk.nums {w : World} {g : Nat} {e : TypeId} {cs : List Value} (h : Blk w g e cs) (o c : Nat) (s : List Int) (n : Nat) (hn : n = s.length) (hx : ∀ j, j < s.length → cs[o + j]? = (B8 s)[j]?) : IsNums .u8 w (.slice (some ⟨g, o, none⟩) n c) s := by
  subst hn
  refine ⟨_, c, rfl, .inr ⟨g, o, rfl, h.lt, fun j hj => ?_⟩⟩
  rw [h.cell, hx j hj]
  simp [B8, hj, List.getD]
theorem Keep.setRow {bad : Nat → Prop} {w : World} {g : Nat} (hb : bad g) (cs : Array Value) : Keep bad w (w.setRow g cs) :=
  ⟨rfl, rfl, rfl, by simp [World.setRow], fun k hk hn => setRow_other w g k cs (fun e => hn (by rw [e]; exact hb))⟩
theorem Keep.setCell {bad : Nat → Prop} {w : World} {a : Addr} (hb : bad a.block) (v : Value) : Keep bad w (w.setCell a v) :=
  ⟨rfl, rfl, rfl, by simp [World.setCell], fun k hk hn => Below.heap_setCell w a v k (fun e => hn (by rw [e]; exact hb))⟩
theorem Keep.alloc (bad : Nat → Prop) (w : World) (o : Obj) : Keep bad w (w.alloc o) := Keep.ofBelow ((Below.refl _ w).alloc (Nat.le_refl _) o)
theorem Blk.setCell {w : World} {g : Nat} {e : TypeId} {cs : List Value} (h : Blk w g e cs) (j : Nat) (v : Value) : Blk (w.setCell ⟨g, j, none⟩ v) g e (cs.set j v) := by
  unfold Blk
  rw [setCell_eq_setRow w g j _ e (0, 0) v h, setRow_heap w g _ _ e _ h]
  simp

theorem run_storeVar_blk {P : Program} {w : World} {g : Nat} {e : TypeId} {cs : List Value} (h : Blk w g e cs) (o : Nat) (ty : TypeId) (xs : List Value) (hfit : o + xs.length ≤ cs.length)
    (hi : (P.info? ty).map (·.size) = some xs.length) (h1 : ∀ v ∈ xs, v.oneCell' = true) :
    ∃ w', (Instr.storeAt ty (.pointer (some ⟨g, o, none⟩)) (.agg xs.toArray)).run P w = .ok () w' ∧ Blk w' g e (cs.take o ++ xs ++ cs.drop (o + xs.length)) ∧ ∀ bad : Nat → Prop, bad g → Keep bad w w' := by
  have hst := run_storeCells_at P g o e xs 0 cs.toArray w h (by simpa using hfit) h1
  cases hq : P.info? ty with
  | none => simp [hq] at hi
  | some i =>
    have hs : xs.length = i.size := by simp [hq] at hi; omega
    refine ⟨w.setRow g (cs.take o ++ xs ++ cs.drop (o + xs.length)).toArray, ?_, ?_, fun bad hb => Keep.setRow hb _⟩
    · rw [Nat.add_zero] at hst
      have hst' : (storeCells ⟨g, o, none⟩ xs 0).run P w = .ok () (w.setRow g (cs.take o ++ xs ++ cs.drop (o + xs.length)).toArray) := by rw [hst]
      simp only [Instr.storeAt, Instr.sureAddr, Sem.run_bind, Sem.run_pure, Result.andThen_ok]
      simp [storeVar, sizeOf, typeInfo, hq, Value.cells, ← hs, hst']
    · unfold Blk
      rw [setRow_heap w g _ _ e _ h]

theorem IsNums.keepAt {k : IntKind} {bad : Nat → Prop} {w W : World} {b o n c : Nat} {zs : List Int} (h : IsNums k w (.slice (some ⟨b, o, none⟩) n c) zs) (hk : Keep bad w W) (hb : ¬ bad b) : IsNums k W (.slice (some ⟨b, o, none⟩) n c) zs := by
  obtain ⟨a, c', e1, h0 | ⟨b', off, e2, h7, h8⟩⟩ := h
  · exact ⟨a, c', e1, .inl h0⟩
  · refine ⟨a, c', e1, .inr ⟨b', off, e2, Nat.lt_of_lt_of_le h7 hk.size, fun j hj => ?_⟩⟩
    injection e1 with e1
    subst e1
    injection e2 with e2
    injection e2 with e2 e3
    subst e2
    rw [hk.cell hb h7]
    exact h8 j hj

/-! ### What a literal of a struct lays -/
theorem fold_put (off : Nat) : ∀ (xs : List Value) (k : Nat) (cells : List Value), off + k + xs.length ≤ cells.length →
    (xs.zipIdx k).foldl (fun (cs : Array Value) (p : Value × Nat) => cs.setIfInBounds (off + p.2) p.1) cells.toArray = (cells.take (off + k) ++ xs ++ cells.drop (off + k + xs.length)).toArray
  | [], k, cells, h => by simp
  | x :: xs, k, cells, h => by
    rw [List.zipIdx_cons, List.foldl_cons]
    simp only [List.setIfInBounds_toArray]
    simp only [List.length_cons] at h
    rw [fold_put off xs (k + 1) (cells.set (off + k) x) (by simp; omega)]
    have e := list_seg_step cells (off + k) x xs (by omega)
    rw [show off + (k + 1) = off + k + 1 by omega, e]
    simp [Nat.add_assoc, Nat.add_comm 1]
theorem fill_agg (place : Nat → Option (Nat × Nat)) (cells : List Value) (i off : Nat) (xs : List Value) (rest : List (Nat × Value)) (hp : place i = some (off, xs.length)) (hf : off + xs.length ≤ cells.length) :
    Instr.fill place cells.toArray ((i, .agg xs.toArray) :: rest) = Instr.fill place (cells.take off ++ xs ++ cells.drop (off + xs.length)).toArray rest := by
  have h := fold_put off xs 0 cells (by omega)
  have hc : (Value.agg xs.toArray).cells = xs.toArray := rfl
  have n1 : ¬ cells.length < off + xs.length := by omega
  rw [Instr.fill, hp, hc]
  simp only [List.size_toArray, ne_eq, not_true_eq_false, decide_false, Bool.false_or, decide_eq_true_eq, gt_iff_lt, if_neg n1]
  congr 1
  rw [← Array.foldl_toList, Array.toList_zipIdx]
  simpa using h

/-- A slice that reads as these numbers, none of whose cells lies in a bad block. -/
def NumsOff (bad : Nat → Prop) (w : World) (v : Value) (zs : List Int) : Prop :=
  ∃ a c, v = .slice a zs.length c ∧ (zs.length = 0 ∨ ∃ b off, a = some ⟨b, off, none⟩ ∧ b < w.heap.size ∧ ¬ bad b ∧ ∀ j, j < zs.length → w.cell? ⟨b, off + j, none⟩ = some (.int .u8 (zs.getD j 0)))
theorem NumsOff.nums {bad : Nat → Prop} {w : World} {v : Value} {zs : List Int} (h : NumsOff bad w v zs) : IsNums .u8 w v zs := by
  obtain ⟨a, c, rfl, h | ⟨b, off, rfl, h1, h2, h3⟩⟩ := h
  · exact ⟨a, c, rfl, .inl h⟩
  · exact ⟨_, c, rfl, .inr ⟨b, off, rfl, h1, h3⟩⟩
theorem NumsOff.keep {bad bad' : Nat → Prop} {w W : World} {v : Value} {zs : List Int} (h : NumsOff bad w v zs) (hk : Keep bad' w W) (hb : ∀ k, bad' k → bad k) : NumsOff bad W v zs := by
  obtain ⟨a, c, rfl, h | ⟨b, off, rfl, h1, h2, h3⟩⟩ := h
  · exact ⟨a, c, rfl, .inl h⟩
  · exact ⟨_, c, rfl, .inr ⟨b, off, rfl, Nat.lt_of_lt_of_le h1 hk.size, h2, fun j hj => by rw [hk.cell (fun hh => h2 (hb _ hh)) h1]; exact h3 j hj⟩⟩
theorem NumsOff.mono {bad bad' : Nat → Prop} {w : World} {v : Value} {zs : List Int} (h : NumsOff bad w v zs) (hb : ∀ k, k < w.heap.size → bad' k → bad k) : NumsOff bad' w v zs := by
  obtain ⟨a, c, rfl, h | ⟨b, off, rfl, h1, h2, h3⟩⟩ := h
  · exact ⟨a, c, rfl, .inl h⟩
  · exact ⟨_, c, rfl, .inr ⟨b, off, rfl, h1, fun hh => h2 (hb _ h1 hh), h3⟩⟩
theorem NumsOff.nil (bad : Nat → Prop) (w : World) (a : Option Addr) (c : Nat) : NumsOff bad w (.slice a 0 c) [] := ⟨a, c, rfl, .inl rfl⟩
theorem NumsOff.of {bad : Nat → Prop} {w : World} {v : Value} {zs : List Int} (h : IsNums .u8 w v zs) (hb : ∀ k, k < w.heap.size → ¬ bad k) : NumsOff bad w v zs := by
  obtain ⟨a, c, rfl, h | ⟨b, off, rfl, h1, h3⟩⟩ := h
  · exact ⟨a, c, rfl, .inl h⟩
  · exact ⟨_, c, rfl, .inr ⟨b, off, rfl, h1, hb b h1, h3⟩⟩
theorem NumsOff.below {bad : Nat → Prop} {N : Nat} {w W : World} {v : Value} {zs : List Int} (h : IsNums .u8 w v zs) (hW : Below w.heap.size w W) (hb : ∀ k, bad k → w.heap.size ≤ k) : NumsOff bad W v zs := by
  obtain ⟨a, c, rfl, h | ⟨b, off, rfl, h1, h3⟩⟩ := h
  · exact ⟨a, c, rfl, .inl h⟩
  · exact ⟨_, c, rfl, .inr ⟨b, off, rfl, Nat.lt_of_lt_of_le h1 hW.size, fun hh => by have := hb b hh; omega, fun j hj => by rw [hW.cell h1]; exact h3 j hj⟩⟩

section
variable {P : Program} {ops : Array Oper} {rest : List Oper} {op : Oper} {a : Act} {w : World} {Q : Exit → Act → World → Prop} {K : Act → World → Prop}

theorem wp_store_blk {g : Nat} {e : TypeId} {cs : List Value} (h : Blk w g e cs) (ty : TypeId) (x y : Operand) (ho : op.op = .store ty x y)
    (o : Nat) (xs : List Value) (hx : a.eval x = .pointer (some ⟨g, o, none⟩)) (hy : a.eval y = .agg xs.toArray) (hfit : o + xs.length ≤ cs.length)
    (hi : (P.info? ty).map (·.size) = some xs.length) (h1 : ∀ v ∈ xs, v.oneCell' = true)
    (hK : ∀ w', Blk w' g e (cs.take o ++ xs ++ cs.drop (o + xs.length)) → (∀ bad : Nat → Prop, bad g → Keep bad w w') → K (a.put op.dst undef) w') : op.wp P a w K Q := by
  obtain ⟨w', hr, hb, hk⟩ := run_storeVar_blk (P := P) h o ty xs hfit hi h1
  unfold Oper.wp execOp
  simp only [ho, hx, hy, Sem.run_bind, hr, Result.andThen_ok]
  exact hK w' hb hk

theorem wpList_store_blk {g : Nat} {e : TypeId} {cs : List Value} (hgd : op.guard = none) (h : Blk w g e cs) (ty : TypeId) (x y : Operand) (ho : op.op = .store ty x y)
    (o : Nat) (xs : List Value) (hx : a.eval x = .pointer (some ⟨g, o, none⟩)) (hy : a.eval y = .agg xs.toArray) (hfit : o + xs.length ≤ cs.length)
    (hi : (P.info? ty).map (·.size) = some xs.length) (h1 : ∀ v ∈ xs, v.oneCell' = true)
    (hK : ∀ w', Blk w' g e (cs.take o ++ xs ++ cs.drop (o + xs.length)) → (∀ bad : Nat → Prop, bad g → Keep bad w w') → wpList P ops Q rest (a.put op.dst undef) w') : wpList P ops Q (op :: rest) a w :=
  wpList_plain hgd fun K' hK' => wp_store_blk h ty x y ho o xs hx hy hfit hi h1 (fun w' h1 h2 => hK' _ _ (hK w' h1 h2))
/-- The laws in a form that fits by its letters alone. -/
theorem wpList_loadM {d : Option Tmp} {ty tt : TypeId} {pos : String} {af : Array Edge} (x : Operand) (b o : Nat) (cs : List Value) (td : TypeDesc) (hc : w.rangeAt b o cs)
    (hu : P.underlying ty = some td) (hd : td.isRow = true) (hi : (P.info? ty).map (·.size) = some cs.length) (hx : a.eval x = .pointer (some ⟨b, o, none⟩))
    (h : wpList P ops Q rest (a.put d (.agg cs.toArray)) w) : wpList P ops Q (⟨d, .load ty x, tt, pos, af, none⟩ :: rest) a w :=
  wpList_load_mid rfl ty x rfl b o hx cs td hc hu hd hi h

/-- 'copy(v, u)', v a part of a block that is known, u any bytes that lie elsewhere. -/
theorem run_copy_blk {w : World} {g : Nat} {e : TypeId} {cs : List Value} (h : Blk w g e cs) (o n cap : Nat) (u : Value) (zs : List Int) (hu : IsNums .u8 w u zs) (hz : zs.length ≤ n) (hfit : o + zs.length ≤ cs.length)
    (dT sT ty elem : TypeId) (ht : P.underlying dT = some (.slice elem)) (hs : (P.info? elem).map (·.size) = some 1) :
    ∃ w', (Builtin.copy_ #[dT, sT] ty #[.slice (some ⟨g, o, none⟩) n cap, u]).run P w = .ok (goInt zs.length) w' ∧ Blk w' g e (cs.take o ++ B8 zs ++ cs.drop (o + zs.length)) ∧ ∀ bad : Nat → Prop, bad g → Keep bad w w' := by
  obtain ⟨a, c, rfl, hz0 | ⟨b, off, rfl, hlt, hc⟩⟩ := hu
  · obtain rfl := List.length_eq_zero_iff.1 hz0
    refine ⟨w, by rw [run_copy_none w dT sT ty elem _ _ _ _ _ _ ht hs (by simp)]; rfl, ?_, fun bad _ => Keep.refl _ _⟩
    simpa [B8] using h
  · refine ⟨w.setRow g (cs.take o ++ B8 zs ++ cs.drop (o + zs.length)).toArray, ?_, ?_, fun bad hb => Keep.setRow hb _⟩
    · have hr := run_copy_row (P := P) w dT sT ty elem g o n cap ⟨b, off, none⟩ zs.length c cs.toArray e (B8 zs) ht hs h (by rw [B8_len]; exact (Nat.min_eq_left hz).symm)
        (by
          intro j v hv
          have hj : j < zs.length := by have := (List.getElem?_eq_some_iff.1 hv).1; rwa [B8_len] at this
          rw [Addr.add_lit, hc j hj, ← hv]
          simp [B8, hj, List.getD]) (by rw [B8_len]; simpa using hfit) (B8_one zs)
      rw [B8_len] at hr
      exact hr
    · unfold Blk
      rw [setRow_heap w g _ _ e _ h]

theorem wp_copyB {op : Oper} {g : Nat} {e : TypeId} {cs : List Value} (h : Blk w g e cs) (x y : Operand) (dT sT : TypeId) (ho : op.op = .call { callee := .builtin .copy, args := #[x, y], argTypes := #[dT, sT] }) (o n cap : Nat) (u : Value) (zs : List Int) (hu : IsNums .u8 w u zs) (hz : zs.length ≤ n) (hfit : o + zs.length ≤ cs.length)
    (elem : TypeId) (ht : P.underlying dT = some (.slice elem)) (hs : (P.info? elem).map (·.size) = some 1) (hx : a.eval x = .slice (some ⟨g, o, none⟩) n cap) (hy : a.eval y = u)
    (hK : ∀ w', Blk w' g e (cs.take o ++ B8 zs ++ cs.drop (o + zs.length)) → (∀ bad : Nat → Prop, bad g → Keep bad w w') → K (a.put op.dst (goInt zs.length)) w') : op.wp P a w K Q := by
  obtain ⟨w', hrun, h1, h2⟩ := run_copy_blk (P := P) h o n cap u zs hu hz hfit dT sT op.type elem ht hs
  unfold Oper.wp
  simp [execOp, ho, resolve, invoke, builtin, hx, hy, hrun, Result.andThen]
  exact hK w' h1 h2

theorem wpList_copyB {g : Nat} {e : TypeId} {cs : List Value} (h : Blk w g e cs) {d : Option Tmp} {tt : TypeId} {pos : String} {af : Array Edge} (x y : Operand) (dT sT : TypeId) (o n cap : Nat) (u : Value) (zs : List Int) (hu : IsNums .u8 w u zs) (hz : zs.length ≤ n) (hfit : o + zs.length ≤ cs.length)
    (elem : TypeId) (ht : P.underlying dT = some (.slice elem)) (hs : (P.info? elem).map (·.size) = some 1) (hx : a.eval x = .slice (some ⟨g, o, none⟩) n cap) (hy : a.eval y = u)
    (hK : ∀ w', Blk w' g e (cs.take o ++ B8 zs ++ cs.drop (o + zs.length)) → (∀ bad : Nat → Prop, bad g → Keep bad w w') → wpList P ops Q rest (a.put d (goInt zs.length)) w') :
    wpList P ops Q (⟨d, .call { callee := .builtin .copy, args := #[x, y], argTypes := #[dT, sT] }, tt, pos, af, none⟩ :: rest) a w := by
  refine wpList_plain rfl fun K' hK' => ?_
  obtain ⟨w', hrun, h1, h2⟩ := run_copy_blk (P := P) h o n cap u zs hu hz hfit dT sT tt elem ht hs
  unfold Oper.wp
  simp [execOp, resolve, invoke, builtin, hx, hy, hrun, Result.andThen]
  exact hK' _ _ (hK w' h1 h2)

/-- 'T{..}' whose cells are known. -/
theorem wpList_buildM {d : Option Tmp} {ty tt : TypeId} {pos : String} {af : Array Edge} (parts : Array (Nat × Operand)) (cells : List Value) (pl : List (Nat × Value)) (hf : P.built ty pl = some cells.toArray) (hp : parts.toList.map (fun x => (x.1, a.eval x.2)) = pl)
    (h : wpList P ops Q rest (a.put d (.agg cells.toArray)) w) : wpList P ops Q (⟨d, .build ty parts, tt, pos, af, none⟩ :: rest) a w :=
  wpList_buildTo rfl ty parts rfl d rfl cells.toArray (by rw [Array.toList_map]; rw [← hp] at hf; exact hf) h

/-- 'var x T', of many cells. -/
theorem wpList_allocM {d : Option Tmp} {ty tt : TypeId} {pos : String} {af : Array Edge} (z : List Value) (hz : (P.info? ty).bind (·.zero) = some (.agg z.toArray))
    (h : wpList P ops Q rest (a.put d (.pointer (some ⟨w.heap.size, 0, none⟩))) (w.alloc (.cells z.toArray ty))) : wpList P ops Q (⟨d, .alloc ty, tt, pos, af, none⟩ :: rest) a w := by
  cases hi : P.info? ty with
  | none => simp [hi] at hz
  | some i =>
    have hz2 : i.zero = some (.agg z.toArray) := by simpa [hi] using hz
    refine wpList_plain rfl fun K' hK' => ?_
    unfold Oper.wp
    simp [execOp, Instr.alloc, zeroValue, typeInfo, hi, hz2, newVar, Value.cells, Result.andThen]
    exact hK' _ _ h

/-- A new variable is filled at once. -/
theorem wpList_storeN {w0 : World} {e : TypeId} {C : Array Value} {d : Option Tmp} {ty tt : TypeId} {pos : String} {af : Array Edge} (x y : Operand)
    (xs : List Value) (h1 : ∀ v ∈ xs, v.oneCell' = true) (hi : (P.info? ty).map (·.size) = some xs.length) (hx : a.eval x = .pointer (some ⟨w0.heap.size, 0, none⟩)) (hy : a.eval y = .agg xs.toArray) (hfit : xs.length = C.size)
    (hK : ∀ w', Blk w' w0.heap.size e xs → Below w0.heap.size w0 w' → w'.heap.size = w0.heap.size + 1 → wpList P ops Q rest (a.put d undef) w') : wpList P ops Q (⟨d, .store ty x y, tt, pos, af, none⟩ :: rest) a (w0.alloc (.cells C e)) := by
  have h0 := Blk.alloc w0 e C
  have hlt : C.toList.length = C.size := Array.length_toList
  have hsz : (w0.alloc (.cells C e)).heap.size = w0.heap.size + 1 := by simp
  obtain ⟨w', hr, hb, hk⟩ := run_storeVar_blk (P := P) h0 0 ty xs (by omega) hi h1
  have hs2 : w' = (w0.alloc (.cells C e)).setRow w0.heap.size xs.toArray := by
    have hst := run_storeCells_at P w0.heap.size 0 e xs 0 C (w0.alloc (.cells C e)) (heap_alloc_new w0 _) (by omega) h1
    cases hq : P.info? ty with
    | none => simp [hq] at hi
    | some i =>
      have hs : xs.length = i.size := by simp [hq] at hi; omega
      have e2 : (C.toList.take (0 + 0) ++ xs ++ C.toList.drop (0 + 0 + xs.length)).toArray = xs.toArray := by
        rw [List.drop_of_length_le (by omega)]; simp
      rw [e2] at hst
      simp only [Instr.storeAt, Instr.sureAddr, Sem.run_bind, Sem.run_pure, Result.andThen_ok] at hr
      simp [storeVar, sizeOf, typeInfo, hq, Value.cells, ← hs, hst] at hr
      exact hr.symm
  refine wpList_plain rfl fun K' hK' => ?_
  unfold Oper.wp execOp
  simp only [hx, hy, Sem.run_bind, hr, Result.andThen_ok]
  refine hK' _ _ (hK w' ?_ ((((Below.refl _ w0).alloc (Nat.le_refl _) _)).trans ((hk (fun k => k = w0.heap.size) rfl).below (by rintro k rfl; exact Nat.le_refl _) (by rw [hsz]; omega))) ?_)
  · rw [List.take_zero, List.nil_append, List.drop_of_length_le (by omega), List.append_nil] at hb
    exact hb
  · rw [hs2]
    simp [World.setRow]
end
end Go.Proofs.Ytocfbocdnklllaa.K
