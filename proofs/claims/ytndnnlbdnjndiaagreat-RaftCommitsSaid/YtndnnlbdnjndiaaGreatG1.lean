/- General laws of walks. -/
import Derived.Test.YtndnnlbdnjndiaaGreatRows
import Derived.WalkKit
import Derived.ProofKit
import Derived.OpenShut
import Derived.IntWalk
import Derived.WalkLawsBesides
import Derived.WalkSpells
import Derived.Handy
import Derived.LoopTactic
import Derived.Lib.Hide
import Derived.OwnWalk
import Derived.Laws.AppendOwnNone
import Derived.Laws.BytesArg
import Derived.Laws.BitsLemmas
import Derived.Lib.AppendZerosOnto
import Derived.Lib.AppendZeros
import Derived.Lib.SliceRun
import Derived.OrdersHeld
import Derived.Deep.RegionHeld
import Derived.Deep.MidRow
import Derived.Laws.CopyOwn
import Derived.Great.BuildSlice
import Derived.StillTail
import Derived.Deep.LoopGhost
import Derived.Great.FillDense
import Derived.Lib.SlBytesConst
import Derived.Deep.Slices
import Derived.SizedLaws
namespace Go.Proofs.YtndnnlbdnjndiaaGreat.K
open Go.ChangeShapes Go.WideShapes Go.ChangeAt Go.RowKit
set_option linter.unusedVariables false
set_option linter.unusedSimpArgs false
section
theorem ret_int {k : IntKind} {a b : Int} (h : a = b) : Ending.returned (.int k a) = .returned (.int k b) := by rw [h]
theorem ret_bool {a b : Bool} (h : a = b) : Ending.returned (.bool a) = .returned (.bool b) := by rw [h]

def IsNums (k : IntKind) (w : World) (v : Value) (zs : List Int) : Prop :=
 ∃ a c, v = .slice a zs.length c ∧ (zs.length = 0 ∨ ∃ b off, a = some ⟨b, off, none⟩ ∧ b < w.heap.size ∧ ∀ j, j < zs.length → w.cell? ⟨b, off + j, none⟩ = some (.int k (zs.getD j 0)))

theorem IsNums.nil (k : IntKind) (w : World) (a : Option Addr) (c : Nat) : IsNums k w (.slice a 0 c) [] := ⟨a, c, rfl, .inl rfl⟩

theorem IsNums.below {k : IntKind} {B : Nat} {w w' : World} {v : Value} {zs : List Int} (h : IsNums k w v zs) (hb : Below B w w') (hB : w.heap.size ≤ B) : IsNums k w' v zs := by
 obtain ⟨a, c, rfl, h | ⟨b, off, rfl, h1, h2⟩⟩ := h
 · exact ⟨a, c, rfl, .inl h⟩
 · refine ⟨_, c, rfl, .inr ⟨b, off, rfl, by have := hb.size; omega, fun j hj => ?_⟩⟩
   rw [hb.cell (by show b < B; omega)]
   exact h2 j hj

theorem IsNums.alloc {k : IntKind} {w : World} {v : Value} {zs : List Int} (h : IsNums k w v zs) (o : Obj) : IsNums k (w.alloc o) v zs :=
 h.below ((Below.refl w.heap.size w).alloc (Nat.le_refl _) o) (Nat.le_refl _)

theorem IsNums.ofOwn {k : IntKind} {w : World} {B : Nat} {e : TypeId} {v : Value} {n : Nat} {zs : List Int} (h : w.ownsRow B e 1 v n (zs.map (Value.int k))) : IsNums k w v zs := by
 have hn : n = zs.length := by have := h.1; simpa using this.symm
 subst hn
 rcases h.2 with ⟨rfl, h0⟩ | ⟨g, cap, cur, rfl, hg, hb, h1, h2, h3, h4⟩
 · obtain rfl := List.length_eq_zero_iff.1 h0; exact IsNums.nil k w none 0
 · refine ⟨_, cap, rfl, .inr ⟨g, 0, rfl, (Array.getElem?_eq_some_iff.1 hb).1, fun j hj => ?_⟩⟩
   have := h.cellAt j (by omega)
   rw [Nat.zero_add, this]
   simp [hj, List.getD]

theorem IsNums.ofRow {k : IntKind} {w : World} {a : Option Addr} {len cap : Nat} {zs : List Int}
   (h : (a = none ∧ len = 0 ∧ cap = 0 ∧ zs = []) ∨ ∃ x, a = some x ∧ len ≤ cap ∧ cap ≤ maxLen ∧ zs.length = cap ∧ (∀ i, i < zs.length → w.cell? (x.add i) = some (.int k (zs.getD i 0))) ∧ ∀ n ∈ zs, (Lit.int k n).wf = true) :
   ∃ ys, IsNums k w (.slice a len cap) ys ∧ ys.length = len ∧ len ≤ maxLen ∧ ∀ n ∈ ys, (Lit.int k n).wf = true := by
 rcases h with ⟨rfl, rfl, rfl, rfl⟩ | ⟨x, rfl, hl, hm, hz, hcell, hwf⟩
 · exact ⟨[], IsNums.nil _ _ _ _, rfl, Nat.zero_le _, by simp⟩
 · refine ⟨zs.take len, ?_, by simp; omega, Nat.le_trans hl hm, fun n hn => hwf n (List.mem_of_mem_take hn)⟩
   have hlen : (zs.take len).length = len := by simp; omega
   refine ⟨some x, cap, by rw [hlen], ?_⟩
   by_cases h0 : len = 0
   · left; rw [hlen]; exact h0
   · obtain ⟨b, off, spot⟩ := x
     have hc := hcell 0 (by omega)
     have hspot : spot = none := by simpa [Addr.add] using World.cell?_spot hc
     subst hspot
     refine .inr ⟨b, off, rfl, ?_, fun j hj => ?_⟩
     · exact World.block_lt_of_cell? w _ hc
     · have h5 := hcell j (by omega)
       rw [show (Addr.add ⟨b, off, none⟩ j) = ⟨b, off + j, none⟩ by simp [Addr.add]] at h5
       rw [h5]
       simp only [List.getD, List.getElem?_take]
       rw [if_pos (by omega)]

theorem wpList_app1 {P : Program} {ops : Array Oper} {rest : List Oper} {o : Oper} {a : Act} {Q : Exit → Act → World → Prop} {w : World} (hgd : o.guard = none) (s x : Operand) (t : TypeId)
   (ho : o.op = .call { callee := .builtin .append, args := #[s, x], argTypes := #[t, t] })
   (base : Nat) (e : TypeId) (k : IntKind) (bytes : Nat) (ht : P.underlying t = some (.slice e)) (hi : (P.info? e).map (fun i => (i.zero, i.size, i.bytes)) = some (some (.int k 0), 1, bytes)) (hb8 : bytes ≤ 8)
   (v : Value) (n : Nat) (xs : List Value) (hs : a.eval s = v) (hown : w.ownsRow base e 1 v n xs)
   (X : Int) (c : Nat) (hx : a.eval x = .slice (some ⟨w.heap.size, 0, none⟩) 1 c) (hn : n ≤ 1000000000) (hbase : base ≤ w.heap.size)
   (h : ∀ v' w', w'.ownsRow base e 1 v' (n + 1) (xs ++ [.int k X]) → Below base w w' → wpList P ops Q rest (a.put o.dst v') w') : wpList P ops Q (o :: rest) a (w.alloc (.cells #[.int k X] e)) := by
 obtain ⟨i0, hi, hz0, hz1, hz2⟩ := info_parts hi
 have hbn : (n + 1) * bytes ≤ 140737488355328 := Nat.le_trans (Nat.mul_le_mul_left _ hb8) (by omega)
 refine wpList_append_own _ hgd s x t ho base e i0 (.int k 0) 1 bytes ht hi hz0 hz1 hz2 rfl (by decide) v n xs hs (hown.alloc _) ⟨w.heap.size, 0, none⟩ 1 c [.int k X] hx rfl ?_ (by intro u hu; simp at hu; subst hu; rfl) (by unfold maxLen; omega) hbn (by simp; omega) ?_
 · intro j u hj
   rcases j with _ | j
   · simp at hj; subst hj
     unfold World.cell? World.alloc; simp [Addr.add]
   · simp at hj
 · intro v' w' h1 h2 _
   refine h v' w' h1 (((Below.refl _ w).alloc hbase _).grown h2 (by simp; omega) (fun j hj => ?_))
   exact (hown.lt j hj).1
end
section
theorem run_app_none {P : Program} {w : World} {base : Nat} {t ty e : TypeId} {i : TypeInfo} {size : Nat} (ht : P.underlying t = some (.slice e)) (hi : P.info? e = some i) {v : Value} {n : Nat} {xs : List Value} (hown : w.ownsRow base e size v n xs) (c : Nat) :
   (Builtin.append_ #[t, t] ty #[v, .slice none 0 c]).run P w = .ok v w := by
 rcases hown.2 with ⟨rfl, rfl⟩ | ⟨g, cap, cur, rfl, _, _, hle, _, _, _⟩
 · simp [Builtin.append_, run_underlying ht, sizeOf, typeInfo, hi, Builtin.lenOf, Builtin.firstCells]
 · have hnc : ¬ cap < n := by omega
   simp [Builtin.append_, run_underlying ht, sizeOf, typeInfo, hi, Builtin.lenOf, Builtin.firstCells, hnc, storeCells]

theorem conv_str {P : Program} {w : World} {v : Value} {bs : List Int} (h : IsNums .u8 w v bs) (src e : TypeId) (hs : P.underlying src = some (.slice e)) (he : P.underlying e = some (.int .u8)) :
   ∀ dst, P.underlying dst = some .string → (convert src dst v).run P w = .ok (.string (strOfNums bs)) w := by
 intro dst hd
 obtain ⟨p, c, rfl, hp⟩ := h
 by_cases h0 : bs.length = 0
 · obtain rfl := List.length_eq_zero_iff.1 h0
   cases p with
   | none => exact run_convert_bytes_nil w src e hs he _ _ dst hd
   | some ad =>
     have hl : (loadCells ad 0).run P w = .ok ([] : List Value).toArray w := run_loadCells_list (P := P) w ad [] (by simp)
     show (convert src dst (.slice (some ad) 0 c)).run P w = _
     rw [run_convert_bytes_string w src dst e _ 0 c hs he hd, run_bytesToString w _ 0 c [] (by simpa using hl)]
     rfl
 · rcases hp with hp | ⟨b, off, rfl, hblk, hc⟩
   · exact absurd hp h0
   · exact run_convert_bytes_arg w src e hs he b off bs.length c bs rfl hc dst hd
end
section
section
variable {P : Program} {ops : Array Oper} {Q : Exit → Act → World → Prop} {md : Region.Mode}

def Ext (w W : World) : Prop := Below w.heap.size w W

end
end
section
def Keep (bad : Nat → Prop) (w W : World) : Prop := W.os = w.os ∧ W.tape = w.tape ∧ W.output = w.output ∧ w.heap.size ≤ W.heap.size ∧ ∀ k, k < w.heap.size → ¬ bad k → W.heap[k]? = w.heap[k]?
theorem Keep.refl (bad : Nat → Prop) (w : World) : Keep bad w w := ⟨rfl, rfl, rfl, Nat.le_refl _, fun _ _ _ => rfl⟩
theorem Keep.trans {bad : Nat → Prop} {a b c : World} (h : Keep bad a b) (k : Keep bad b c) : Keep bad a c :=
 ⟨k.1.trans h.1, k.2.1.trans h.2.1, k.2.2.1.trans h.2.2.1, Nat.le_trans h.2.2.2.1 k.2.2.2.1, fun i hi hn => (k.2.2.2.2 i (Nat.lt_of_lt_of_le hi h.2.2.2.1) hn).trans (h.2.2.2.2 i hi hn)⟩
theorem Keep.mono {bad bad' : Nat → Prop} {w W : World} (h : Keep bad' w W) (hb : ∀ k, bad' k → bad k) : Keep bad w W := ⟨h.1, h.2.1, h.2.2.1, h.2.2.2.1, fun i hi hn => h.2.2.2.2 i hi (fun hb' => hn (hb i hb'))⟩
theorem Keep.ofBelow {bad : Nat → Prop} {w W : World} (h : Below w.heap.size w W) : Keep bad w W := ⟨h.os, h.tape, h.output, h.size, fun k hk _ => h.block k hk⟩
theorem Keep.below {bad : Nat → Prop} {N : Nat} {w W : World} (h : Keep bad w W) (hb : ∀ k, bad k → N ≤ k) (hN : N ≤ w.heap.size) : Below N w W :=
 ⟨h.1, h.2.1, h.2.2.1, h.2.2.2.1, fun k hk => h.2.2.2.2 k (by omega) (fun hbk => by have := hb k hbk; omega)⟩
theorem Keep.cell {bad : Nat → Prop} {w W : World} (h : Keep bad w W) {p : Addr} (hn : ¬ bad p.block) (hp : p.block < w.heap.size) : W.cell? p = w.cell? p := World.cell?_of_block (w := w) (h.2.2.2.2 p.block hp hn)
theorem Keep.frozen {bad : Nat → Prop} {w W : World} (h : Keep bad w W) {p : Addr} (hn : ¬ bad p.block) (hp : p.block < w.heap.size) : W.frozen? p = w.frozen? p := World.frozen?_of_block (w := w) (h.2.2.2.2 p.block hp hn)
theorem Keep.size {bad : Nat → Prop} {w W : World} (h : Keep bad w W) : w.heap.size ≤ W.heap.size := h.2.2.2.1

section
variable {P : Program} {ops : Array Oper} {Q : Exit → Act → World → Prop} {md : Region.Mode} {w0 : World} {bad : Nat → Prop}

end
end
section
/-! ### Lists of parts of one length -/
theorem parts_len {α : Type} (f : α → List Value) (k : Nat) : ∀ (l : List α), (∀ s ∈ l, (f s).length = k) → (l.flatMap f).length = l.length * k
 | [], _ => by simp
 | a :: l, h => by
   rw [List.flatMap_cons, List.length_append, h a (by simp), parts_len f k l (fun s hs => h s (by simp [hs])), List.length_cons, Nat.add_mul]
   omega
/-! ### Bytes as cells -/
def B8 (s : List Int) : List Value := s.map (Value.int .u8)
def flat (ss : List (List Int)) : List Value := ss.flatMap B8
/-! ### A block that is known whole -/
def Blk (w : World) (g : Nat) (e : TypeId) (cs : List Value) : Prop := w.heap[g]? = some (.cells cs.toArray e (0, 0))
theorem Blk.lt {w : World} {g : Nat} {e : TypeId} {cs : List Value} (h : Blk w g e cs) : g < w.heap.size := (Array.getElem?_eq_some_iff.1 h).1
theorem Blk.cell {w : World} {g : Nat} {e : TypeId} {cs : List Value} (h : Blk w g e cs) (j : Nat) : w.cell? ⟨g, j, none⟩ = cs[j]? := by
 rw [cell_of_row w g j _ e (0, 0) h]; simp
theorem Blk.free {w : World} {g : Nat} {e : TypeId} {cs : List Value} (h : Blk w g e cs) (j : Nat) : w.frozen? ⟨g, j, none⟩ = false := frozen_of_row w g j _ e h
theorem Blk.keep {bad : Nat → Prop} {w W : World} {g : Nat} {e : TypeId} {cs : List Value} (h : Blk w g e cs) (hk : Keep bad w W) (hb : ¬ bad g) : Blk W g e cs := (hk.2.2.2.2 g h.lt hb).trans h
theorem Blk.below {N : Nat} {w W : World} {g : Nat} {e : TypeId} {cs : List Value} (h : Blk w g e cs) (hk : Below N w W) (hb : g < N) : Blk W g e cs := (hk.block g hb).trans h
theorem Blk.alloc (w : World) (e : TypeId) (cs : Array Value) : Blk (w.alloc (.cells cs e)) w.heap.size e cs.toList := by
 unfold Blk; rw [Array.toArray_toList]; exact heap_alloc_new w _
theorem Blk.range {w : World} {g : Nat} {e : TypeId} {cs : List Value} (h : Blk w g e cs) (o : Nat) (xs : List Value) (hx : ∀ j, j < xs.length → cs[o + j]? = xs[j]?) : w.rangeAt g o xs := fun j v hv => by
 have hj : j < xs.length := (List.getElem?_eq_some_iff.1 hv).1
 rw [h.cell, hx j hj, hv]
theorem Blk.nums {w : World} {g : Nat} {e : TypeId} {cs : List Value} (h : Blk w g e cs) (o c : Nat) (s : List Int) (n : Nat) (hn : n = s.length) (hx : ∀ j, j < s.length → cs[o + j]? = (B8 s)[j]?) : IsNums .u8 w (.slice (some ⟨g, o, none⟩) n c) s := by
 subst hn
 refine ⟨_, c, rfl, .inr ⟨g, o, rfl, h.lt, fun j hj => ?_⟩⟩
 rw [h.cell, hx j hj]
 simp [B8, hj, List.getD]
theorem Keep.setRow {bad : Nat → Prop} {w : World} {g : Nat} (hb : bad g) (cs : Array Value) : Keep bad w (w.setRow g cs) :=
 ⟨rfl, rfl, rfl, by simp [World.setRow], fun k hk hn => setRow_other w g k cs (fun e => hn (by rw [e]; exact hb))⟩
theorem Keep.alloc (bad : Nat → Prop) (w : World) (o : Obj) : Keep bad w (w.alloc o) := Keep.ofBelow ((Below.refl _ w).alloc (Nat.le_refl _) o)
theorem run_storeVar_blk {P : Program} {w : World} {g : Nat} {e : TypeId} {cs : List Value} (h : Blk w g e cs) (o : Nat) (ty : TypeId) (xs : List Value) (hfit : o + xs.length ≤ cs.length)
   (hi : (P.info? ty).map (·.size) = some xs.length) (h1 : ∀ v ∈ xs, v.oneCell' = true) :
   ∃ w', (Instr.storeAt ty (.pointer (some ⟨g, o, none⟩)) (.agg xs.toArray)).run P w = .ok () w' ∧ Blk w' g e (cs.take o ++ xs ++ cs.drop (o + xs.length)) ∧ ∀ bad : Nat → Prop, bad g → Keep bad w w' := by
 have hst := run_storeCells_at P g o e xs 0 cs.toArray w h (by simpa using hfit) h1
 cases hq : P.info? ty with
 | none => simp [hq] at hi
 | some i =>
   have hs : xs.length = i.size := by simp [hq] at hi; omega
   refine ⟨w.setRow g (cs.take o ++ xs ++ cs.drop (o + xs.length)).toArray, ?_, ?_, fun bad hb => Keep.setRow hb _⟩
   · rw [Nat.add_zero] at hst
     have hst' : (storeCells ⟨g, o, none⟩ xs 0).run P w = .ok () (w.setRow g (cs.take o ++ xs ++ cs.drop (o + xs.length)).toArray) := by rw [hst]
     simp only [Instr.storeAt, Instr.sureAddr, Sem.run_bind, Sem.run_pure, Result.andThen_ok]
     simp [storeVar, sizeOf, typeInfo, hq, Value.cells, ← hs, hst']
   · unfold Blk
     rw [setRow_heap w g _ _ e _ h]

/-! ### What a literal of a struct lays -/
def NumsOff (bad : Nat → Prop) (w : World) (v : Value) (zs : List Int) : Prop :=
 ∃ a c, v = .slice a zs.length c ∧ (zs.length = 0 ∨ ∃ b off, a = some ⟨b, off, none⟩ ∧ b < w.heap.size ∧ ¬ bad b ∧ ∀ j, j < zs.length → w.cell? ⟨b, off + j, none⟩ = some (.int .u8 (zs.getD j 0)))
theorem NumsOff.nums {bad : Nat → Prop} {w : World} {v : Value} {zs : List Int} (h : NumsOff bad w v zs) : IsNums .u8 w v zs := by
 obtain ⟨a, c, rfl, h | ⟨b, off, rfl, h1, h2, h3⟩⟩ := h
 · exact ⟨a, c, rfl, .inl h⟩
 · exact ⟨_, c, rfl, .inr ⟨b, off, rfl, h1, h3⟩⟩
theorem NumsOff.keep {bad bad' : Nat → Prop} {w W : World} {v : Value} {zs : List Int} (h : NumsOff bad w v zs) (hk : Keep bad' w W) (hb : ∀ k, bad' k → bad k) : NumsOff bad W v zs := by
 obtain ⟨a, c, rfl, h | ⟨b, off, rfl, h1, h2, h3⟩⟩ := h
 · exact ⟨a, c, rfl, .inl h⟩
 · exact ⟨_, c, rfl, .inr ⟨b, off, rfl, Nat.lt_of_lt_of_le h1 hk.size, h2, fun j hj => by rw [hk.cell (fun hh => h2 (hb _ hh)) h1]; exact h3 j hj⟩⟩
theorem NumsOff.mono {bad bad' : Nat → Prop} {w : World} {v : Value} {zs : List Int} (h : NumsOff bad w v zs) (hb : ∀ k, k < w.heap.size → bad' k → bad k) : NumsOff bad' w v zs := by
 obtain ⟨a, c, rfl, h | ⟨b, off, rfl, h1, h2, h3⟩⟩ := h
 · exact ⟨a, c, rfl, .inl h⟩
 · exact ⟨_, c, rfl, .inr ⟨b, off, rfl, h1, fun hh => h2 (hb _ h1 hh), h3⟩⟩
theorem NumsOff.nil (bad : Nat → Prop) (w : World) (a : Option Addr) (c : Nat) : NumsOff bad w (.slice a 0 c) [] := ⟨a, c, rfl, .inl rfl⟩
theorem NumsOff.of {bad : Nat → Prop} {w : World} {v : Value} {zs : List Int} (h : IsNums .u8 w v zs) (hb : ∀ k, k < w.heap.size → ¬ bad k) : NumsOff bad w v zs := by
 obtain ⟨a, c, rfl, h | ⟨b, off, rfl, h1, h3⟩⟩ := h
 · exact ⟨a, c, rfl, .inl h⟩
 · exact ⟨_, c, rfl, .inr ⟨b, off, rfl, h1, hb b h1, h3⟩⟩
theorem NumsOff.below {bad : Nat → Prop} {N : Nat} {w W : World} {v : Value} {zs : List Int} (h : IsNums .u8 w v zs) (hW : Below w.heap.size w W) (hb : ∀ k, bad k → w.heap.size ≤ k) : NumsOff bad W v zs := by
 obtain ⟨a, c, rfl, h | ⟨b, off, rfl, h1, h3⟩⟩ := h
 · exact ⟨a, c, rfl, .inl h⟩
 · exact ⟨_, c, rfl, .inr ⟨b, off, rfl, Nat.lt_of_lt_of_le h1 hW.size, fun hh => by have := hb b hh; omega, fun j hj => by rw [hW.cell h1]; exact h3 j hj⟩⟩

section
variable {P : Program} {ops : Array Oper} {rest : List Oper} {op : Oper} {a : Act} {w : World} {Q : Exit → Act → World → Prop} {K : Act → World → Prop}

end
end
section
section
variable {P : Program} {ops : Array Oper} {Q : Exit → Act → World → Prop} {md : Region.Mode} {S : World → Prop} {e : Nat}

def Closed (md : Region.Mode) (ops : Array Oper) (L : Array Bool) : Prop :=
 L.size = ops.size ∧ ∀ j oj, ops[j]? = some oj → L.getD j false = true → ∀ ed ∈ oj.after, Region.binds md ed = true → L.getD ed.on false = true
def closedB (md : Region.Mode) (ops : Array Oper) (L : Array Bool) : Bool :=
 decide (L.size = ops.size) && (List.range ops.size).all fun j => !(L.getD j false) || match ops[j]? with
   | some oj => oj.after.all fun ed => !(Region.binds md ed) || L.getD ed.on false
   | none => true
theorem closedB_spec {L : Array Bool} (h : closedB md ops L = true) : Closed md ops L := by
 unfold closedB at h
 simp only [Bool.and_eq_true, decide_eq_true_eq] at h
 refine ⟨h.1, fun j oj hj hl ed hed hb => ?_⟩
 have hjs : j < ops.size := (Array.getElem?_eq_some_iff.1 hj).1
 have h1 := List.all_eq_true.1 h.2 j (List.mem_range.2 hjs)
 rw [hl, hj] at h1
 simp only [Bool.not_true, Bool.false_or] at h1
 have h2 := (Array.all_eq_true_iff_forall_mem.1 h1) ed hed
 rw [hb] at h2
 simpa using h2
theorem Closed.set {L : Array Bool} (hc : Closed md ops L) {j : Nat} (hj : j ∈ Region.ready md ops L) : Closed md ops (L.setIfInBounds j true) := by
 obtain ⟨_, oi, hoi, hall⟩ := mem_ready.1 hj
 refine ⟨by simp [hc.1], fun k ok hk hl ed hed hb => ?_⟩
 by_cases hjk : j = k
 · subst hjk
   have : ok = oi := Option.some.inj (hk.symm.trans hoi)
   subst this
   exact getD_set_true (hall ed hed hb)
 · rw [getD_set_ne false hjk] at hl
   exact getD_set_true (hc.2 k ok hk hl ed hed hb)
def reach (md : Region.Mode) (ops : Array Oper) : Nat → Nat → Nat → Bool
 | 0, k, i => k == i
 | f + 1, k, i => k == i || match ops[k]? with
   | some o => o.after.any fun ed => Region.binds md ed && reach md ops f ed.on i
   | none => false
def wpAnyE (P : Program) (md : Region.Mode) (ops : Array Oper) (Q : Exit → Act → World → Prop) (e : Nat) (S : World → Prop) : Nat → Array Bool → Act → World → Prop
 | 0, listed, a, w => Region.ready md ops listed = [] ∧ Q .normal a w
 | fuel + 1, listed, a, w =>
   (Region.ready md ops listed = [] → Q .normal a w) ∧
   ∀ i ∈ Region.ready md ops listed, wpOp P ops Q i (fun a' w' => ((listed.setIfInBounds i true).getD e false = false → S w') ∧ wpAnyE P md ops Q e S fuel (listed.setIfInBounds i true) a' w') a w
theorem wpAny_of_stage : ∀ (fuel : Nat) (listed : Array Bool) (a : Act) (w : World), wpAnyE P md ops Q e S fuel listed a w → wpAny P md ops Q fuel listed a w
 | 0, _, _, _, h => h
 | fuel + 1, _, _, _, h => ⟨h.1, fun i hi => wpOp_mono (fun a' w' h' => wpAny_of_stage fuel _ a' w' h'.2) (h.2 i hi)⟩

theorem wpAnyE_any {i : Nat} {oi : Oper} {v : Value} (hi : ops[i]? = some oi) (hsel : ∀ (j : Nat) (o : Oper) cs b, ops[j]? = some o → o.op ≠ .select cs b)
   (hQ : ∀ c a w, Q (.panic c) (a.put oi.dst v) w → Q (.panic c) a w) (hei : i ≠ e) :
   ∀ (fuel : Nat) (listed : Array Bool) (a : Act) (w : World),
     (∀ j oj, ops[j]? = some oj → j ≠ i → listed.getD j true = false → (∀ ed ∈ oj.after, Region.binds md ed = true → ed.on ≠ i) → oi.apart ops oj = true) →
     i ∈ Region.ready md ops listed → YieldsIf P ops (fun _ => True) oi v a → (listed.getD e false = false → S w) →
     wpAnyE P md ops Q e S fuel (listed.setIfInBounds i true) (a.put oi.dst v) w → wpAnyE P md ops Q e S (fuel + 1) listed a w := by
 intro fuel
 induction fuel with
 | zero =>
   intro listed a w _ hr hy hS H
   refine ⟨fun h => (by rw [h] at hr; cases hr), fun j hj => ?_⟩
   by_cases hji : j = i
   · subst hji; exact hy.wpOp hi trivial ⟨fun h => hS (by rwa [getD_set_ne false hei] at h), H⟩
   · have := ready_mono hj hji
     rw [H.1] at this
     cases this
 | succ fuel ih =>
   intro listed a w hfree hr hy hS H
   refine ⟨fun h => (by rw [h] at hr; cases hr), fun j hj => ?_⟩
   by_cases hji : j = i
   · subst hji; exact hy.wpOp hi trivial ⟨fun h => hS (by rwa [getD_set_ne false hei] at h), H⟩
   · have h1 := H.2 j (ready_mono hj hji)
     obtain ⟨hjun, oj, hoj, hall⟩ := mem_ready.1 hj
     have hnot : ∀ ed ∈ oj.after, Region.binds md ed = true → ed.on ≠ i := fun ed he hb heq => by
       have h1 := hall ed he hb
       have h0 := (mem_ready.1 hr).1
       rw [heq, getD_both h0] at h1
       cases h1
     have h2 := wpOp_putIf hoj (hfree j oj hoj hji hjun hnot) (fun cs b => hsel i oi cs b hi) (fun cs b => hsel j oj cs b hoj) hQ hy h1
     have hfree' : ∀ k ok, ops[k]? = some ok → k ≠ i → (listed.setIfInBounds j true).getD k true = false →
         (∀ ed ∈ ok.after, Region.binds md ed = true → ed.on ≠ i) → oi.apart ops ok = true := fun k ok hk hki hun hno => by
       refine hfree k ok hk hki ?_ hno
       by_cases hjk : j = k
       · subst hjk; exact hjun
       · rw [getD_set_ne true hjk] at hun; exact hun
     refine wpOp_mono (fun a' w' h3 => ?_) h2
     have hS' : (listed.setIfInBounds j true).getD e false = false → S w' := fun hq => h3.2.1 (by rw [Array.setIfInBounds_comm _ _ (Ne.symm hji), getD_set_ne false hei]; exact hq)
     refine ⟨hS', ih (listed.setIfInBounds j true) a' w' hfree' (ready_mono hr (Ne.symm hji)) h3.1 hS' ?_⟩
     rw [Array.setIfInBounds_comm _ _ hji]
     exact h3.2.2

theorem stepE_any (i : Nat) (d : Option Tmp) {oi : Oper} {v : Value} {fuel : Nat} {listed : Array Bool} {a : Act} {w : World} (hS : listed.getD e false = false → S w) (hi : ops[i]? = some oi) (hd : oi.dst = d)
   (hs : Region.noSelect ops = true) (hf : Region.free md ops listed i = true) (hr : (Region.ready md ops listed).contains i = true) (hei : decide (i ≠ e) = true)
   (hQ : ∀ c a w, Q (.panic c) (a.put d v) w → Q (.panic c) a w) (hw : Region.wanted oi (yielded ops a.tmps) = true)
   (hy : ∀ W, (execOp a.eval oi).run P W = .ok (.value v) W)
   (h : wpAnyE P md ops Q e S fuel (listed.setIfInBounds i true) (a.put d v) w) : wpAnyE P md ops Q e S (fuel + 1) listed a w := by
 subst hd
 exact wpAnyE_any hi (Region.noSelect_spec hs) hQ (of_decide_eq_true hei) fuel listed a w (Region.free_spec hi hf) (by simpa using hr) (.inl ⟨hw, fun W _ => hy W⟩) hS h
theorem stepE_skip (i : Nat) (d : Option Tmp) {oi : Oper} {fuel : Nat} {listed : Array Bool} {a : Act} {w : World} (hS : listed.getD e false = false → S w) (hi : ops[i]? = some oi) (hd : oi.dst = d)
   (hs : Region.noSelect ops = true) (hf : Region.free md ops listed i = true) (hr : (Region.ready md ops listed).contains i = true) (hei : decide (i ≠ e) = true)
   (hQ : ∀ c a w, Q (.panic c) (a.put d undef) w → Q (.panic c) a w) (hw : Region.wanted oi (yielded ops a.tmps) = false)
   (h : wpAnyE P md ops Q e S fuel (listed.setIfInBounds i true) (a.put d undef) w) : wpAnyE P md ops Q e S (fuel + 1) listed a w := by
 subst hd
 exact wpAnyE_any hi (Region.noSelect_spec hs) hQ (of_decide_eq_true hei) fuel listed a w (Region.free_spec hi hf) (by simpa using hr) (.inr ⟨hw, rfl⟩) hS h
theorem stepE_only (i : Nat) {o : Oper} {fuel : Nat} {listed : Array Bool} {a : Act} {w : World} (hi : ops[i]? = some o) (hr : Region.ready md ops listed = [i])
   (hw : Region.wanted o (yielded ops a.tmps) = true)
   (h : ∀ K' : Act → World → Prop, (∀ a' w', S w' → wpAnyE P md ops Q e S fuel (listed.setIfInBounds i true) a' w' → K' a' w') → Oper.wp P o a w K' Q) :
   wpAnyE P md ops Q e S (fuel + 1) listed a w := by
 refine ⟨fun h0 => absurd (hr ▸ h0) (by simp), fun j hj => ?_⟩
 rw [hr] at hj
 obtain rfl : j = i := by simpa using hj
 refine wpOp_step hi (fun K' hK => ?_)
 rw [if_pos hw]
 exact h K' (fun a' w' hb hn => hK a' w' ⟨fun _ => hb, hn⟩)
theorem stepE_end (i : Nat) {o : Oper} {fuel : Nat} {listed : Array Bool} {a : Act} {w : World} (hi : ops[i]? = some o) (hr : Region.ready md ops listed = [i])
   (hw : Region.wanted o (yielded ops a.tmps) = true) (hl : (listed.setIfInBounds i true).getD e false = true)
   (h : ∀ K' : Act → World → Prop, (∀ a' w', wpAnyE P md ops Q e S fuel (listed.setIfInBounds i true) a' w' → K' a' w') → Oper.wp P o a w K' Q) :
   wpAnyE P md ops Q e S (fuel + 1) listed a w := by
 refine ⟨fun h0 => absurd (hr ▸ h0) (by simp), fun j hj => ?_⟩
 rw [hr] at hj
 obtain rfl : j = i := by simpa using hj
 refine wpOp_step hi (fun K' hK => ?_)
 rw [if_pos hw]
 exact h K' (fun a' w' hn => hK a' w' ⟨(fun hf => by rw [hl] at hf; cases hf), hn⟩)
theorem wpAnyE_done {listed : Array Bool} {a : Act} {w : World} (hr : Region.ready md ops listed = []) (h : Q .normal a w) : ∀ fuel, wpAnyE P md ops Q e S fuel listed a w
 | 0 => ⟨hr, h⟩
 | _ + 1 => ⟨fun _ => h, by rw [hr]; simp⟩
theorem regionE_begin (e : Nat) (S : World → Prop) {id : Nat} {a : Act} {w : World} (hm : P.follows .mixedOrders = true)
   (h : wpAnyE P .any ops Q e S ops.size (Array.replicate ops.size false) a w.drew) : (Code.region id ops true).wp P Q a w :=
 wp_region_any hm (wpAny_of_stage _ _ _ _ h)
end
end
section
theorem Keep.trans' {bad bad' : Nat → Prop} {a b c : World} (h : Keep bad a b) (k : Keep bad' b c) (hb : ∀ i, i < a.heap.size → bad' i → bad i) : Keep bad a c :=
 ⟨k.1.trans h.1, k.2.1.trans h.2.1, k.2.2.1.trans h.2.2.1, Nat.le_trans h.2.2.2.1 k.2.2.2.1, fun i hi hn => (k.2.2.2.2 i (Nat.lt_of_lt_of_le hi h.2.2.2.1) (fun hh => hn (hb i hi hh))).trans (h.2.2.2.2 i hi hn)⟩
theorem Keep.drew (bad : Nat → Prop) (w : World) : Keep bad w w.drew := ⟨rfl, rfl, rfl, Nat.le_refl _, fun _ _ _ => rfl⟩

theorem run_append_where {P : Program} (w : World) (base : Nat) (t ty e : TypeId) (z : Value) (size bytes : Nat) (ht : P.underlying t = some (.slice e)) (hinf : (P.info? e).map (fun i => (i.zero, i.size, i.bytes)) = some (some z, size, bytes))
   (hzs : z.cells.size = size) (hsz : 0 < size) (v : Value) (n : Nat) (xs : List Value) (hown : w.ownsRow base e size v n xs)
   (a : Addr) (m c : Nat) (news : List Value) (hl : news.length = m * size) (hnews : ∀ j u, news[j]? = some u → w.cell? (a.add j) = some u) (h1 : ∀ u ∈ news, u.oneCell' = true)
   (h63 : n + m ≤ maxLen) (hbytes : (n + m) * bytes ≤ 140737488355328) (hbase : base ≤ w.heap.size) :
   ∃ v' w', (Builtin.append_ #[t, t] ty #[v, .slice (some a) m c]).run P w = .ok v' w' ∧ w'.ownsRow base e size v' (n + m) (xs ++ news) ∧ w.grownBy w' v.ownBlock ∧ (v'.ownBlock = v.ownBlock ∨ v'.ownBlock = some w.heap.size) := by
 obtain ⟨i, hi, hz, hsize, hby⟩ := info_parts hinf
 obtain ⟨v', w', hr, h2, h3, h4⟩ := run_append_own (P := P) w base t ty e i z size bytes ht hi hz hsize hby hzs hsz v n xs hown a m c news hl hnews h1 h63 hbytes hbase
 refine ⟨v', w', hr, h2, h3, ?_⟩
 clear hinf
 subst hsize
 subst hby
 have hsmall : n + m ≤ 9223372036854775807 := by simp only [maxLen] at h63; omega
 rcases hown.2 with ⟨rfl, rfl⟩ | ⟨g, cap, cur, rfl, hbg, hg, hnc, hcm, hcs, htake⟩
 · by_cases hm : m = 0
   · subst hm
     have : v' = .slice none 0 0 := h4.2 ⟨rfl, rfl⟩
     subst this
     exact .inl rfl
   · have h5 := run_append_nil (P := P) w t ty e i z ht hi hz a m c news hl hnews (by omega) (by omega) (by have hb := hbytes; simp only [Nat.zero_add] at hb; omega)
     rw [h5] at hr
     injection hr with e1 e2
     subst e1
     exact .inr rfl
 · by_cases hroom : n + m ≤ cap
   · have hfit : n * i.size + news.length ≤ cur.size := by rw [hl, hcs, ← Nat.add_mul]; exact Nat.mul_le_mul_right _ hroom
     have h5 := run_append_room (P := P) w t ty e i ht hi g n cap cur hg a m c news hl hnews h1 hroom hfit
     rw [h5] at hr
     injection hr with e1 e2
     subst e1
     exact .inl rfl
   · have holds : ∀ j u, xs[j]? = some u → w.cell? ((⟨g, 0, none⟩ : Addr).add j) = some u := hown.cells (g := g) rfl
     have h5 := run_append_grow (P := P) w t ty e i z ht hi hz ⟨g, 0, none⟩ n cap xs hown.1 holds a m c news hl hnews (by omega) (by omega) (growslice_fits (by omega) hbytes)
     rw [h5] at hr
     injection hr with e1 e2
     subst e1
     exact .inr rfl

theorem ownsRow_shape {w : World} {base : Nat} {e : TypeId} {size : Nat} {v : Value} {n : Nat} {xs : List Value} (h : w.ownsRow base e size v n xs) : ∃ p c, v = .slice p n c := by
 rcases h.2 with ⟨rfl, rfl⟩ | ⟨g, cap, cur, rfl, _⟩
 · exact ⟨_, _, rfl⟩
 · exact ⟨_, _, rfl⟩
theorem exec_load {P : Program} {ev : Operand → Value} {o : Oper} {W : World} (ty : TypeId) (x : Operand) (ho : o.op = .load ty x) (b off : Nat) (hx : ev x = .pointer (some ⟨b, off, none⟩)) (cs : List Value) (td : TypeDesc) (hc : W.rangeAt b off cs)
   (hu : P.underlying ty = some td) (hd : td.isRow = true) (hi : (P.info? ty).map (·.size) = some cs.length) : (execOp ev o).run P W = .ok (.value (.agg cs.toArray)) W := by
 unfold execOp
 simp only [ho, hx, Instr.loadAt, Instr.sureAddr, Sem.run_bind, Sem.run_pure, Result.andThen_ok, run_loadVar_mid W b off ty cs td hc hu hd hi]

section
variable {P : Program} {ops : Array Oper} {rest : List Oper} {a : Act} {w : World} {Q : Exit → Act → World → Prop} {K : Act → World → Prop}
end
end
section
section
variable {P : Program} {ops : Array Oper} {Q : Exit → Act → World → Prop} {md : Region.Mode} {S : World → Prop} {e : Nat}

def waitSet (md : Region.Mode) (ops : Array Oper) : Nat → List Nat → List Nat
 | 0, s => s
 | n + 1, s => bif s.contains n then (match ops[n]? with
     | some o => waitSet md ops n ((o.after.toList.filter (fun ed => Region.binds md ed)).map (·.on) ++ s)
     | none => waitSet md ops n s) else waitSet md ops n s
theorem waitSet_listed {L : Array Bool} (hc : Closed md ops L) : ∀ (n : Nat) (s : List Nat), (∀ x ∈ s, L.getD x false = true) → ∀ x ∈ waitSet md ops n s, L.getD x false = true
 | 0, s, h => h
 | n + 1, s, h => by
   unfold waitSet
   cases hs : s.contains n with
   | false => exact waitSet_listed hc n s h
   | true =>
     cases ho : ops[n]? with
     | none => exact waitSet_listed hc n s h
     | some o =>
       refine waitSet_listed hc n _ (fun x hx => ?_)
       rcases List.mem_append.1 hx with hx | hx
       · obtain ⟨ed, hed, rfl⟩ := List.mem_map.1 hx
         obtain ⟨h1, h2⟩ := List.mem_filter.1 hed
         exact hc.2 n o ho (h n (by simpa using hs)) ed (by simpa using h1) h2
       · exact h x hx
def waits (md : Region.Mode) (ops : Array Oper) (e i : Nat) : Bool := (waitSet md ops ops.size [e]).contains i
theorem waits_listed {L : Array Bool} (hc : Closed md ops L) {i : Nat} (h : waits md ops e i = true) (hl : L.getD e false = true) : L.getD i false = true :=
 waitSet_listed hc ops.size [e] (fun x hx => by rw [List.mem_singleton.1 hx]; exact hl) i (by simpa [waits] using h)

theorem wpAnyE_firstW {i : Nat} {oi : Oper} {v : Value} (hi : ops[i]? = some oi) (hsel : ∀ (j : Nat) (o : Oper) cs b, ops[j]? = some o → o.op ≠ .select cs b)
   (hQ : ∀ c a w, Q (.panic c) (a.put oi.dst v) w → Q (.panic c) a w) (hreach : waits md ops e i = true) (hei : i ≠ e) :
   ∀ (fuel : Nat) (listed : Array Bool) (a : Act) (w : World), Closed md ops listed →
     (∀ j oj, ops[j]? = some oj → j ≠ i → listed.getD j true = false → (∀ ed ∈ oj.after, Region.binds md ed = true → ed.on ≠ i) → oi.apart ops oj = true) →
     i ∈ Region.ready md ops listed → YieldsIf P ops S oi v a → S w →
     wpAnyE P md ops Q e S fuel (listed.setIfInBounds i true) (a.put oi.dst v) w → wpAnyE P md ops Q e S (fuel + 1) listed a w := by
 intro fuel
 induction fuel with
 | zero =>
   intro listed a w hc _ hr hy hS H
   refine ⟨fun h => (by rw [h] at hr; cases hr), fun j hj => ?_⟩
   by_cases hji : j = i
   · subst hji; exact hy.wpOp hi hS ⟨fun _ => hS, H⟩
   · have := ready_mono hj hji
     rw [H.1] at this
     cases this
 | succ fuel ih =>
   intro listed a w hc hfree hr hy hS H
   refine ⟨fun h => (by rw [h] at hr; cases hr), fun j hj => ?_⟩
   by_cases hji : j = i
   · subst hji; exact hy.wpOp hi hS ⟨fun _ => hS, H⟩
   · have h1 := H.2 j (ready_mono hj hji)
     obtain ⟨hjun, oj, hoj, hall⟩ := mem_ready.1 hj
     have hnot : ∀ ed ∈ oj.after, Region.binds md ed = true → ed.on ≠ i := fun ed he hb heq => by
       have h1 := hall ed he hb
       have h0 := (mem_ready.1 hr).1
       rw [heq, getD_both h0] at h1
       cases h1
     have h2 := wpOp_putIf hoj (hfree j oj hoj hji hjun hnot) (fun cs b => hsel i oi cs b hi) (fun cs b => hsel j oj cs b hoj) hQ hy h1
     have hfree' : ∀ k ok, ops[k]? = some ok → k ≠ i → (listed.setIfInBounds j true).getD k true = false →
         (∀ ed ∈ ok.after, Region.binds md ed = true → ed.on ≠ i) → oi.apart ops ok = true := fun k ok hk hki hun hno => by
       refine hfree k ok hk hki ?_ hno
       by_cases hjk : j = k
       · subst hjk; exact hjun
       · rw [getD_set_ne true hjk] at hun; exact hun
     have hc' := hc.set hj
     have hr' := ready_mono hr (Ne.symm hji)
     have hen : (listed.setIfInBounds j true).getD e false = false := by
       cases hq : (listed.setIfInBounds j true).getD e false with
       | false => rfl
       | true =>
         have := waits_listed hc' hreach hq
         rw [getD_both (mem_ready.1 hr').1] at this
         cases this
     refine wpOp_mono (fun a' w' h3 => ?_) h2
     have hS' : S w' := h3.2.1 (by rw [Array.setIfInBounds_comm _ _ (Ne.symm hji), getD_set_ne false hei]; exact hen)
     refine ⟨fun _ => hS', ih (listed.setIfInBounds j true) a' w' hc' hfree' hr' h3.1 hS' ?_⟩
     rw [Array.setIfInBounds_comm _ _ hji]
     exact h3.2.2

theorem stepE_readW (i : Nat) (d : Option Tmp) {oi : Oper} {v : Value} {fuel : Nat} {listed : Array Bool} {a : Act} {w : World} (hS : S w) (hi : ops[i]? = some oi) (hd : oi.dst = d)
   (hs : Region.noSelect ops = true) (hf : Region.free md ops listed i = true) (hr : (Region.ready md ops listed).contains i = true)
   (hc : closedB md ops listed = true) (hre : (waits md ops e i && decide (i ≠ e)) = true)
   (hQ : ∀ c a w, Q (.panic c) (a.put d v) w → Q (.panic c) a w) (hw : Region.wanted oi (yielded ops a.tmps) = true)
   (hy : ∀ W, S W → (execOp a.eval oi).run P W = .ok (.value v) W)
   (h : wpAnyE P md ops Q e S fuel (listed.setIfInBounds i true) (a.put d v) w) : wpAnyE P md ops Q e S (fuel + 1) listed a w := by
 subst hd
 simp only [Bool.and_eq_true, decide_eq_true_eq] at hre
 exact wpAnyE_firstW hi (Region.noSelect_spec hs) hQ hre.1 hre.2 fuel listed a w (closedB_spec hc) (Region.free_spec hi hf) (by simpa using hr) (.inl ⟨hw, hy⟩) hS h
end
end
section
inductive D where
 | v (x : Value)
 | ns (k : IntKind) (zs : List Int)
 | l (m : Nat) (rows : List (List D))

def NumsS (S : Nat → Prop) (k : IntKind) (w : World) (v : Value) (zs : List Int) : Prop :=
 ∃ a c, v = .slice a zs.length c ∧ (zs.length ≤ c ∧ c ≤ maxLen) ∧ (zs.length = 0 ∨ ∃ b off, a = some ⟨b, off, none⟩ ∧ S b ∧ b < w.heap.size ∧ ∀ j, j < zs.length → w.cell? ⟨b, off + j, none⟩ = some (.int k (zs.getD j 0)))
inductive Rd (S : Nat → Prop) (w : World) : Value → D → Prop
 | v (x : Value) : Rd S w x (.v x)
 | ns {k : IntKind} {v : Value} {zs : List Int} (h : NumsS S k w v zs) : Rd S w v (.ns k zs)
 | l0 (a : Option Addr) (c m : Nat) : Rd S w (.slice a 0 c) (.l m [])
 | l (m b off c : Nat) (rows : List (List D)) (f : Nat → Nat → Value) (hS : S b) (hb : b < w.heap.size) (hc : rows.length ≤ c) (hm : ∀ r ∈ rows, r.length = m)
     (hcell : ∀ j q, j < rows.length → q < m → w.cell? ⟨b, off + j * m + q, none⟩ = some (f j q) ∧ (f j q).oneCell' = true)
     (hr : ∀ j q r d, rows[j]? = some r → r[q]? = some d → Rd S w (f j q) d) : Rd S w (.slice (some ⟨b, off, none⟩) rows.length c) (.l m rows)

theorem NumsS.mono {S S' : Nat → Prop} {k : IntKind} {w W : World} {v : Value} {zs : List Int} (h : NumsS S k w v zs) (hs : w.heap.size ≤ W.heap.size) (hk : ∀ b, b < w.heap.size → S b → W.heap[b]? = w.heap[b]? ∧ S' b) : NumsS S' k W v zs := by
 obtain ⟨a, c, rfl, hc, h0 | ⟨b, off, rfl, h1, h2, h3⟩⟩ := h
 · exact ⟨a, c, rfl, hc, .inl h0⟩
 · exact ⟨_, c, rfl, hc, .inr ⟨b, off, rfl, (hk b h2 h1).2, Nat.lt_of_lt_of_le h2 hs, fun j hj => by rw [World.cell?_of_block (w := w) (hk b h2 h1).1]; exact h3 j hj⟩⟩
theorem Rd.mono {S S' : Nat → Prop} {w W : World} {v : Value} {d : D} (h : Rd S w v d) (hs : w.heap.size ≤ W.heap.size) (hk : ∀ b, b < w.heap.size → S b → W.heap[b]? = w.heap[b]? ∧ S' b) : Rd S' W v d := by
 induction h with
 | v x => exact .v x
 | ns h => exact .ns (h.mono hs hk)
 | l0 a c m => exact .l0 a c m
 | l m b off c rows f hS hb hc hm hcell hr ih =>
   exact .l m b off c rows f (hk b hb hS).2 (Nat.lt_of_lt_of_le hb hs) hc hm (fun j q hj hq => by rw [World.cell?_of_block (w := w) (hk b hb hS).1]; exact hcell j q hj hq) ih

def OwnsAt (w : World) (base : Nat) (e : TypeId) (size : Nat) (v : Value) (n : Nat) (xs : List Value) : Prop :=
 xs.length = n * size ∧
 ((v = .slice none 0 0 ∧ n = 0) ∨
  ∃ g off cap cur, v = .slice (some ⟨g, off, none⟩) n cap ∧ base ≤ g ∧ w.heap[g]? = some (.cells cur e (0, 0)) ∧ n ≤ cap ∧ cap ≤ maxLen ∧ off + cap * size ≤ cur.size ∧ (cur.toList.drop off).take (n * size) = xs)
theorem OwnsAt.of {w : World} {base : Nat} {e : TypeId} {size : Nat} {v : Value} {n : Nat} {xs : List Value} (h : w.ownsRow base e size v n xs) : OwnsAt w base e size v n xs := by
 refine ⟨h.1, ?_⟩
 rcases h.2 with h | ⟨g, cap, cur, h1, h2, h3, h4, h5, h6, h7⟩
 · exact .inl h
 · exact .inr ⟨g, 0, cap, cur, h1, h2, h3, h4, h5, by omega, by simpa using h7⟩
theorem OwnsAt.at {w W : World} {base : Nat} {e : TypeId} {size : Nat} {v : Value} {n : Nat} {xs : List Value} (h : OwnsAt w base e size v n xs) (hb : ∀ k, v.ownBlock = some k → W.heap[k]? = w.heap[k]?) : OwnsAt W base e size v n xs := by
 refine ⟨h.1, ?_⟩
 rcases h.2 with hn | ⟨g, off, cap, cur, rfl, hbg, hgg, rest⟩
 · exact .inl hn
 · refine .inr ⟨g, off, cap, cur, rfl, hbg, ?_, rest⟩
   rw [hb g rfl]; exact hgg
theorem OwnsAt.lt {w : World} {base : Nat} {e : TypeId} {size : Nat} {v : Value} {n : Nat} {xs : List Value} (h : OwnsAt w base e size v n xs) (b : Nat) (hb : v.ownBlock = some b) : base ≤ b ∧ b < w.heap.size := by
 rcases h.2 with ⟨rfl, _⟩ | ⟨g, off, cap, cur, rfl, hbg, hgg, _⟩
 · cases hb
 · injection hb with hb; subst hb
   exact ⟨hbg, (Array.getElem?_eq_some_iff.1 hgg).1⟩
def SegOk (S : Nat → Prop) (w : World) (v : Value) (e : TypeId) (m : Nat) (rows : List (List D)) : Prop :=
 ∃ cs : List (List Value), OwnsAt w 0 e m v rows.length cs.flatten ∧ cs.length = rows.length ∧ (∀ c ∈ cs, c.length = m ∧ ∀ x ∈ c, x.oneCell' = true) ∧ (∀ r ∈ rows, r.length = m) ∧
   ∀ (j q : Nat) (c : List Value) (r : List D) (x : Value) (d : D), cs[j]? = some c → rows[j]? = some r → c[q]? = some x → r[q]? = some d → Rd S w x d
inductive Res where
 | dat (v : Value) (d : D)
 | box (g : Nat) (e : TypeId) (cs : List Value)
 | num (v : Value) (e : TypeId) (k : IntKind) (zs : List Int)
 | row (v : Value) (e : TypeId) (m : Nat) (rows : List (List D))
 | cel (b o : Nat) (vs : List Value)
 | rowC (v : Value) (e : TypeId) (m : Nat) (rows : List (List D)) (cs : List (List Value))
 | seg (v : Value) (e : TypeId) (m : Nat) (rows : List (List D))
 | any (g : Nat)
 | gone
def Res.blk : Res → Option Nat
 | .box g _ _ => some g
 | .num v _ _ _ => v.ownBlock
 | .row v _ _ _ => v.ownBlock
 | .rowC v _ _ _ _ => v.ownBlock
 | .seg v _ _ _ => v.ownBlock
 | .any g => some g
 | _ => none
def RowOk (N : Nat) (S : Nat → Prop) (w : World) (v : Value) (e : TypeId) (m : Nat) (rows : List (List D)) : Prop :=
 ∃ cs : List (List Value), w.ownsRow N e m v rows.length cs.flatten ∧ cs.length = rows.length ∧ (∀ c ∈ cs, c.length = m ∧ ∀ x ∈ c, x.oneCell' = true) ∧ (∀ r ∈ rows, r.length = m) ∧
   ∀ (j q : Nat) (c : List Value) (r : List D) (x : Value) (d : D), cs[j]? = some c → rows[j]? = some r → c[q]? = some x → r[q]? = some d → Rd S w x d
def RowC (N : Nat) (S : Nat → Prop) (w : World) (v : Value) (e : TypeId) (m : Nat) (rows : List (List D)) (cs : List (List Value)) : Prop :=
 w.ownsRow N e m v rows.length cs.flatten ∧ cs.length = rows.length ∧ (∀ c ∈ cs, c.length = m ∧ ∀ x ∈ c, x.oneCell' = true) ∧ (∀ r ∈ rows, r.length = m) ∧
   ∀ (j q : Nat) (c : List Value) (r : List D) (x : Value) (d : D), cs[j]? = some c → rows[j]? = some r → c[q]? = some x → r[q]? = some d → Rd S w x d
def Res.ok (N : Nat) (X : List Nat) (S : Nat → Prop) (w : World) : Res → Prop
 | .dat v d => Rd S w v d
 | .box g e cs => Blk w g e cs ∧ (N ≤ g ∨ g ∈ X)
 | .num v e k zs => w.ownsRow N e 1 v zs.length (zs.map (Value.int k))
 | .row v e m rows => RowOk N S w v e m rows
 | .rowC v e m rows cs => RowC N S w v e m rows cs
 | .seg v e m rows => SegOk S w v e m rows ∧ ∀ b, v.ownBlock = some b → N ≤ b ∨ b ∈ X
 | .cel b o vs => S b ∧ b < w.heap.size ∧ w.rangeAt b o vs
 | .any g => g < w.heap.size ∧ (N ≤ g ∨ g ∈ X)
 | .gone => True
def lk {α : Type} : List (Nat × α) → Nat → Option α
 | [], _ => none
 | (k, x) :: t, i => bif Nat.beq k i then some x else lk t i
theorem lk_cons {α : Type} (k : Nat) (x : α) (t : List (Nat × α)) (i : Nat) : lk ((k, x) :: t) i = if k = i then some x else lk t i := by
 show (bif Nat.beq k i then some x else lk t i) = _
 by_cases h : k = i
 · rw [if_pos h, h, show Nat.beq i i = true from Nat.beq_refl i]; rfl
 · rw [if_neg h, show Nat.beq k i = false from by cases hb : Nat.beq k i with | false => rfl | true => exact absurd (Nat.eq_of_beq_eq_true hb) h]; rfl
abbrev Mm := List (Nat × Res)
def Own (M : Mm) (b : Nat) : Prop := ∃ i r, lk M i = some r ∧ r.blk = some b
structure Cx where
 bad : List Nat
 Z : Nat → Prop
def Free (X : Cx) (M : Mm) (b : Nat) : Prop := X.Z b ∧ ¬ Own M b
structure MemOk (X : Cx) (w0 : World) (M : Mm) (w : World) : Prop where
 keep : Keep (· ∈ X.bad) w0 w
 fresh : ∀ b, w0.heap.size ≤ b → X.Z b
 ok : ∀ i r, lk M i = some r → r.ok w0.heap.size X.bad (Free X M) w
 sep : ∀ i j r s b, lk M i = some r → lk M j = some s → r.blk = some b → s.blk = some b → i = j

theorem own_at {w W : World} {base : Nat} {e : TypeId} {size : Nat} {v : Value} {n : Nat} {xs : List Value} (h : w.ownsRow base e size v n xs) (hb : ∀ k, v.ownBlock = some k → W.heap[k]? = w.heap[k]?) : W.ownsRow base e size v n xs := by
 refine ⟨h.1, ?_⟩
 rcases h.2 with hn | ⟨g, cap, cur, rfl, hbg, hgg, rest⟩
 · exact .inl hn
 · refine .inr ⟨g, cap, cur, rfl, hbg, ?_, rest⟩
   rw [hb g rfl]
   exact hgg
theorem Res.ok_mono {N : Nat} {X : List Nat} {S S' : Nat → Prop} {w W : World} {r : Res} (h : r.ok N X S w) (hs : w.heap.size ≤ W.heap.size) (hk : ∀ b, b < w.heap.size → S b → W.heap[b]? = w.heap[b]? ∧ S' b) (hb : ∀ b, r.blk = some b → W.heap[b]? = w.heap[b]?) : r.ok N X S' W := by
 cases r with
 | dat v d => exact Rd.mono h hs hk
 | box g e cs => exact ⟨(hb g rfl).trans h.1, h.2⟩
 | num v e k zs => exact own_at h hb
 | row v e m rows =>
   obtain ⟨cs, h1, h2, h3, h4, h5⟩ := h
   exact ⟨cs, own_at h1 hb, h2, h3, h4, fun j q c r x d a1 a2 a3 a4 => (h5 j q c r x d a1 a2 a3 a4).mono hs hk⟩
 | rowC v e m rows cs =>
   obtain ⟨h1, h2, h3, h4, h5⟩ := h
   exact ⟨own_at h1 hb, h2, h3, h4, fun j q c r x d a1 a2 a3 a4 => (h5 j q c r x d a1 a2 a3 a4).mono hs hk⟩
 | seg v e m rows =>
   obtain ⟨⟨cs, h1, h2, h3, h4, h5⟩, hx⟩ := h
   exact ⟨⟨cs, h1.at hb, h2, h3, h4, fun j q c r x d a1 a2 a3 a4 => (h5 j q c r x d a1 a2 a3 a4).mono hs hk⟩, hx⟩
 | cel b o vs => exact ⟨(hk b h.2.1 h.1).2, Nat.lt_of_lt_of_le h.2.1 hs, fun j v hj => by rw [World.cell?_of_block (w := w) (hk b h.2.1 h.1).1]; exact h.2.2 j v hj⟩
 | any g => exact ⟨Nat.lt_of_lt_of_le h.1 hs, h.2⟩
 | gone => trivial
theorem Res.blk_lt {N : Nat} {X : List Nat} {S : Nat → Prop} {w : World} {r : Res} (h : r.ok N X S w) {b : Nat} (hb : r.blk = some b) : b < w.heap.size ∧ (N ≤ b ∨ b ∈ X) := by
 cases r with
 | dat v d => cases hb
 | box g e cs => injection hb with hb; subst hb; exact ⟨h.1.lt, h.2⟩
 | num v e k zs => have := World.ownsRow.lt h b hb; exact ⟨this.2, .inl this.1⟩
 | seg v e m rows => obtain ⟨⟨cs, h1, _⟩, hx⟩ := h; exact ⟨(h1.lt b hb).2, hx b hb⟩
 | rowC v e m rows cs => have := World.ownsRow.lt h.1 b hb; exact ⟨this.2, .inl this.1⟩
 | row v e m rows => obtain ⟨cs, h1, _⟩ := h; have := World.ownsRow.lt h1 b hb; exact ⟨this.2, .inl this.1⟩
 | cel b o vs => cases hb
 | any g => injection hb with hb; subst hb; exact h
 | gone => cases hb

section
variable {X : Cx} {w0 : World} {M : Mm} {w : World}
theorem MemOk.later (m : MemOk X w0 M w) {w' : World} (hb : Below w.heap.size w w') : MemOk X w0 M w' where
 keep := m.keep.trans' (bad' := fun _ => False) (Keep.ofBelow hb) (fun _ _ h => h.elim)
 fresh := m.fresh
 ok i r h := Res.ok_mono (m.ok i r h) hb.size (fun b hlt hS => ⟨hb.block b hlt, hS⟩) (fun b hbk => hb.block b (Res.blk_lt (m.ok i r h) hbk).1)
 sep := m.sep
theorem MemOk.upd (m : MemOk X w0 M w) (i : Nat) (r' : Res) {w' : World} (hk : Keep (fun b => ∃ r, lk M i = some r ∧ r.blk = some b) w w') (hb : ∀ b, r'.blk = some b → (∃ r, lk M i = some r ∧ r.blk = some b) ∨ w.heap.size ≤ b)
   (hok : (∀ b, b < w.heap.size → Free X M b → Free X ((i, r') :: M) b) → (∀ b, (∃ r, lk M i = some r ∧ r.blk = some b) → w0.heap.size ≤ b → (∀ c, r'.blk = some c → c ≠ b) → Free X ((i, r') :: M) b) → r'.ok w0.heap.size X.bad (Free X ((i, r') :: M)) w') : MemOk X w0 ((i, r') :: M) w' := by
 have hfree : ∀ b, b < w.heap.size → Free X M b → Free X ((i, r') :: M) b := by
   rintro b hlt ⟨hz, hf⟩
   refine ⟨hz, ?_⟩
   rintro ⟨j, s, hj, hs⟩
   rw [lk_cons] at hj
   split at hj
   · injection hj with hj; subst hj
     rcases hb b hs with ⟨r, h1, h2⟩ | h
     · exact hf ⟨i, r, h1, h2⟩
     · omega
   · exact hf ⟨j, s, hj, hs⟩
 have hold : ∀ b, (∃ r, lk M i = some r ∧ r.blk = some b) → w0.heap.size ≤ b → (∀ c, r'.blk = some c → c ≠ b) → Free X ((i, r') :: M) b := by
   rintro b ⟨r, h1, h2⟩ hN hc
   refine ⟨m.fresh b hN, ?_⟩
   rintro ⟨j, s, hj, hs⟩
   rw [lk_cons] at hj
   split at hj
   · injection hj with hj; subst hj
     exact hc b hs rfl
   · rename_i hne
     exact hne (m.sep i j r s b h1 hj h2 hs)
 refine ⟨m.keep.trans' hk ?_, m.fresh, ?_, ?_⟩
 · rintro b hlt ⟨r, h1, h2⟩
   rcases (Res.blk_lt (m.ok i r h1) h2).2 with h | h
   · omega
   · exact h
 · intro j s hj
   rw [lk_cons] at hj
   split at hj
   · injection hj with hj; subst hj
     exact hok hfree hold
   · rename_i hne
     refine Res.ok_mono (m.ok j s hj) hk.size (fun b hlt hS => ⟨hk.2.2.2.2 b hlt ?_, hfree b hlt hS⟩) (fun b hbk => hk.2.2.2.2 b (Res.blk_lt (m.ok j s hj) hbk).1 ?_)
     · rintro ⟨r, h1, h2⟩; exact hS.2 ⟨i, r, h1, h2⟩
     · rintro ⟨r, h1, h2⟩; exact hne (m.sep i j r s b h1 hj h2 hbk)
 · intro p q r s b hp hq hr hs
   rw [lk_cons] at hp hq
   split at hp <;> split at hq
   · omega
   · rename_i h1 h2
     injection hp with hp; subst hp
     rcases hb b hr with ⟨r0, h3, h4⟩ | h
     · rw [← h1]; exact m.sep i q r0 s b h3 hq h4 hs
     · have := (Res.blk_lt (m.ok q s hq) hs).1; omega
   · rename_i h1 h2
     injection hq with hq; subst hq
     rcases hb b hs with ⟨r0, h3, h4⟩ | h
     · rw [← h2]; exact m.sep p i r r0 b hp h3 hr h4
     · have := (Res.blk_lt (m.ok p r hp) hr).1; omega
   · exact m.sep p q r s b hp hq hr hs
theorem MemOk.sub (m : MemOk X w0 M w) {M' : Mm} (h : ∀ i r, lk M' i = some r → lk M i = some r) : MemOk X w0 M' w where
 keep := m.keep
 fresh := m.fresh
 ok i r hi := Res.ok_mono (m.ok i r (h i r hi)) (Nat.le_refl _) (fun b _ hS => ⟨rfl, hS.1, fun ⟨j, s, hj, hs⟩ => hS.2 ⟨j, s, h j s hj, hs⟩⟩) (fun _ _ => rfl)
 sep i j r s b h1 h2 := m.sep i j r s b (h i r h1) (h j s h2)
theorem MemOk.drew (m : MemOk X w0 M w) : MemOk X w0 M w.drew := m.later ((Below.refl _ w).drew)
theorem MemOk.dat (m : MemOk X w0 M w) (i : Nat) (hi : lk M i = none) {v : Value} {d : D} (h : Rd (Free X M) w v d) : MemOk X w0 ((i, .dat v d) :: M) w :=
 m.upd i (.dat v d) (Keep.refl _ _) (fun b hb => by cases hb) (fun h1 _ => h.mono (Nat.le_refl _) (fun b hlt hS => ⟨rfl, h1 b hlt hS⟩))
theorem MemOk.box (m : MemOk X w0 M w) (i : Nat) (e : TypeId) (cs : Array Value) : MemOk X w0 ((i, .box w.heap.size e cs.toList) :: M) (w.alloc (.cells cs e)) :=
 m.upd i _ (Keep.alloc _ _ _) (fun b hb => .inr (by injection hb with hb; omega)) (fun _ _ => ⟨Blk.alloc w e cs, .inl m.keep.size⟩)
theorem numsS_own {N : Nat} {S : Nat → Prop} {w : World} {v : Value} {e : TypeId} {k : IntKind} {zs : List Int} (h : w.ownsRow N e 1 v zs.length (zs.map (Value.int k))) (hS : ∀ b, v.ownBlock = some b → S b) : NumsS S k w v zs := by
 rcases h.2 with ⟨rfl, h0⟩ | ⟨g, cap, cur, rfl, hg, hbk, h1, h2, h3, h4⟩
 · exact ⟨none, 0, by rw [h0], ⟨by omega, by unfold maxLen; omega⟩, .inl h0⟩
 · have hlt := (Array.getElem?_eq_some_iff.1 hbk).1
   refine ⟨_, cap, rfl, ⟨h1, h2⟩, .inr ⟨g, 0, rfl, hS g rfl, hlt, fun j hj => ?_⟩⟩
   have := h.cellAt j (by omega)
   rw [Nat.zero_add, this]
   simp [hj, List.getD]
theorem flatten_at {α : Type} {m : Nat} : ∀ (cs : List (List α)) (j q : Nat) (c : List α), (∀ c ∈ cs, c.length = m) → cs[j]? = some c → q < m → cs.flatten[j * m + q]? = c[q]?
 | [], j, q, c, _, hj, _ => by simp at hj
 | a :: cs, 0, q, c, h, hj, hq => by
   have ha := h a (by simp)
   simp at hj; subst hj
   rw [List.flatten_cons, Nat.zero_mul, Nat.zero_add, List.getElem?_append_left (by omega)]
 | a :: cs, j + 1, q, c, h, hj, hq => by
   have ha := h a (by simp)
   rw [List.flatten_cons, List.getElem?_append_right (by rw [ha, Nat.add_mul]; omega), ha, show (j + 1) * m + q - m = j * m + q by rw [Nat.add_mul]; omega]
   exact flatten_at cs j q c (fun c hc => h c (by simp [hc])) (by simpa using hj) hq
theorem rd_row {N : Nat} {S S' : Nat → Prop} {w : World} {v : Value} {e : TypeId} {m : Nat} {rows : List (List D)} (h : RowOk N S w v e m rows) (hS : ∀ b, b < w.heap.size → S b → S' b) (hv : ∀ b, v.ownBlock = some b → S' b) : Rd S' w v (.l m rows) := by
 obtain ⟨cs, h1, h2, h3, h4, h5⟩ := h
 rcases h1.2 with ⟨rfl, h0⟩ | ⟨g, cap, cur, rfl, hg, hbk, hcap, h7, h8, h9⟩
 · obtain rfl := List.length_eq_zero_iff.1 h0
   exact .l0 none 0 m
 · have hlt := (Array.getElem?_eq_some_iff.1 hbk).1
   refine .l m g 0 cap rows (fun j q => (cs.flatten[j * m + q]?).getD undef) (hv g rfl) hlt hcap h4 (fun j q hj hq => ?_) (fun j q r d hj hq => ?_)
   · have hjc : j < cs.length := by omega
     have hc : cs[j]? = some cs[j] := List.getElem?_eq_getElem hjc
     have hm := (h3 cs[j] (List.getElem_mem hjc)).1
     have hx : cs[j][q]? = some (cs[j][q]'(by omega)) := List.getElem?_eq_getElem (by omega)
     have hf := flatten_at cs j q cs[j] (fun c hc => (h3 c hc).1) hc hq
     have := h1.cellAt (j * m + q) (by calc j * m + q < j * m + m := by omega
         _ = (j + 1) * m := by rw [Nat.add_mul]; omega
         _ ≤ rows.length * m := Nat.mul_le_mul_right _ (by omega))
     rw [Nat.zero_add, this, hf, hx]
     exact ⟨rfl, (h3 cs[j] (List.getElem_mem hjc)).2 _ (List.getElem_mem _)⟩
   · have hjr := (List.getElem?_eq_some_iff.1 hj).1
     have hjc : j < cs.length := by omega
     have hc : cs[j]? = some cs[j] := List.getElem?_eq_getElem hjc
     have hm := (h3 cs[j] (List.getElem_mem hjc)).1
     have hqr := (List.getElem?_eq_some_iff.1 hq).1
     have hrm := h4 r (List.mem_of_getElem? hj)
     have hx : cs[j][q]? = some (cs[j][q]'(by omega)) := List.getElem?_eq_getElem (by omega)
     have hf := flatten_at cs j q cs[j] (fun c hc => (h3 c hc).1) hc (by omega)
     show Rd S' w ((cs.flatten[j * m + q]?).getD undef) d
     rw [hf, hx]
     exact (h5 j q cs[j] r _ d hc hj hx hq).mono (Nat.le_refl _) (fun b hlt hs => ⟨rfl, hS b hlt hs⟩)
theorem MemOk.cel (m : MemOk X w0 M w) (i : Nat) (hi : lk M i = none) {b o : Nat} {vs : List Value} (h1 : Free X M b) (h2 : b < w.heap.size) (h3 : w.rangeAt b o vs) : MemOk X w0 ((i, .cel b o vs) :: M) w :=
 m.upd i (.cel b o vs) (Keep.refl _ _) (fun b hb => by cases hb) (fun h _ => ⟨h b h2 h1, h2, h3⟩)
theorem MemOk.nilN (m : MemOk X w0 M w) (i : Nat) (e : TypeId) (k : IntKind) : MemOk X w0 ((i, .num (.slice none 0 0) e k []) :: M) w :=
 m.upd i _ (Keep.refl _ _) (fun b hb => by cases hb) (fun _ _ => World.ownsRow_nil _ _ _ _)
theorem MemOk.newN (m : MemOk X w0 M w) (i : Nat) {w' : World} (hb : Below w.heap.size w w') {v : Value} {e : TypeId} {k : IntKind} {zs : List Int} (h : w'.ownsRow w.heap.size e 1 v zs.length (zs.map (Value.int k))) : MemOk X w0 ((i, .num v e k zs) :: M) w' :=
 m.upd i _ ((Keep.ofBelow (bad := fun _ => False) hb).mono (fun _ h => h.elim)) (fun b hb => .inr (h.lt b hb).1) (fun _ _ => by
   refine ⟨h.1, ?_⟩
   rcases h.2 with hn | ⟨g, cap, cur, e1, hg, rest⟩
   · exact .inl hn
   · exact .inr ⟨g, cap, cur, e1, Nat.le_trans m.keep.size hg, rest⟩)
theorem MemOk.newR (m : MemOk X w0 M w) (i : Nat) {w' : World} (hb : Below w.heap.size w w') {v : Value} {e : TypeId} {k : Nat} {rows : List (List D)} (h : RowOk w.heap.size (fun b => (Free X M b ∧ b < w.heap.size) ∨ w.heap.size ≤ b ∧ v.ownBlock ≠ some b) w' v e k rows) : MemOk X w0 ((i, .row v e k rows) :: M) w' :=
 m.upd i _ ((Keep.ofBelow (bad := fun _ => False) hb).mono (fun _ h => h.elim)) (fun b hb => .inr (by obtain ⟨cs, h1, _⟩ := h; exact (h1.lt b hb).1)) (fun hf _ => by
   obtain ⟨cs, h1, h2, h3, h4, h5⟩ := h
   refine ⟨cs, ⟨h1.1, ?_⟩, h2, h3, h4, fun j q c r x d a1 a2 a3 a4 => (h5 j q c r x d a1 a2 a3 a4).mono (Nat.le_refl _) (fun b hlt hS => ⟨rfl, ?_⟩)⟩
   · rcases h1.2 with hn | ⟨g, cap, cur, e1, hg, rest⟩
     · exact .inl hn
     · exact .inr ⟨g, cap, cur, e1, Nat.le_trans m.keep.size hg, rest⟩
   · rcases hS with ⟨hS, hlt⟩ | ⟨hge, hne⟩
     · exact hf b hlt hS
     · refine ⟨m.fresh b (Nat.le_trans m.keep.size hge), ?_⟩
       rintro ⟨j, s, hj, hs⟩
       rw [lk_cons] at hj
       split at hj
       · injection hj with hj; subst hj; exact hne hs
       · have := (Res.blk_lt (m.ok j s hj) hs).1; omega)
theorem MemOk.freezeN (m : MemOk X w0 M w) (i : Nat) {v : Value} {e : TypeId} {k : IntKind} {zs : List Int} (h : lk M i = some (.num v e k zs)) : MemOk X w0 ((i, .dat v (.ns k zs)) :: M) w :=
 m.upd i _ (Keep.refl _ _) (fun b hb => by cases hb) (fun _ h2 => .ns (numsS_own (m.ok i _ h) (fun b hb => h2 b ⟨_, h, hb⟩ (World.ownsRow.lt (m.ok i _ h) b hb).1 (fun c hc => by cases hc))))
theorem MemOk.freezeR (m : MemOk X w0 M w) (i : Nat) {v : Value} {e : TypeId} {k : Nat} {rows : List (List D)} (h : lk M i = some (.row v e k rows)) : MemOk X w0 ((i, .dat v (.l k rows)) :: M) w :=
 m.upd i _ (Keep.refl _ _) (fun b hb => by cases hb) (fun h1 h2 => rd_row (m.ok i _ h) h1 (fun b hb => h2 b ⟨_, h, hb⟩ (by obtain ⟨cs, q, _⟩ := m.ok i _ h; exact (World.ownsRow.lt q b hb).1) (fun c hc => by cases hc)))
end
end
section
def evT (T : List (Nat × Value)) : Operand → Option Value
 | .tmp t => lk T t
 | .const v => some v
 | .global g => some (.pointer (some ⟨g, 0, none⟩))
 | .func f => some (.func (.func f) #[] #[])
structure Has (n : Nat) (T : List (Nat × Value)) (a : Act) : Prop where
 d : a.defers = []
 sz : a.tmps.size = n
 h : ∀ t v, lk T t = some v → a.tmps.getD t undef = v
def nthL {α : Type} : List α → Nat → Option α
 | [], _ => none
 | x :: _, 0 => some x
 | _ :: t, i + 1 => nthL t i
theorem nthL_eq {α : Type} : ∀ (l : List α) (i : Nat), l[i]? = nthL l i
 | [], i => by simp [nthL]
 | x :: l, 0 => by simp [nthL]
 | x :: l, i + 1 => by rw [List.getElem?_cons_succ]; exact nthL_eq l i
section
variable {n : Nat} {T : List (Nat × Value)} {a : Act}
theorem Has.ev (h : Has n T a) {x : Operand} {v : Value} (hx : evT T x = some v) : a.eval x = v := by
 cases x with
 | tmp t => exact h.h t v hx
 | const u => injection hx
 | global g => injection hx
 | func f => injection hx
theorem Has.put (h : Has n T a) {t : Nat} (ht : Nat.blt t n = true) (v : Value) : Has n ((t, v) :: T) (a.put (some t) v) where
 d := h.d
 sz := by show (a.tmps.setIfInBounds t v).size = n; rw [Array.size_setIfInBounds]; exact h.sz
 h s u hs := by
   have hlt : t < a.tmps.size := by rw [h.sz]; simpa [Nat.blt_eq] using ht
   rw [lk_cons] at hs
   show (a.tmps.setIfInBounds t v).getD s undef = u
   by_cases he : t = s
   · rw [if_pos he] at hs
     injection hs with hs; subst hs; subst he
     simp [Array.getD, hlt]
   · rw [if_neg he] at hs
     have := h.h s u hs
     rw [← this]
     simp [Array.getD_eq_getD_getElem?, Array.getElem?_setIfInBounds, he]
theorem Has.sub (h : Has n T a) {T' : List (Nat × Value)} (hs : ∀ t v, lk T' t = some v → lk T t = some v) : Has n T' a := ⟨h.d, h.sz, fun t v e => h.h t v (hs t v e)⟩
def keepT {α : Type} (T : List (Nat × α)) : List Nat → List (Nat × α)
 | [] => []
 | t :: l => match lk T t with | some v => (t, v) :: keepT T l | none => keepT T l
theorem keepT_lk {α : Type} (T : List (Nat × α)) : ∀ (l : List Nat) (t : Nat) (v : α), lk (keepT T l) t = some v → lk T t = some v
 | [], t, v, h => by cases h
 | s :: l, t, v, h => by
   unfold keepT at h
   cases hs : lk T s with
   | none => rw [hs] at h; exact keepT_lk T l t v h
   | some u =>
     rw [hs] at h
     dsimp only at h
     rw [lk_cons] at h
     by_cases he : s = t
     · rw [if_pos he] at h; injection h with h; subst h; subst he; exact hs
     · rw [if_neg he] at h; exact keepT_lk T l t v h
theorem Has.only (h : Has n T a) (l : List Nat) : Has n (keepT T l) a := h.sub (keepT_lk T l)
theorem bool_cases {G : Prop} (h : Has n T a) {t : Nat} {b : Bool} (hb : lk T t = some (.bool b)) (ht : b = true → Has n ((t, .bool true) :: T) a → G) (hf : b = false → Has n ((t, .bool false) :: T) a → G) : G := by
 cases b with
 | true =>
   refine ht rfl ⟨h.d, h.sz, fun s v hs => ?_⟩
   rw [lk_cons] at hs
   split at hs
   · rename_i e; subst e; injection hs with hs; rw [← hs]; exact h.h _ _ hb
   · exact h.h s v hs
 | false =>
   refine hf rfl ⟨h.d, h.sz, fun s v hs => ?_⟩
   rw [lk_cons] at hs
   split at hs
   · rename_i e; subst e; injection hs with hs; rw [← hs]; exact h.h _ _ hb
   · exact h.h s v hs
end

section
variable {P : Program} {n : Nat} {T : List (Nat × Value)} {a : Act} {w : World} {d : Option Tmp} {tt : TypeId} {pos : String} {af : Array Edge} {gd : Option (Nat × Bool)}
abbrev Yl (P : Program) (a : Act) (w : World) (o : Oper) (v : Value) : Prop := (execOp a.eval o).run P w = .ok (.value v) w
theorem run_eqP {t e : TypeId} (hu : P.underlying t = some (.pointer e)) (b : Option Addr) (w : World) : (Op.equal t (.pointer b) (.pointer none)).run P w = .ok b.isNone w := by
 show (Op.equalIn (9999 + 1) t (.pointer b) (.pointer none)).run P w = _
 generalize 9999 = m
 cases b <;> simp [Op.equalIn, run_underlying hu]
theorem y_move (h : Has n T a) {x : Operand} {v : Value} (hx : evT T x = some v) : Yl P a w ⟨d, .move x, tt, pos, af, gd⟩ v := by
 show (execOp _ _).run P w = _; simp [execOp, h.ev hx]
theorem y_assign (h : Has n T a) {x : Operand} {v : Value} (hx : evT T x = some v) : Yl P a w ⟨d, .assign x, tt, pos, af, gd⟩ v := by
 show (execOp _ _).run P w = _; simp [execOp, h.ev hx]
theorem y_pickT (h : Has n T a) {c x y : Operand} {v : Value} (hc : evT T c = some (.bool true)) (hx : evT T x = some v) : Yl P a w ⟨d, .pick c x y, tt, pos, af, gd⟩ v := by
 show (execOp _ _).run P w = _; simp [execOp, h.ev hx, h.ev hc, asBool]
theorem y_pickF (h : Has n T a) {c x y : Operand} {v : Value} (hc : evT T c = some (.bool false)) (hx : evT T y = some v) : Yl P a w ⟨d, .pick c x y, tt, pos, af, gd⟩ v := by
 show (execOp _ _).run P w = _; simp [execOp, h.ev hx, h.ev hc, asBool]
theorem y_not (h : Has n T a) {t : TypeId} {x : Operand} {b : Bool} (hx : evT T x = some (.bool b)) : Yl P a w ⟨d, .unOp .not t x, tt, pos, af, gd⟩ (.bool !b) := by
 show (execOp _ _).run P w = _; simp [execOp, h.ev hx, Op.unary]
theorem y_len (h : Has n T a) {t e : TypeId} {x : Operand} {p : Option Addr} {l c : Nat} (hx : evT T x = some (.slice p l c)) (hu : P.underlying t = some (.slice e)) : Yl P a w ⟨d, .call { callee := .builtin .len, args := #[x], argTypes := #[t] }, tt, pos, af, gd⟩ (.int .i64 l) := by
 show (execOp _ _).run P w = _; simp [execOp, resolve, invoke, builtin, h.ev hx, Builtin.len_, run_underlying hu, goInt]
section
variable {t t2 : TypeId} {x y : Operand} {k : IntKind} {p q r : Int}
theorem y_add (h : Has n T a) (hx : evT T x = some (.int k p)) (hy : evT T y = some (.int k q)) (hr : k.wrap (p + q) = r) : Yl P a w ⟨d, .binOp .add t x y t2, tt, pos, af, gd⟩ (.int k r) := by
 show (execOp _ _).run P w = _; simp [execOp, eqGuard, binOp, Op.intArith, h.ev hx, h.ev hy, hr]
theorem y_sub (h : Has n T a) (hx : evT T x = some (.int k p)) (hy : evT T y = some (.int k q)) (hr : k.wrap (p - q) = r) : Yl P a w ⟨d, .binOp .sub t x y t2, tt, pos, af, gd⟩ (.int k r) := by
 show (execOp _ _).run P w = _; simp [execOp, eqGuard, binOp, Op.intArith, h.ev hx, h.ev hy, hr]
theorem y_mul (h : Has n T a) (hx : evT T x = some (.int k p)) (hy : evT T y = some (.int k q)) (hr : k.wrap (p * q) = r) : Yl P a w ⟨d, .binOp .mul t x y t2, tt, pos, af, gd⟩ (.int k r) := by
 show (execOp _ _).run P w = _; simp [execOp, eqGuard, binOp, Op.intArith, h.ev hx, h.ev hy, hr]
theorem y_quo (h : Has n T a) (hx : evT T x = some (.int k p)) (hy : evT T y = some (.int k q)) (h0 : q ≠ 0) (hr : k.wrap (p.tdiv q) = r) : Yl P a w ⟨d, .binOp .quo t x y t2, tt, pos, af, gd⟩ (.int k r) := by
 show (execOp _ _).run P w = _; simp [execOp, eqGuard, binOp, Op.intDiv, h.ev hx, h.ev hy, hr, h0]
theorem y_rem (h : Has n T a) (hx : evT T x = some (.int k p)) (hy : evT T y = some (.int k q)) (h0 : q ≠ 0) (hr : p.tmod q = r) : Yl P a w ⟨d, .binOp .rem t x y t2, tt, pos, af, gd⟩ (.int k r) := by
 show (execOp _ _).run P w = _; simp [execOp, eqGuard, binOp, Op.intDiv, h.ev hx, h.ev hy, hr, h0]
theorem y_and (h : Has n T a) (hx : evT T x = some (.int k p)) (hy : evT T y = some (.int k q)) (hr : k.wrap (BitVec.ofInt k.bits p &&& BitVec.ofInt k.bits q).toNat = r) : Yl P a w ⟨d, .binOp .and t x y t2, tt, pos, af, gd⟩ (.int k r) := by
 show (execOp _ _).run P w = _; simp only [execOp, eqGuard, binOp, Op.intBits, h.ev hx, h.ev hy, hr]; simp
theorem y_or (h : Has n T a) (hx : evT T x = some (.int k p)) (hy : evT T y = some (.int k q)) (hr : k.wrap (BitVec.ofInt k.bits p ||| BitVec.ofInt k.bits q).toNat = r) : Yl P a w ⟨d, .binOp .or t x y t2, tt, pos, af, gd⟩ (.int k r) := by
 show (execOp _ _).run P w = _; simp only [execOp, eqGuard, binOp, Op.intBits, h.ev hx, h.ev hy, hr]; simp
theorem y_lss (h : Has n T a) (hx : evT T x = some (.int k p)) (hy : evT T y = some (.int k q)) : Yl P a w ⟨d, .binOp .lss t x y t2, tt, pos, af, gd⟩ (.bool (decide (p < q))) := by
 show (execOp _ _).run P w = _; simp [execOp, eqGuard, binOp, Op.intCmp, h.ev hx, h.ev hy]
theorem y_leq (h : Has n T a) (hx : evT T x = some (.int k p)) (hy : evT T y = some (.int k q)) : Yl P a w ⟨d, .binOp .leq t x y t2, tt, pos, af, gd⟩ (.bool (decide (p ≤ q))) := by
 show (execOp _ _).run P w = _; simp [execOp, eqGuard, binOp, Op.intCmp, h.ev hx, h.ev hy]
theorem y_gtr (h : Has n T a) (hx : evT T x = some (.int k p)) (hy : evT T y = some (.int k q)) : Yl P a w ⟨d, .binOp .gtr t x y t2, tt, pos, af, gd⟩ (.bool (decide (q < p))) := by
 show (execOp _ _).run P w = _; simp [execOp, eqGuard, binOp, Op.intCmp, h.ev hx, h.ev hy]
theorem y_geq (h : Has n T a) (hx : evT T x = some (.int k p)) (hy : evT T y = some (.int k q)) : Yl P a w ⟨d, .binOp .geq t x y t2, tt, pos, af, gd⟩ (.bool (decide (q ≤ p))) := by
 show (execOp _ _).run P w = _; simp [execOp, eqGuard, binOp, Op.intCmp, h.ev hx, h.ev hy]
theorem y_eql (h : Has n T a) (hx : evT T x = some (.int k p)) (hy : evT T y = some (.int k q)) : Yl P a w ⟨d, .binOp .eql t x y t2, tt, pos, af, gd⟩ (.bool (decide (p = q))) := by
 have e : (p == q) = decide (p = q) := rfl
 show (execOp _ _).run P w = _; simp [execOp, eqGuard, binOp, Op.intCmp, h.ev hx, h.ev hy, e]
theorem y_neq (h : Has n T a) (hx : evT T x = some (.int k p)) (hy : evT T y = some (.int k q)) : Yl P a w ⟨d, .binOp .neq t x y t2, tt, pos, af, gd⟩ (.bool (decide (p ≠ q))) := by
 have e : (p != q) = decide (p ≠ q) := by simp [bne]; rfl
 show (execOp _ _).run P w = _; simp only [execOp, eqGuard, binOp, Op.intCmp, h.ev hx, h.ev hy, e]; simp
theorem y_eqlP (h : Has n T a) {e : TypeId} {b : Option Addr} (hx : evT T x = some (.pointer b)) (hy : evT T y = some (.pointer none)) (hu : P.underlying t = some (.pointer e)) : Yl P a w ⟨d, .binOp .eql t x y t2, tt, pos, af, gd⟩ (.bool b.isNone) := by
 show (execOp _ _).run P w = _
 simp [execOp, eqGuard, binOp, h.ev hx, h.ev hy, run_eqP hu]
theorem y_conv (h : Has n T a) {s e : TypeId} {k' : IntKind} {ds : TypeDesc} (hx : evT T x = some (.int k p)) (hs : P.underlying s = some ds) (hd : P.underlying e = some (.int k')) (hr : k'.wrap p = r) : Yl P a w ⟨d, .convert s e x, tt, pos, af, gd⟩ (.int k' r) := by
 show (execOp _ _).run P w = _
 simp [execOp, h.ev hx, convert, run_underlying hs, run_underlying hd, Conv.intToInt, hr]
end
theorem y_extract (h : Has n T a) {x : Operand} {vs : Array Value} {i : Nat} {v : Value} (hx : evT T x = some (.tuple vs)) (hv : nthL vs.toList i = some v) : Yl P a w ⟨d, .extract x i, tt, pos, af, gd⟩ v := by
 have hv : vs[i]? = some v := by rw [← hv, ← nthL_eq]; simp
 show (execOp _ _).run P w = _; simp [execOp, h.ev hx, Instr.extract, hv]
theorem y_nilCheck (h : Has n T a) {x : Operand} {p : Addr} (hx : evT T x = some (.pointer (some p))) : Yl P a w ⟨d, .nilCheck x, tt, pos, af, gd⟩ (.pointer (some p)) := by
 show (execOp _ _).run P w = _; simp [execOp, h.ev hx]
theorem y_fieldAddr (h : Has n T a) {t : TypeId} {x : Operand} {i g o : Nat} {fs : Array Field} {f : Field} {s off : Nat} (hx : evT T x = some (.pointer (some ⟨g, o, none⟩))) (hu : P.underlying t = some (.struct fs)) (hf : fs[i]? = some f) (hs : (P.info? f.type).map (·.size) = some (s + 1)) (ho : o + f.offset = off) : Yl P a w ⟨d, .fieldAddr t x i, tt, pos, af, gd⟩ (.pointer (some ⟨g, off, none⟩)) := by
 subst ho
 show (execOp _ _).run P w = _
 cases hq : P.info? f.type with
 | none => simp [hq] at hs
 | some j =>
   have hj : j.size = s + 1 := by simpa [hq] using hs
   simp [execOp, h.ev hx, Instr.fieldAt, run_underlying hu, hf, Instr.sureAddr, fieldPlace, sizeOf, typeInfo, hq, hj, Addr.add_mid]
theorem y_fieldAddrQ (h : Has n T a) {t : TypeId} {x : Operand} {i g o : Nat} {fs : Array Field} {f : Field} {s : Nat} (q : Nat) (hx : evT T x = some (.pointer (some ⟨g, o, none⟩))) (hu : P.underlying t = some (.struct fs)) (hf : fs[i]? = some f) (hs : (P.info? f.type).map (·.size) = some (s + 1)) (hq : f.offset = q) : Yl P a w ⟨d, .fieldAddr t x i, tt, pos, af, gd⟩ (.pointer (some ⟨g, o + q, none⟩)) :=
 y_fieldAddr h hx hu hf hs (by rw [hq])
theorem run_isAgg {t : TypeId} {td : TypeDesc} (hu : P.underlying t = some td) (w : World) : (isAgg t).run P w = .ok td.isRow w := by
 unfold isAgg
 rw [Sem.run_bind, run_underlying hu w]
 cases td <;> simp_all
theorem y_field1 (h : Has n T a) {t : TypeId} {x : Operand} {i : Nat} {cs : Array Value} {fs : Array Field} {f : Field} {td : TypeDesc} {v : Value} (hx : evT T x = some (.agg cs)) (hu : P.underlying t = some (.struct fs)) (hf : fs[i]? = some f) (hd : P.underlying f.type = some td) (hr : td.isRow = false) (hv : cs[f.offset]? = some v) : Yl P a w ⟨d, .field t x i, tt, pos, af, gd⟩ v := by
 show (execOp _ _).run P w = _
 simp [execOp, h.ev hx, Instr.field, run_underlying hu, hf, asAgg, part, run_isAgg hd, hr, hv]
theorem y_sliceH (h : Has n T a) {t e : TypeId} {x y : Operand} {p : Option Addr} {l c : Nat} {k : IntKind} {q : Int} (hx : evT T x = some (.slice p l c)) (hy : evT T y = some (.int k q)) (hu : P.underlying t = some (.slice e)) {s : Nat} (hs : (P.info? e).map (·.size) = some s) (h0 : 0 ≤ q) (h1 : q ≤ c) : Yl P a w ⟨d, .slice t x none (some y) none, tt, pos, af, gd⟩ (.slice p q.toNat c) := by
 show (execOp _ _).run P w = _
 cases hq : P.info? e with
 | none => simp [hq] at hs
 | some j =>
   have hp : (Option.map (fun x : Addr => x.add 0) p) = p := by cases p <;> simp [Addr.add]
   simp [execOp, h.ev hx, h.ev hy, Instr.sliceAt, run_underlying hu, Instr.slice, Instr.sliceBounds, Instr.sliceBound, asIntOf, h0, h1, sizeOf, typeInfo, hq, hp]
theorem y_sliceL (h : Has n T a) {t e : TypeId} {x y : Operand} {p : Option Addr} {l c : Nat} {k : IntKind} {q : Int} (hx : evT T x = some (.slice p l c)) (hy : evT T y = some (.int k q)) (hu : P.underlying t = some (.slice e)) {s : Nat} (hs : (P.info? e).map (·.size) = some s) (h0 : 0 ≤ q) (h1 : q ≤ l) : Yl P a w ⟨d, .slice t x (some y) none none, tt, pos, af, gd⟩ (.slice (if c = q.toNat then p else p.map (·.add (q.toNat * s))) (l - q.toNat) (c - q.toNat)) := by
 show (execOp _ _).run P w = _
 cases hq : P.info? e with
 | none => simp [hq] at hs
 | some j =>
   have hj : j.size = s := by simpa [hq] using hs
   simp [execOp, h.ev hx, h.ev hy, Instr.sliceAt, run_underlying hu, Instr.slice, Instr.sliceBounds, Instr.sliceBound, asIntOf, h0, h1, sizeOf, typeInfo, hq, hj]
def evP (T : List (Nat × Value)) : List (Nat × Operand) → Option (List (Nat × Value))
 | [] => some []
 | (i, x) :: l => match evT T x, evP T l with
   | some v, some r => some ((i, v) :: r)
   | _, _ => none
def evA (T : List (Nat × Value)) : List Operand → Option (List Value)
 | [] => some []
 | x :: l => match evT T x, evA T l with
   | some v, some r => some (v :: r)
   | _, _ => none
theorem Has.evP (h : Has n T a) : ∀ {l : List (Nat × Operand)} {pl : List (Nat × Value)}, evP T l = some pl → l.map (fun x => (x.1, a.eval x.2)) = pl
 | [], pl, e => by cases e; rfl
 | (i, x) :: l, pl, e => by
   unfold K.evP at e
   cases hx : evT T x with
   | none => rw [hx] at e; cases e
   | some v =>
     cases hl : K.evP T l with
     | none => rw [hx, hl] at e; cases e
     | some r =>
       rw [hx, hl] at e
       injection e with e; subst e
       rw [List.map_cons, h.evP hl, h.ev hx]
theorem Has.evA (h : Has n T a) : ∀ {l : List Operand} {vs : List Value}, evA T l = some vs → l.map a.eval = vs
 | [], vs, e => by cases e; rfl
 | x :: l, vs, e => by
   unfold K.evA at e
   cases hx : evT T x with
   | none => rw [hx] at e; cases e
   | some v =>
     cases hl : K.evA T l with
     | none => rw [hx, hl] at e; cases e
     | some r =>
       rw [hx, hl] at e
       injection e with e; subst e
       rw [List.map_cons, h.evA hl, h.ev hx]
def setL : List Value → List (Nat × Value) → List Value
 | z, [] => z
 | z, (i, v) :: r => setL (z.set i v) r
def flatS (P : Program) (t : TypeId) (z : List Value) : Bool :=
 match P.info? t, P.underlying t with
 | some it, some (.struct fs) => (match it.zero with | some (.agg c) => c.size == z.length | some _ => false | none => false) && fs.size == z.length && (List.range fs.size).all fun i => match fs[i]? with
   | some f => f.offset == i && (match P.info? f.type with | some j => j.size == 1 | none => false)
   | none => false
 | _, _ => false
theorem fill_set (place : Nat → Option (Nat × Nat)) (N : Nat) (hp : ∀ i, i < N → place i = some (i, 1)) : ∀ (pl : List (Nat × Value)) (z : List Value), z.length = N → pl.all (fun p => decide (p.1 < N) && p.2.oneCell') = true → (∀ p ∈ pl, p.2.cells = #[p.2]) → Instr.fill place z.toArray pl = some (setL z pl).toArray
 | [], z, _, _, _ => rfl
 | (i, v) :: r, z, hz, ha, hc => by
   simp only [List.all_cons, Bool.and_eq_true, decide_eq_true_eq] at ha
   have hv : v.cells = #[v] := hc (i, v) (by simp)
   rw [Instr.fill, hp i ha.1.1, hv]
   have h1 : ¬ (z.toArray.size < i + 1) := by simp; omega
   simp only [List.size_toArray, List.length_cons, List.length_nil, Nat.zero_add, ne_eq, not_true_eq_false, decide_false, Bool.false_or, gt_iff_lt, decide_eq_true_eq]
   rw [if_neg (by omega)]
   have := fill_set place N hp r (z.set i v) (by simp [hz]) (by simpa using ha.2) (fun p hq => hc p (by simp [hq]))
   rw [setL, ← this]
   congr 1
   simp
theorem cells_one {v : Value} (h : v.oneCell' = true) : v.cells = #[v] := by cases v <;> first | rfl | cases h
theorem built_flat {t : TypeId} {z : List Value} (hz : ((P.info? t).bind (·.zero)).map (·.cells.toList) = some z) (hf : flatS P t z = true) (pl : List (Nat × Value)) (hp : pl.all (fun p => decide (p.1 < z.length) && p.2.oneCell') = true) : P.built t pl = some (setL z pl).toArray := by
 unfold flatS at hf
 unfold Program.built
 cases hi : P.info? t with
 | none => simp [hi] at hf
 | some it =>
   cases hu : P.underlying t with
   | none => simp [hi, hu] at hf
   | some td =>
     cases td <;> try (simp [hi, hu] at hf; done)
     case struct fs =>
       cases hzz : it.zero with
       | none => simp [hi, hzz] at hz
       | some zz =>
         simp only [hi, hu, hzz, Bool.and_eq_true, beq_iff_eq, List.all_eq_true, List.mem_range] at hf
         obtain ⟨⟨-, hs⟩, hall⟩ := hf
         have hzl : zz.cells.toList = z := by simpa [hi, hzz] using hz
         have hzc : zz.cells = z.toArray := by rw [← hzl]
         have hpl : fs.toList.mapM (fun f => (P.info? f.type).map fun i => (f.offset, i.size)) = some (fs.toList.map (fun f => (f.offset, 1))) := by
           have : ∀ f ∈ fs.toList, ((P.info? f.type).map fun i => (f.offset, i.size)) = some (f.offset, 1) := by
             intro f hf
             obtain ⟨i, hi1, hi2⟩ := List.getElem_of_mem hf
             have := hall i (by simpa using hi1)
             rw [Array.getElem?_eq_getElem (by simpa using hi1)] at this
             have e : fs[i]'(by simpa using hi1) = f := by simpa using hi2
             rw [e] at this
             simp only [Bool.and_eq_true, beq_iff_eq] at this
             cases hq : P.info? f.type with
             | none => simp [hq] at this
             | some j => simp only [hq, beq_iff_eq] at this; simp [this.2]
           have gen : ∀ l : List Field, (∀ f ∈ l, ((P.info? f.type).map fun i => (f.offset, i.size)) = some (f.offset, 1)) → l.mapM (fun f => (P.info? f.type).map fun i => (f.offset, i.size)) = some (l.map (fun f => (f.offset, 1))) := by
             intro l
             induction l with
             | nil => intro _; rfl
             | cons f l ih => intro h; rw [List.mapM_cons, h f (by simp), ih (fun g hg => h g (by simp [hg]))]; rfl
           exact gen _ this
         simp only [hzz, hpl, hzc]
         refine fill_set _ z.length (fun i hi' => ?_) pl z rfl hp (fun p hq => cells_one (by
           have := List.all_eq_true.1 hp p hq
           simp only [Bool.and_eq_true] at this
           exact this.2))
         have hlt : i < fs.size := by omega
         have := hall i hlt
         rw [Array.getElem?_eq_getElem hlt] at this
         simp only [Bool.and_eq_true, beq_iff_eq] at this
         simp [hlt, this.1]
theorem y_build (h : Has n T a) {t : TypeId} {parts : Array (Nat × Operand)} {z cs : List Value} {pl : List (Nat × Value)} (hp : K.evP T parts.toList = some pl) (hz : ((P.info? t).bind (·.zero)).map (·.cells.toList) = some z) (hf : flatS P t z = true) (h1 : pl.all (fun p => decide (p.1 < z.length) && p.2.oneCell') = true) (hc : setL z pl = cs) : Yl P a w ⟨d, .build t parts, tt, pos, af, gd⟩ (.agg cs.toArray) := by
 have hb := built_flat hz hf pl h1
 have hpl := h.evP hp
 show (execOp _ _).run P w = _
 have hr := run_build (P := P) w t (parts.map fun (i, x) => (i, a.eval x)) (setL z pl).toArray (by rw [Array.toList_map]; rw [← hpl] at hb ⊢; exact hb)
 simp only [execOp, Sem.run_bind, hr, Result.andThen_ok, Sem.run_pure, hc]
end
end
section
inductive RdL (S : Nat → Prop) (w : World) : List Value → List D → Prop
 | nil : RdL S w [] []
 | cons {v : Value} {d : D} {vs : List Value} {ds : List D} (h : Rd S w v d) (t : RdL S w vs ds) : RdL S w (v :: vs) (d :: ds)
theorem RdL.of {S : Nat → Prop} {w : World} : ∀ {vs : List Value} {ds : List D}, vs.length = ds.length → (∀ (q : Nat) (v : Value) (d : D), vs[q]? = some v → ds[q]? = some d → Rd S w v d) → RdL S w vs ds
 | [], [], _, _ => .nil
 | v :: vs, d :: ds, hl, h => .cons (h 0 v d rfl rfl) (RdL.of (by simpa using hl) (fun q v d h1 h2 => h (q + 1) v d (by simpa using h1) (by simpa using h2)))
 | [], _ :: _, hl, _ => by simp at hl
 | _ :: _, [], hl, _ => by simp at hl
theorem RdL.len {S : Nat → Prop} {w : World} {vs : List Value} {ds : List D} (h : RdL S w vs ds) : vs.length = ds.length := by
 induction h with
 | nil => rfl
 | cons _ _ ih => simp [ih]
theorem RdL.get {S : Nat → Prop} {w : World} {vs : List Value} {ds : List D} (h : RdL S w vs ds) : ∀ (q : Nat) (v : Value) (d : D), vs[q]? = some v → ds[q]? = some d → Rd S w v d := by
 induction h with
 | nil => intro q v d h1; simp at h1
 | cons hh _ ih =>
   intro q v d h1 h2
   cases q with
   | zero => simp at h1 h2; subst h1; subst h2; exact hh
   | succ q => exact ih q v d (by simpa using h1) (by simpa using h2)
theorem RdL.mono {S S' : Nat → Prop} {w W : World} {vs : List Value} {ds : List D} (h : RdL S w vs ds) (hs : w.heap.size ≤ W.heap.size) (hk : ∀ b, b < w.heap.size → S b → W.heap[b]? = w.heap[b]? ∧ S' b) : RdL S' W vs ds := by
 induction h with
 | nil => exact .nil
 | cons hh _ ih => exact .cons (hh.mono hs hk) ih

section
variable {P : Program} {n : Nat} {T : List (Nat × Value)} {a : Act} {w w0 : World} {X : Cx} {M : Mm} {tt : TypeId} {pos : String} {af : Array Edge} {gd : Option (Nat × Bool)} {ops : Array Oper} {rest : List Oper} {Q : Exit → Act → World → Prop} {K : Act → World → Prop}
theorem st_y {d : Tmp} {op : Op} {v : Value} (ha : Has n T a) (ht : Nat.blt d n = true) (hy : Yl P a w ⟨some d, op, tt, pos, af, none⟩ v) (h : ∀ a', Has n ((d, v) :: T) a' → wpList P ops Q rest a' w) : wpList P ops Q (⟨some d, op, tt, pos, af, none⟩ :: rest) a w := by
 refine wpList_plain rfl fun K hK => ?_
 show Oper.upon P _ a K Q ((execOp a.eval _).run P w)
 rw [hy]
 exact hK _ _ (h _ (ha.put ht v))
theorem Has.yielded (ha : Has n T a) {j t : Nat} {b : Bool} (hj : (ops[j]?).bind (·.dst) = some t) (hb : lk T t = some (.bool b)) (ht : Nat.blt t n = true) : Go.yielded ops a.tmps j = some b := by
 have hlt : t < a.tmps.size := by rw [ha.sz]; simpa [Nat.blt_eq] using ht
 have := ha.h t _ hb
 unfold Go.yielded
 rw [hj]
 show (match a.tmps[t]? with | some (.bool b) => some b | _ => none) = some b
 rw [Array.getElem?_eq_getElem hlt]
 have e : a.tmps[t] = .bool b := by simpa [Array.getD, hlt] using this
 rw [e]
theorem st_g {d : Tmp} {op : Op} {v : Value} {j t : Nat} {b : Bool} (ha : Has n T a) (hj : (ops[j]?).bind (·.dst) = some t) (hb : lk T t = some (.bool b)) (ht2 : Nat.blt t n = true) (ht : Nat.blt d n = true) (hy : Yl P a w ⟨some d, op, tt, pos, af, some (j, b)⟩ v) (h : ∀ a', Has n ((d, v) :: T) a' → wpList P ops Q rest a' w) : wpList P ops Q (⟨some d, op, tt, pos, af, some (j, b)⟩ :: rest) a w := by
 refine wpList_step fun K hK => ?_
 rw [if_pos (by simp [Region.wanted, ha.yielded hj hb ht2])]
 show Oper.upon P _ a K Q ((execOp a.eval _).run P w)
 rw [hy]
 exact hK _ _ (h _ (ha.put ht v))
theorem st_ge {o : Oper} {j t : Nat} {b : Bool} (ha : Has n T a) (hg : o.guard = some (j, b)) (hj : (ops[j]?).bind (·.dst) = some t) (hb : lk T t = some (.bool b)) (ht2 : Nat.blt t n = true) (h : ∀ K : Act → World → Prop, (∀ a w, wpList P ops Q rest a w → K a w) → o.wp P a w K Q) : wpList P ops Q (o :: rest) a w := by
 refine wpList_step fun K hK => ?_
 rw [if_pos (by simp [Region.wanted, hg, ha.yielded hj hb ht2])]
 exact h K hK
theorem st_skip {d : Tmp} {op : Op} {j t : Nat} {b : Bool} (ha : Has n T a) (hj : (ops[j]?).bind (·.dst) = some t) (hb : lk T t = some (.bool !b)) (ht2 : Nat.blt t n = true) (ht : Nat.blt d n = true) (h : ∀ a', Has n ((d, undef) :: T) a' → wpList P ops Q rest a' w) : wpList P ops Q (⟨some d, op, tt, pos, af, some (j, b)⟩ :: rest) a w := by
 refine wpList_step fun K hK => ?_
 rw [if_neg (by simp [Region.wanted, ha.yielded hj hb ht2])]
 exact hK _ _ (h _ (ha.put ht _))

/-! ### Reading -/
theorem run_load1 {w : World} {t : TypeId} {td : TypeDesc} {p : Addr} {v : Value} (hu : P.underlying t = some td) (hr : td.isRow = false) (hc : w.cell? p = some v) : (loadVar t p).run P w = .ok v w := by
 simp [loadVar, run_isAgg hu, hr, hc]
theorem y_loadB1 (ha : Has n T a) (m : MemOk X w0 M w) {d : Option Tmp} {t : TypeId} {td : TypeDesc} {x : Operand} {i g o : Nat} {e : TypeId} {cs : List Value} {v : Value} (hm : lk M i = some (.box g e cs)) (hx : evT T x = some (.pointer (some ⟨g, o, none⟩))) (hv : cs[o]? = some v) (hu : P.underlying t = some td) (hr : td.isRow = false) : Yl P a w ⟨d, .load t x, tt, pos, af, gd⟩ v := by
 have hc : w.cell? ⟨g, o, none⟩ = some v := by rw [(m.ok i _ hm).1.cell]; exact hv
 show (execOp _ _).run P w = _
 simp [execOp, ha.ev hx, Instr.loadAt, Instr.sureAddr, run_load1 hu hr hc]
theorem y_loadBR (ha : Has n T a) (m : MemOk X w0 M w) {d : Option Tmp} {t : TypeId} {td : TypeDesc} {x : Operand} {i g o k : Nat} {e : TypeId} {cs vs : List Value} (hm : lk M i = some (.box g e cs)) (hx : evT T x = some (.pointer (some ⟨g, o, none⟩))) (hu : P.underlying t = some td) (hr : td.isRow = true) (hs : (P.info? t).map (·.size) = some k) (hk : o + k ≤ cs.length) (hv : (cs.drop o).take k = vs) : Yl P a w ⟨d, .load t x, tt, pos, af, gd⟩ (.agg vs.toArray) := by
 have hl : vs.length = k := by rw [← hv, List.length_take, List.length_drop]; omega
 have hc : w.rangeAt g o vs := fun j v hj => by
   have hjl := (List.getElem?_eq_some_iff.1 hj).1
   rw [(m.ok i _ hm).1.cell, ← hj, ← hv, List.getElem?_take, if_pos (by omega), List.getElem?_drop]
 show (execOp _ _).run P w = _
 rw [exec_load t x rfl g o (ha.ev hx) vs td hc hu hr (by rw [hs, hl])]
theorem y_loadC1 (ha : Has n T a) (m : MemOk X w0 M w) {d : Option Tmp} {t : TypeId} {td : TypeDesc} {x : Operand} {i b o q : Nat} {vs : List Value} {v : Value} (hm : lk M i = some (.cel b o vs)) (hx : evT T x = some (.pointer (some ⟨b, o + q, none⟩))) (hv : vs[q]? = some v) (hu : P.underlying t = some td) (hr : td.isRow = false) : Yl P a w ⟨d, .load t x, tt, pos, af, gd⟩ v := by
 have hc : w.cell? ⟨b, o + q, none⟩ = some v := (m.ok i _ hm).2.2 q v hv
 show (execOp _ _).run P w = _
 simp [execOp, ha.ev hx, Instr.loadAt, Instr.sureAddr, run_load1 hu hr hc]
theorem y_loadC0 (ha : Has n T a) (m : MemOk X w0 M w) {d : Option Tmp} {t : TypeId} {td : TypeDesc} {x : Operand} {i b o : Nat} {vs : List Value} {v : Value} (hm : lk M i = some (.cel b o (v :: vs))) (hx : evT T x = some (.pointer (some ⟨b, o, none⟩))) (hu : P.underlying t = some td) (hr : td.isRow = false) : Yl P a w ⟨d, .load t x, tt, pos, af, gd⟩ v :=
 y_loadC1 ha m (q := 0) hm hx rfl hu hr
theorem run_idx {w : World} {t e : TypeId} {b o l c s : Nat} {k : IntKind} {q : Int} (hu : P.underlying t = some (.slice e)) (hs : (P.info? e).map (·.size) = some s) (j : Nat) (hq : q = j) (hj : j < l) : (Instr.indexAt t (.slice (some ⟨b, o, none⟩) l c) (.int k q)).run P w = .ok (.pointer (some ⟨b, o + j * s, none⟩)) w := by
 subst hq
 cases hi : P.info? e with
 | none => simp [hi] at hs
 | some i =>
   have hj' : i.size = s := by simpa [hi] using hs
   have h2 : ((j : Int) < (l : Int)) := by omega
   have h3 : ¬ l ≤ j := by omega
   simp [Instr.indexAt, asIntOf, run_underlying hu, h2, h3, sizeOf, typeInfo, hi, hj', Addr.add_mid]
theorem Rd.ns_out {S : Nat → Prop} {v : Value} {k : IntKind} {zs : List Int} (h : Rd S w v (.ns k zs)) : NumsS S k w v zs := by cases h with | ns h => exact h
theorem Rd.v_out {S : Nat → Prop} {v x : Value} (h : Rd S w v (.v x)) : v = x := by cases h; rfl
theorem Rd.ns_shape {S : Nat → Prop} {v : Value} {k : IntKind} {zs : List Int} (h : Rd S w v (.ns k zs)) : ∃ p c, v = .slice p zs.length c ∧ zs.length ≤ c := by
 obtain ⟨p, c, rfl, hc, -⟩ := h.ns_out; exact ⟨p, c, rfl, hc.1⟩
theorem Rd.l_shape {S : Nat → Prop} {v : Value} {m : Nat} {rows : List (List D)} (h : Rd S w v (.l m rows)) : ∃ p c, v = .slice p rows.length c ∧ rows.length ≤ c := by
 cases h with
 | l0 a c m => exact ⟨a, c, rfl, Nat.zero_le _⟩
 | l m b off c rows f hS hb hc => exact ⟨_, c, rfl, hc⟩
/-! ### Making, writing, calling -/
theorem e_alloc (ha : Has n T a) (m : MemOk X w0 M w) (i : Nat) {d : Tmp} {t : TypeId} {cs : List Value} (hz : ((P.info? t).bind (·.zero)).map (·.cells.toList) = some cs) (ht : Nat.blt d n = true) (h : ∀ g a' w', Has n ((d, .pointer (some ⟨g, 0, none⟩)) :: T) a' → MemOk X w0 ((i, .box g t cs) :: M) w' → Below w.heap.size w w' → g = w.heap.size → K a' w') : Oper.wp P ⟨some d, .alloc t, tt, pos, af, gd⟩ a w K Q := by
 cases hi : P.info? t with
 | none => simp [hi] at hz
 | some it =>
   cases hzz : it.zero with
   | none => simp [hi, hzz] at hz
   | some z =>
     have hc : z.cells.toList = cs := by simpa [hi, hzz] using hz
     have hr : (execOp a.eval ⟨some d, .alloc t, tt, pos, af, gd⟩).run P w = .ok (.value (.pointer (some ⟨w.heap.size, 0, none⟩))) (w.alloc (.cells z.cells t)) := by
       simp [execOp, Instr.alloc, zeroValue, typeInfo, hi, hzz, newVar, newRow]
     show Oper.upon P _ a K Q _
     rw [hr]
     have := m.box i t z.cells
     rw [hc] at this
     exact h _ _ _ (ha.put ht _) this ((Below.refl _ w).alloc (Nat.le_refl _) _) rfl
theorem e_box (ha : Has n T a) (m : MemOk X w0 M w) (i : Nat) {d : Tmp} {t : TypeId} {x : Operand} {v : Value} {cs : List Value} (hx : evT T x = some v) (hc : v.cells.toList = cs) (ht : Nat.blt d n = true) (h : ∀ g a' w', Has n ((d, .pointer (some ⟨g, 0, none⟩)) :: T) a' → MemOk X w0 ((i, .box g t cs) :: M) w' → Below w.heap.size w w' → g = w.heap.size → K a' w') : Oper.wp P ⟨some d, .box t x, tt, pos, af, gd⟩ a w K Q := by
 have hr : (execOp a.eval ⟨some d, .box t x, tt, pos, af, gd⟩).run P w = .ok (.value (.pointer (some ⟨w.heap.size, 0, none⟩))) (w.alloc (.cells v.cells t)) := by
   simp [execOp, Instr.box, newVar, newRow, ha.ev hx]
 show Oper.upon P _ a K Q _
 rw [hr]
 have := m.box i t v.cells
 rw [hc] at this
 exact h _ _ _ (ha.put ht _) this ((Below.refl _ w).alloc (Nat.le_refl _) _) rfl
theorem MemOk.setB (m : MemOk X w0 M w) {i g : Nat} {e : TypeId} {cs cs' : List Value} (hm : lk M i = some (.box g e cs)) {w' : World} (hb : Blk w' g e cs') (hk : Keep (fun b => b = g) w w') : MemOk X w0 ((i, .box g e cs') :: M) w' :=
 m.upd i _ (hk.mono (fun b e => ⟨_, hm, by rw [show b = g from e]; rfl⟩)) (fun b hb => .inl ⟨_, hm, hb⟩) (fun _ _ => ⟨hb, (m.ok i _ hm).2⟩)
theorem e_store1 (ha : Has n T a) (m : MemOk X w0 M w) (i : Nat) {g o : Nat} {t e : TypeId} {x y : Operand} {cs cs' : List Value} {v : Value} (hm : lk M i = some (.box g e cs)) (hx : evT T x = some (.pointer (some ⟨g, o, none⟩))) (hy : evT T y = some v) (h1 : v.oneCell' = true) (ho : Nat.blt o cs.length = true) (hs : (P.info? t).map (·.size) = some 1) (hc : cs.set o v = cs') (h : ∀ w', MemOk X w0 ((i, .box g e cs') :: M) w' → Keep (fun b => b = g) w w' → K a w') : Oper.wp P ⟨none, .store t x y, tt, pos, af, gd⟩ a w K Q := by
 have ho' : o < cs.length := by simpa [Nat.blt_eq] using ho
 obtain ⟨w', hr, hb, hk⟩ := run_storeVar_blk (P := P) (m.ok i _ hm).1 o t [v] (by simp; omega) (by simpa using hs) (by simpa using h1)
 have hst : (Instr.storeAt t (.pointer (some ⟨g, o, none⟩)) v).run P w = .ok () w' := by
   have e1 : v.cells = #[v] := cells_one h1
   have e2 : (Value.agg #[v]).cells = #[v] := rfl
   simp only [Instr.storeAt, storeVar, List.toArray, e1, e2] at hr ⊢
   exact hr
 have hrun : (execOp a.eval ⟨none, .store t x y, tt, pos, af, gd⟩).run P w = .ok .skip w' := by
   simp [execOp, ha.ev hx, ha.ev hy, hst]
 show Oper.upon P _ a K Q _
 rw [hrun]
 refine h w' (m.setB hm ?_ (hk _ rfl)) (hk _ rfl)
 rw [← hc, List.set_eq_take_append_cons_drop, if_pos ho']
 simpa using hb
theorem e_storeR (ha : Has n T a) (m : MemOk X w0 M w) (i : Nat) {g o : Nat} {t e : TypeId} {x y : Operand} {cs cs' : List Value} {xs : Array Value} (hm : lk M i = some (.box g e cs)) (hx : evT T x = some (.pointer (some ⟨g, o, none⟩))) (hy : evT T y = some (.agg xs)) (h1 : xs.toList.all (fun v => v.oneCell') = true) (ho : Nat.ble (o + xs.size) cs.length = true) (hs : (P.info? t).map (·.size) = some xs.size) (hc : cs.take o ++ xs.toList ++ cs.drop (o + xs.size) = cs') (h : ∀ w', MemOk X w0 ((i, .box g e cs') :: M) w' → Keep (fun b => b = g) w w' → K a w') : Oper.wp P ⟨none, .store t x y, tt, pos, af, gd⟩ a w K Q := by
 obtain ⟨w', hr, hb, hk⟩ := run_storeVar_blk (P := P) (m.ok i _ hm).1 o t xs.toList (by simpa using ho) (by simpa using hs) (List.all_eq_true.1 h1)
 have hrun : (execOp a.eval ⟨none, .store t x y, tt, pos, af, gd⟩).run P w = .ok .skip w' := by
   have hr' : (Instr.storeAt t (.pointer (some ⟨g, o, none⟩)) (.agg xs)).run P w = .ok () w' := by simpa using hr
   simp [execOp, ha.ev hx, ha.ev hy, hr']
 show Oper.upon P _ a K Q _
 rw [hrun]
 refine h w' (m.setB hm ?_ (hk _ rfl)) (hk _ rfl)
 rw [← hc]
 simpa using hb
theorem e_storeW (ha : Has n T a) (m : MemOk X w0 M w) (i : Nat) {g : Nat} {t e : TypeId} {x y : Operand} {cs xs : List Value} (hm : lk M i = some (.box g e cs)) (hx : evT T x = some (.pointer (some ⟨g, 0, none⟩))) (hy : evT T y = some (.agg xs.toArray)) (h1 : xs.all (fun v => v.oneCell') = true) (hl : xs.length = cs.length) (hs : (P.info? t).map (·.size) = some xs.length) (h : ∀ w', MemOk X w0 ((i, .box g e xs) :: M) w' → Keep (fun b => b = g) w w' → K a w') : Oper.wp P ⟨none, .store t x y, tt, pos, af, gd⟩ a w K Q :=
 e_storeR ha m i hm hx hy (by simpa using h1) (by simp; omega) (by simpa using hs) (by simp [hl]) h
theorem e_call (ha : Has n T a) {d : Tmp} {f : FuncId} {args : Array Operand} {ats : Array TypeId} {fn : Func} {vs : List Value} (hf : P.funcs[f]? = some fn) (hn : (fn.name == "runtime.NumGoroutine") = false) (hb : fn.body.isNone = false) (hargs : evA T args.toList = some vs) (ht : Nat.blt d n = true) {R : Ending → World → Prop} (hc : Calls P f vs.toArray w R) (h : ∀ e w', R e w' → ∃ v, e = .returned v ∧ ∀ a', Has n ((d, v) :: T) a' → K a' w') : Oper.wp P ⟨some d, .call { callee := .value (.func f), args := args, argTypes := ats }, tt, pos, af, gd⟩ a w K Q := by
 have hv : args.map a.eval = vs.toArray := by
   apply Array.ext'; rw [Array.toList_map, ha.evA hargs]
 have hr : (execOp a.eval ⟨some d, .call { callee := .value (.func f), args := args, argTypes := ats }, tt, pos, af, gd⟩).run P w = .ok (.enter f vs.toArray) w := by
   have hn' : ¬ fn.name = "runtime.NumGoroutine" := by simpa using hn
   have hb' : ¬ fn.body = none := by cases h9 : fn.body with | none => rw [h9] at hb; cases hb | some c => simp
   simp [execOp, resolve, Act.eval, Deferred.ofValue, invoke, callFunc, hf, hn', hb', hv]
 show Oper.upon P _ a K Q _
 rw [hr]
 show Calls P f vs.toArray w _
 refine hc.mono (fun e w' hR => ?_)
 obtain ⟨v, rfl, hh⟩ := h e w' hR
 exact hh _ (ha.put ht v)
end
end
section
theorem NumsS.nums {S : Nat → Prop} {k : IntKind} {w : World} {v : Value} {zs : List Int} (h : NumsS S k w v zs) : IsNums k w v zs := by
 obtain ⟨a, c, rfl, hc, h0 | ⟨b, off, rfl, h1, h2, h3⟩⟩ := h
 · exact ⟨a, c, rfl, .inl h0⟩
 · exact ⟨_, c, rfl, .inr ⟨b, off, rfl, h2, h3⟩⟩
theorem NumsS.take {S : Nat → Prop} {k : IntKind} {w : World} {p : Option Addr} {l c : Nat} {zs : List Int} (h : NumsS S k w (.slice p l c) zs) (j : Nat) (hj : j ≤ zs.length) : NumsS S k w (.slice p j c) (zs.take j) := by
 obtain ⟨a, c', e, hc, hz⟩ := h
 injection e with e1 e2 e3
 subst e1; subst e3
 have hl : (zs.take j).length = j := by rw [List.length_take]; omega
 refine ⟨_, _, by rw [hl], ⟨by omega, hc.2⟩, ?_⟩
 rcases hz with h0 | ⟨b, off, rfl, h1, h2, h3⟩
 · left; omega
 · refine .inr ⟨b, off, rfl, h1, h2, fun q hq => ?_⟩
   rw [h3 q (by omega)]
   simp [List.getD, List.getElem?_take, show q < j by omega]
theorem NumsS.drop {S : Nat → Prop} {k : IntKind} {w : World} {p : Option Addr} {l c : Nat} {zs : List Int} (h : NumsS S k w (.slice p l c) zs) (j : Nat) (hj : j ≤ zs.length) : NumsS S k w (.slice (if c = j then p else p.map (·.add (j * 1))) (l - j) (c - j)) (zs.drop j) := by
 obtain ⟨a, c', e, hc, hz⟩ := h
 injection e with e1 e2 e3
 subst e1; subst e3; subst e2
 refine ⟨_, _, by rw [List.length_drop], ⟨by rw [List.length_drop]; omega, by omega⟩, ?_⟩
 rcases hz with h0 | ⟨b, off, rfl, h1, h2, h3⟩
 · left; rw [List.length_drop]; omega
 · by_cases he : c = j
   · left; rw [List.length_drop]; omega
   · refine .inr ⟨b, off + j, by rw [if_neg he]; simp [Addr.add_mid], h1, h2, fun q hq => ?_⟩
     rw [List.length_drop] at hq
     rw [Nat.add_assoc, h3 (j + q) (by omega)]
     simp [List.getD, List.getElem?_drop]

theorem Rd.cells {S : Nat → Prop} {w : World} {u : Value} {mm : Nat} {rows : List (List D)} (h : Rd S w u (.l mm rows)) : ∃ (p : Option Addr) (c : Nat) (cs : List (List Value)), u = .slice p rows.length c ∧ cs.length = rows.length ∧ (∀ c ∈ cs, c.length = mm ∧ ∀ x ∈ c, x.oneCell' = true) ∧ (∀ r ∈ rows, r.length = mm) ∧
   (∀ (j q : Nat) (c : List Value) (r : List D) (x : Value) (d : D), cs[j]? = some c → rows[j]? = some r → c[q]? = some x → r[q]? = some d → Rd S w x d) ∧ (rows.length = 0 ∨ ∃ ad, p = some ad ∧ ∀ j u, cs.flatten[j]? = some u → w.cell? (ad.add j) = some u) := by
 cases h with
 | l0 a c m => exact ⟨a, c, [], rfl, rfl, by simp, by simp, by simp, .inl rfl⟩
 | l m b off c rows f hS hb hc hm hcell hr =>
   have hin : ∀ c ∈ (List.range rows.length).map (fun j => (List.range mm).map (f j)), c.length = mm ∧ ∀ x ∈ c, x.oneCell' = true := by
     intro c hc'
     obtain ⟨j, hj, rfl⟩ := List.mem_map.1 hc'
     refine ⟨by simp, fun x hx => ?_⟩
     obtain ⟨q, hq, rfl⟩ := List.mem_map.1 hx
     exact (hcell j q (List.mem_range.1 hj) (List.mem_range.1 hq)).2
   refine ⟨_, c, (List.range rows.length).map (fun j => (List.range mm).map (f j)), rfl, by simp, hin, hm, fun j q c r x d a1 a2 a3 a4 => ?_, .inr ⟨_, rfl, fun j u hj => ?_⟩⟩
   · have hj := (List.getElem?_eq_some_iff.1 a2).1
     have hc1 : c = (List.range mm).map (f j) := by simpa [hj] using a1.symm
     subst hc1
     have hq : q < mm := by have := (List.getElem?_eq_some_iff.1 a3).1; simpa using this
     have hx : x = f j q := by simpa [hq] using a3.symm
     subst hx
     exact hr j q r d a2 a4
   · have hjl := (List.getElem?_eq_some_iff.1 hj).1
     have hfl : ((List.range rows.length).map (fun j => (List.range mm).map (f j))).flatten.length = rows.length * mm := by
       rw [← List.flatMap_id, parts_len id mm _ (fun c hc => (hin c hc).1)]; simp
     rw [hfl] at hjl
     have hm0 : 0 < mm := Nat.pos_of_ne_zero (fun e => by subst e; simp at hjl)
     have hd : j / mm < rows.length := Nat.div_lt_of_lt_mul (by rw [Nat.mul_comm]; exact hjl)
     have hr' : j % mm < mm := Nat.mod_lt _ hm0
     have hjj : j / mm * mm + j % mm = j := by rw [Nat.mul_comm]; exact Nat.div_add_mod j mm
     have hf := flatten_at ((List.range rows.length).map (fun j => (List.range mm).map (f j))) (j / mm) (j % mm) ((List.range mm).map (f (j / mm))) (fun c hc => (hin c hc).1) (by simp [hd]) hr'
     rw [hjj, hj] at hf
     have hu : u = f (j / mm) (j % mm) := by simpa [hr'] using hf
     subst hu
     rw [Addr.add_mid, ← (hcell (j / mm) (j % mm) hd hr').1]
     congr 2
     omega

section
variable {P : Program} {n : Nat} {T : List (Nat × Value)} {a : Act} {w w0 : World} {X : Cx} {M : Mm} {tt : TypeId} {pos : String} {af : Array Edge} {gd : Option (Nat × Bool)} {ops : Array Oper} {rest : List Oper} {Q : Exit → Act → World → Prop} {K : Act → World → Prop}
theorem MemOk.nums (m : MemOk X w0 M w) {i : Nat} {v : Value} {k : IntKind} {zs : List Int} (hm : lk M i = some (.dat v (.ns k zs))) : IsNums k w v zs := (m.ok i _ hm).ns_out.nums
theorem MemOk.numsO (m : MemOk X w0 M w) {i : Nat} {v : Value} {e : TypeId} {k : IntKind} {zs : List Int} (hm : lk M i = some (.num v e k zs)) : IsNums k w v zs := IsNums.ofOwn (m.ok i _ hm)
theorem run_appS {w : World} (base : Nat) (t ty e : TypeId) (k : IntKind) (bytes : Nat) (ht : P.underlying t = some (.slice e)) (hinf : (P.info? e).map (fun i => (i.zero, i.size, i.bytes)) = some (some (.int k 0), 1, bytes)) (hb8 : bytes ≤ 8)
   (v : Value) (xs : List Int) (hown : w.ownsRow base e 1 v xs.length (xs.map (Value.int k))) (u : Value) (zs : List Int) (hu : IsNums k w u zs) (hn : xs.length + zs.length ≤ 1000000000) (hbase : base ≤ w.heap.size) :
   ∃ v' w', (Builtin.append_ #[t, t] ty #[v, u]).run P w = .ok v' w' ∧ w'.ownsRow base e 1 v' (xs ++ zs).length ((xs ++ zs).map (Value.int k)) ∧ w.grownBy w' v.ownBlock ∧ (v'.ownBlock = v.ownBlock ∨ v'.ownBlock = some w.heap.size) := by
 have hbn : (xs.length + zs.length) * bytes ≤ 140737488355328 := Nat.le_trans (Nat.mul_le_mul_left _ hb8) (by omega)
 obtain ⟨p, c, rfl, hp⟩ := hu
 rw [List.length_append, List.map_append]
 have main : ∀ ad : Addr, p = some ad → (∀ j v, (zs.map (Value.int k))[j]? = some v → w.cell? (ad.add j) = some v) → ∃ v' w', (Builtin.append_ #[t, t] ty #[v, .slice p zs.length c]).run P w = .ok v' w' ∧ w'.ownsRow base e 1 v' (xs.length + zs.length) (xs.map (Value.int k) ++ zs.map (Value.int k)) ∧ w.grownBy w' v.ownBlock ∧ (v'.ownBlock = v.ownBlock ∨ v'.ownBlock = some w.heap.size) := by
   intro ad hpa hcells
   rw [hpa]
   exact run_append_where (P := P) w base t ty e (.int k 0) 1 bytes ht hinf rfl (by decide) v xs.length _ hown ad zs.length c (zs.map (Value.int k)) (by simp) hcells (by intro u hu; obtain ⟨y, _, rfl⟩ := List.mem_map.1 hu; rfl) (by unfold maxLen; omega) hbn hbase
 by_cases h0 : zs.length = 0
 · obtain rfl := List.length_eq_zero_iff.1 h0
   cases p with
   | none =>
     obtain ⟨i0, hi, -⟩ := info_parts hinf
     refine ⟨v, w, run_app_none ht hi hown c, by simpa using hown, ⟨rfl, rfl, rfl, Nat.le_refl _, fun _ _ _ => rfl⟩, .inl rfl⟩
   | some ad => exact main ad rfl (by simp)
 · rcases hp with hp | ⟨b, off, rfl, hblk, hc⟩
   · exact absurd hp h0
   · refine main _ rfl ?_
     intro j u hj
     have hjn : j < zs.length := by
       have := (List.getElem?_eq_some_iff.1 hj).1
       simpa using this
     rw [Addr.add_lit, hc j hjn]
     simp [hjn] at hj
     subst hj
     simp [List.getD, hjn]
theorem keep_grown {w w' : World} {v : Value} (hg : w.grownBy w' v.ownBlock) : Keep (fun b => v.ownBlock = some b) w w' := ⟨hg.os, hg.tape, hg.output, hg.size, fun k hk hn => hg.block k hk (fun e => hn e.symm)⟩
theorem e_appN (ha : Has n T a) (m : MemOk X w0 M w) (i : Nat) {d : Tmp} {t e : TypeId} {k : IntKind} {bytes : Nat} {s x : Operand} {v u : Value} {xs zs : List Int} (hm : lk M i = some (.num v e k xs)) (hs : evT T s = some v) (hx : evT T x = some u) (hu : IsNums k w u zs)
   (ht : P.underlying t = some (.slice e)) (hinf : (P.info? e).map (fun i => (i.zero, i.size, i.bytes)) = some (some (.int k 0), 1, bytes)) (hb8 : bytes ≤ 8) (hn : xs.length + zs.length ≤ 1000000000) (hd : Nat.blt d n = true)
   (h : ∀ p c a' w', Has n ((d, .slice p (xs ++ zs).length c) :: T) a' → MemOk X w0 ((i, .num (.slice p (xs ++ zs).length c) e k (xs ++ zs)) :: M) w' → K a' w') : Oper.wp P ⟨some d, .call { callee := .builtin .append, args := #[s, x], argTypes := #[t, t] }, tt, pos, af, gd⟩ a w K Q := by
 obtain ⟨v', w', hr, h1, h2, h3⟩ := run_appS (P := P) w0.heap.size t tt e k bytes ht hinf hb8 v xs (m.ok i _ hm) u zs hu hn m.keep.size
 have hm' : MemOk X w0 ((i, .num v' e k (xs ++ zs)) :: M) w' := m.upd i _ ((keep_grown h2).mono (fun b e => ⟨_, hm, e⟩)) (fun b hb => by
   rcases h3 with e1 | e1
   · exact .inl ⟨_, hm, e1.symm.trans hb⟩
   · have : some w.heap.size = some b := e1.symm.trans hb
     injection this with this; right; omega) (fun _ _ => h1)
 obtain ⟨p, c, e1⟩ := ownsRow_shape h1
 have hrun : (execOp a.eval ⟨some d, .call { callee := .builtin .append, args := #[s, x], argTypes := #[t, t] }, tt, pos, af, gd⟩).run P w = .ok (.value v') w' := by
   simp only [execOp, resolve, invoke, builtin, Sem.run_bind, Sem.run_pure, Result.andThen_ok, List.map_toArray, List.map_cons, List.map_nil, ha.ev hs, ha.ev hx, hr]
 show Oper.upon P _ a K Q _
 rw [hrun]
 subst e1
 exact h p c _ _ (ha.put hd _) hm'
theorem e_appR (ha : Has n T a) (m : MemOk X w0 M w) (i : Nat) {d : Tmp} {t e : TypeId} {mm bytes : Nat} {z : Value} {s x : Operand} {v u : Value} {xs zs : List (List D)} (hm : lk M i = some (.row v e mm xs)) (hs : evT T s = some v) (hx : evT T x = some u) (hu : Rd (Free X M) w u (.l mm zs))
   (ht : P.underlying t = some (.slice e)) (hinf : (P.info? e).map (fun i => (i.zero, i.size, i.bytes)) = some (some z, mm, bytes)) (hz : z.cells.size = mm) (h0 : Nat.blt 0 mm = true) (hb8 : bytes ≤ 1000) (hn : xs.length + zs.length ≤ 100000000) (hd : Nat.blt d n = true)
   (h : ∀ p c a' w', Has n ((d, .slice p (xs ++ zs).length c) :: T) a' → MemOk X w0 ((i, .row (.slice p (xs ++ zs).length c) e mm (xs ++ zs)) :: M) w' → K a' w') : Oper.wp P ⟨some d, .call { callee := .builtin .append, args := #[s, x], argTypes := #[t, t] }, tt, pos, af, gd⟩ a w K Q := by
 obtain ⟨cs, hown, hcl, hc1, hxm, hcr⟩ := m.ok i _ hm
 obtain ⟨pu, cu, cz, rfl, hzl, hz1, hzm, hzr, hzp⟩ := hu.cells
 have h0' : 0 < mm := by simpa using h0
 have hbn : (xs.length + zs.length) * bytes ≤ 140737488355328 := Nat.le_trans (Nat.mul_le_mul_left _ hb8) (by omega)
 have hfl : cz.flatten.length = zs.length * mm := by rw [← List.flatMap_id, parts_len id mm _ (fun c hc => (hz1 c hc).1), hzl]
 have hrun0 : ∃ v' w', (Builtin.append_ #[t, t] tt #[v, .slice pu zs.length cu]).run P w = .ok v' w' ∧ w'.ownsRow w0.heap.size e mm v' (xs.length + zs.length) (cs.flatten ++ cz.flatten) ∧ w.grownBy w' v.ownBlock ∧ (v'.ownBlock = v.ownBlock ∨ v'.ownBlock = some w.heap.size) := by
   have main : ∀ ad : Addr, pu = some ad → (∀ j u, cz.flatten[j]? = some u → w.cell? (ad.add j) = some u) → ∃ v' w', (Builtin.append_ #[t, t] tt #[v, .slice pu zs.length cu]).run P w = .ok v' w' ∧ w'.ownsRow w0.heap.size e mm v' (xs.length + zs.length) (cs.flatten ++ cz.flatten) ∧ w.grownBy w' v.ownBlock ∧ (v'.ownBlock = v.ownBlock ∨ v'.ownBlock = some w.heap.size) := by
     intro ad hpa hcells
     rw [hpa]
     exact run_append_where (P := P) w w0.heap.size t tt e z mm bytes ht hinf hz h0' v xs.length _ hown ad zs.length cu cz.flatten hfl hcells (fun u hu => by obtain ⟨c, hc, hx⟩ := List.mem_flatten.1 hu; exact (hz1 c hc).2 u hx) (by unfold maxLen; omega) hbn m.keep.size
   rcases hzp with h9 | ⟨ad, e1, e2⟩
   · obtain rfl := List.length_eq_zero_iff.1 h9
     obtain rfl : cz = [] := List.length_eq_zero_iff.1 (by simpa using hzl)
     cases pu with
     | none =>
       obtain ⟨i0, hi, -⟩ := info_parts hinf
       refine ⟨v, w, run_app_none ht hi hown cu, by simpa using hown, ⟨rfl, rfl, rfl, Nat.le_refl _, fun _ _ _ => rfl⟩, .inl rfl⟩
     | some ad => exact main ad rfl (by simp)
   · exact main ad e1 e2
 obtain ⟨v', w', hr, h1, h2, h3⟩ := hrun0
 have hm' : MemOk X w0 ((i, .row v' e mm (xs ++ zs)) :: M) w' := m.upd i _ ((keep_grown h2).mono (fun b e => ⟨_, hm, e⟩)) (fun b hb => by
   rcases h3 with e1 | e1
   · exact .inl ⟨_, hm, e1.symm.trans hb⟩
   · have : some w.heap.size = some b := e1.symm.trans hb
     injection this with this; right; omega) (fun hf _ => by
   refine ⟨cs ++ cz, ?_, by rw [List.length_append, List.length_append, hcl, hzl], ?_, ?_, ?_⟩
   · rw [List.length_append, List.flatten_append]; exact h1
   · intro c hc
     rcases List.mem_append.1 hc with hc | hc
     · exact hc1 c hc
     · exact hz1 c hc
   · intro r hr
     rcases List.mem_append.1 hr with hr | hr
     · exact hxm r hr
     · exact hzm r hr
   · intro j q c r x d a1 a2 a3 a4
     have hmono : ∀ b, b < w.heap.size → Free X M b → w'.heap[b]? = w.heap[b]? ∧ Free X ((i, Res.row v' e mm (xs ++ zs)) :: M) b := fun b hlt hF => ⟨h2.block b hlt (fun e1 => hF.2 ⟨i, _, hm, e1.symm⟩), hf b hlt hF⟩
     by_cases hj : j < cs.length
     · rw [List.getElem?_append_left hj] at a1
       rw [List.getElem?_append_left (by omega)] at a2
       exact (hcr j q c r x d a1 a2 a3 a4).mono h2.size hmono
     · rw [List.getElem?_append_right (by omega)] at a1
       rw [List.getElem?_append_right (by omega)] at a2
       rw [hcl] at a1
       exact (hzr _ q c r x d a1 a2 a3 a4).mono h2.size hmono)
 have h1' : w'.ownsRow w0.heap.size e mm v' (xs ++ zs).length (cs.flatten ++ cz.flatten) := by rw [List.length_append]; exact h1
 obtain ⟨p, c, e1⟩ := ownsRow_shape h1'
 have hrun : (execOp a.eval ⟨some d, .call { callee := .builtin .append, args := #[s, x], argTypes := #[t, t] }, tt, pos, af, gd⟩).run P w = .ok (.value v') w' := by
   simp only [execOp, resolve, invoke, builtin, Sem.run_bind, Sem.run_pure, Result.andThen_ok, List.map_toArray, List.map_cons, List.map_nil, ha.ev hs, ha.ev hx, hr]
 show Oper.upon P _ a K Q _
 rw [hrun]
 subst e1
 exact h p c _ _ (ha.put hd _) hm'
end
end
section
def evLit (T : List (Nat × Value)) : Nat → List (Nat × Operand) → Option (List Value)
 | _, [] => some []
 | i, (j, x) :: l => bif Nat.beq j i then (match evT T x, evLit T (i + 1) l with
   | some v, some r => some (v :: r)
   | _, _ => none) else none
def intsOf (k : IntKind) : List Value → Option (List Int)
 | [] => some []
 | .int k' z :: r => if k' = k then (match intsOf k r with | some t => some (z :: t) | none => none) else none
 | _ :: _ => none
theorem intsOf_map {k : IntKind} : ∀ {vs : List Value} {zs : List Int}, intsOf k vs = some zs → vs = zs.map (Value.int k)
 | [], zs, h => by cases h; rfl
 | v :: r, zs, h => by
   cases v <;> try (cases h; done)
   case int k' z =>
     unfold intsOf at h
     split at h
     · rename_i e; subst e
       cases hr : intsOf k' r with
       | none => rw [hr] at h; cases h
       | some t => rw [hr] at h; cases h; rw [List.map_cons, ← intsOf_map hr]
     · cases h
theorem Has.evLit {n : Nat} {T : List (Nat × Value)} {a : Act} (h : Has n T a) : ∀ {l : List (Nat × Operand)} {i : Nat} {vs : List Value}, K.evLit T i l = some vs → l.map (fun x => (x.1, a.eval x.2)) = (vs.zipIdx i).map (fun x => (x.2, x.1))
 | [], i, vs, e => by cases e; rfl
 | (j, x) :: l, i, vs, e => by
   unfold K.evLit at e
   cases hb : Nat.beq j i with
   | false => rw [hb] at e; cases e
   | true =>
     rw [hb] at e
     dsimp only [cond] at e
     obtain rfl := Nat.eq_of_beq_eq_true hb
     cases hx : evT T x with
     | none => rw [hx] at e; cases e
     | some v =>
       cases hl : K.evLit T (j + 1) l with
       | none => rw [hx, hl] at e; cases e
       | some r =>
         rw [hx, hl] at e
         cases e
         rw [List.map_cons, h.evLit hl, h.ev hx, List.zipIdx_cons, List.map_cons]
inductive RowsL (S : Nat → Prop) (w : World) (mm : Nat) : List Value → List (List D) → Prop
 | nil : RowsL S w mm [] []
 | cons {v : Value} {r : List D} {vs : List Value} {rs : List (List D)} (hl : v.cells.toList.length = mm) (h1 : v.cells.toList.all (fun x => x.oneCell') = true) (hr : RdL S w v.cells.toList r) (t : RowsL S w mm vs rs) : RowsL S w mm (v :: vs) (r :: rs)
theorem RowsL.out {S : Nat → Prop} {w : World} {mm : Nat} {vs : List Value} {rs : List (List D)} (h : RowsL S w mm vs rs) : vs.length = rs.length ∧ (∀ v ∈ vs, v.cells.size = mm ∧ ∀ x ∈ v.cells.toList, x.oneCell' = true) ∧ (∀ r ∈ rs, r.length = mm) ∧ ∀ (j q : Nat) (c : List Value) (r : List D) (x : Value) (d : D), (vs.map (·.cells.toList))[j]? = some c → rs[j]? = some r → c[q]? = some x → r[q]? = some d → Rd S w x d := by
 induction h with
 | nil => exact ⟨rfl, by simp, by simp, by simp⟩
 | cons hl h1 hr t ih =>
   obtain ⟨e1, e2, e3, e4⟩ := ih
   refine ⟨by simp [e1], fun v hv => ?_, fun r hr' => ?_, fun j q c r x d a1 a2 a3 a4 => ?_⟩
   · rcases List.mem_cons.1 hv with rfl | hv
     · exact ⟨by simpa using hl, List.all_eq_true.1 h1⟩
     · exact e2 v hv
   · rcases List.mem_cons.1 hr' with rfl | hr'
     · rw [← hr.len, hl]
     · exact e3 r hr'
   · cases j with
     | zero => simp at a1 a2; subst a1; subst a2; exact hr.get q x d a3 a4
     | succ j => exact e4 j q c r x d (by simpa using a1) (by simpa using a2) a3 a4

theorem Rd.l_out {S : Nat → Prop} {w : World} {v : Value} {mm : Nat} {rows : List (List D)} (h : Rd S w v (.l mm rows)) : rows = [] ∨ ∃ (b off c : Nat) (f : Nat → Nat → Value), v = .slice (some ⟨b, off, none⟩) rows.length c ∧ S b ∧ b < w.heap.size ∧ (∀ r ∈ rows, r.length = mm) ∧ (∀ j q, j < rows.length → q < mm → w.cell? ⟨b, off + j * mm + q, none⟩ = some (f j q) ∧ (f j q).oneCell' = true) ∧ (∀ (j q : Nat) (r : List D) (d : D), rows[j]? = some r → r[q]? = some d → Rd S w (f j q) d) := by
 cases h with
 | l0 a c m => exact .inl rfl
 | l m b off c rows f hS hb hc hm hcell hr => exact .inr ⟨b, off, c, f, rfl, hS, hb, hm, hcell, hr⟩
section
variable {P : Program} {n : Nat} {T : List (Nat × Value)} {a : Act} {w w0 : World} {X : Cx} {M : Mm} {tt : TypeId} {pos : String} {af : Array Edge} {gd : Option (Nat × Bool)} {ops : Array Oper} {rest : List Oper} {Q : Exit → Act → World → Prop} {K : Act → World → Prop}
theorem MemOk.only (m : MemOk X w0 M w) (l : List Nat) : MemOk X w0 (keepT M l) w := m.sub (keepT_lk M l)
theorem MemOk.rd (m : MemOk X w0 M w) {i : Nat} {v : Value} {d : D} (h : lk M i = some (.dat v d)) : Rd (Free X M) w v d := m.ok i _ h
theorem y_idx (ha : Has n T a) {d : Option Tmp} {t e : TypeId} {x y : Operand} {b o l c s : Nat} {k : IntKind} {q : Int} (hx : evT T x = some (.slice (some ⟨b, o, none⟩) l c)) (hy : evT T y = some (.int k q)) (hu : P.underlying t = some (.slice e)) (hs : (P.info? e).map (·.size) = some s) (j : Nat) (hq : q = j) (hj : j < l) : Yl P a w ⟨d, .indexAddr t x y, tt, pos, af, gd⟩ (.pointer (some ⟨b, o + j * s, none⟩)) := by
 show (execOp _ _).run P w = _
 simp [execOp, ha.ev hx, ha.ev hy, run_idx hu hs j hq hj]
theorem MemOk.openN (m : MemOk X w0 M w) {i : Nat} {p : Option Addr} {l c : Nat} {k : IntKind} {zs : List Int} (hm : lk M i = some (.dat (.slice p l c) (.ns k zs))) (j : Nat) (hj : j < zs.length) (i2 : Nat) (hi2 : lk M i2 = none) : ∃ b o, p = some ⟨b, o, none⟩ ∧ MemOk X w0 ((i2, .cel b (o + j * 1) [.int k (zs.getD j 0)]) :: M) w := by
 obtain ⟨p', c', e, hc, h0 | ⟨b, off, rfl, h1, h2, h3⟩⟩ := (m.ok i _ hm).ns_out
 · omega
 · injection e with e1 e2 e3
   refine ⟨b, off, e1, m.cel i2 hi2 h1 h2 (fun q v hv => ?_)⟩
   obtain rfl : q = 0 := by have := (List.getElem?_eq_some_iff.1 hv).1; simpa using this
   simp at hv; subst hv
   rw [Nat.add_zero, Nat.mul_one]; exact h3 j hj
theorem y_str (ha : Has n T a) {d : Option Tmp} {s t e : TypeId} {x : Operand} {v : Value} {bs : List Int} (hx : evT T x = some v) (hv : IsNums .u8 w v bs) (hs : P.underlying s = some (.slice e)) (he : P.underlying e = some (.int .u8)) (hd : P.underlying t = some .string) : Yl P a w ⟨d, .convert s t x, tt, pos, af, gd⟩ (.string (strOfNums bs)) := by
 show (execOp _ _).run P w = _
 simp [execOp, ha.ev hx, conv_str hv s e hs he t hd]
theorem e_litN (ha : Has n T a) (m : MemOk X w0 M w) (i : Nat) {d : Tmp} {t e : TypeId} {len : Nat} {parts : Array (Nat × Operand)} {vs : List Value} {k : IntKind} {zs : List Int} (hp : evLit T 0 parts.toList = some vs) (hz : intsOf k vs = some zs) (hu : P.underlying t = some (.slice e)) {z : Value} {bytes : Nat} (hinf : (P.info? e).map (fun i => (i.zero, i.size, i.bytes)) = some (some z, 1, bytes)) (hl : zs.length = len) (h0 : Nat.blt 0 len = true) (h1 : Nat.ble len 1000 = true) (ht : Nat.blt d n = true)
   (h : ∀ g a' w', Has n ((d, .slice (some ⟨g, 0, none⟩) len len) :: T) a' → MemOk X w0 ((i, .num (.slice (some ⟨g, 0, none⟩) len len) e k zs) :: M) w' → K a' w') : Oper.wp P ⟨some d, .buildSlice t len parts, tt, pos, af, gd⟩ a w K Q := by
 obtain ⟨ie, hie, hzz, hsz, -⟩ := info_parts hinf
 have h0' : 0 < len := by simpa using h0
 have h1' : len ≤ 1000 := by simpa using h1
 have hvs := intsOf_map hz
 have hpl := ha.evLit hp
 have hf : Instr.fill (fun i => some (i * ie.size, ie.size)) ((Array.range (len * ie.size)).map (z.cells[· % z.cells.size]!)) (parts.map fun (i, x) => (i, a.eval x)).toList = some (zs.map (Value.int k)).toArray := by
   rw [Array.toList_map, hsz, hvs] at *
   have := Great.fill_flat (zs.map (Value.int k)) ((Array.range (len * 1)).map (z.cells[· % z.cells.size]!)) (fun v hv => by obtain ⟨x, _, rfl⟩ := List.mem_map.1 hv; rfl) (by simp [hl])
   rw [← this]
   congr 1
 have hr := run_buildSlice (P := P) w t e len _ _ ie z hu hie hzz (by rw [hsz]; omega) (by rw [hsz]; omega) hf
 have hrun : (execOp a.eval ⟨some d, .buildSlice t len parts, tt, pos, af, gd⟩).run P w = .ok (.value (.slice (some ⟨w.heap.size, 0, none⟩) len len)) (w.alloc (.cells (zs.map (Value.int k)).toArray e)) := by
   simp only [execOp, Sem.run_bind, hr, Result.andThen_ok, Sem.run_pure]
 show Oper.upon P _ a K Q _
 rw [hrun]
 refine h _ _ _ (ha.put ht _) (m.newN i ((Below.refl _ w).alloc (Nat.le_refl _) _) ?_)
 rw [hl]
 have := World.ownsRow_lit (base := w.heap.size) (e := e) (size := 1) w (zs.map (Value.int k)).toArray len (Nat.le_refl _) (by unfold maxLen; omega) (by simp [hl])
 simpa using this
theorem e_litR (ha : Has n T a) (m : MemOk X w0 M w) (i : Nat) {d : Tmp} {t e : TypeId} {len mm : Nat} {parts : Array (Nat × Operand)} {vs : List Value} {rows : List (List D)} (hp : evLit T 0 parts.toList = some vs) (hz : RowsL (Free X M) w mm vs rows) (hu : P.underlying t = some (.slice e)) {z : Value} {bytes : Nat} (hinf : (P.info? e).map (fun i => (i.zero, i.size, i.bytes)) = some (some z, mm, bytes)) (hzs : z.cells.size = mm) (hl : rows.length = len) (h0 : Nat.blt 0 (len * mm) = true) (h1 : Nat.ble (len * mm) 1000 = true) (ht : Nat.blt d n = true)
   (h : ∀ g a' w', Has n ((d, .slice (some ⟨g, 0, none⟩) len len) :: T) a' → MemOk X w0 ((i, .row (.slice (some ⟨g, 0, none⟩) len len) e mm rows) :: M) w' → K a' w') : Oper.wp P ⟨some d, .buildSlice t len parts, tt, pos, af, gd⟩ a w K Q := by
 obtain ⟨ie, hie, hzz, hsz, -⟩ := info_parts hinf
 have h0' : 0 < len * mm := by simpa using h0
 have h1' : len * mm ≤ 1000 := by simpa using h1
 have hmm : 0 < mm := Nat.pos_of_mul_pos_left h0'
 have hlen : len ≤ len * mm := Nat.le_mul_of_pos_right _ hmm
 obtain ⟨o1, o2, o3, o4⟩ := hz.out
 have hpl := ha.evLit hp
 have hf : Instr.fill (fun i => some (i * ie.size, ie.size)) ((Array.range (len * ie.size)).map (z.cells[· % z.cells.size]!)) (parts.map fun (i, x) => (i, a.eval x)).toList = some (vs.flatMap fun v => v.cells.toList).toArray := by
   rw [Array.toList_map, hsz]
   have := Great.fill_whole hmm vs ((Array.range (len * mm)).map (z.cells[· % z.cells.size]!)) (fun v hv => (o2 v hv).1) (by simp [o1, hl])
   rw [← this]
   congr 1
 have hr := run_buildSlice (P := P) w t e len _ _ ie z hu hie hzz (by rw [hsz]; omega) (by rw [hsz]; omega) hf
 have hrun : (execOp a.eval ⟨some d, .buildSlice t len parts, tt, pos, af, gd⟩).run P w = .ok (.value (.slice (some ⟨w.heap.size, 0, none⟩) len len)) (w.alloc (.cells (vs.flatMap fun v => v.cells.toList).toArray e)) := by
   simp only [execOp, Sem.run_bind, hr, Result.andThen_ok, Sem.run_pure]
 have hbel : Below w.heap.size w (w.alloc (.cells (vs.flatMap fun v => v.cells.toList).toArray e)) := (Below.refl _ w).alloc (Nat.le_refl _) _
 show Oper.upon P _ a K Q _
 rw [hrun]
 refine h _ _ _ (ha.put ht _) (m.newR i hbel ⟨vs.map (·.cells.toList), ?_, by simp [o1], ?_, o3, fun j q c r x d a1 a2 a3 a4 => (o4 j q c r x d a1 a2 a3 a4).mono hbel.size (fun b hlt hS => ⟨hbel.block b hlt, .inl ⟨hS, hlt⟩⟩)⟩)
 · rw [hl, ← List.flatMap_def]
   have hsz2 : (vs.flatMap fun v => v.cells.toList).length = len * mm := by rw [parts_len _ mm _ (fun v hv => by simpa using (o2 v hv).1), o1, hl]
   have := World.ownsRow_lit (base := w.heap.size) (e := e) (size := mm) w (vs.flatMap fun v => v.cells.toList).toArray len (Nat.le_refl _) (by unfold maxLen; omega) (by simpa using hsz2)
   simpa using this
 · intro c hc
   obtain ⟨v, hv, rfl⟩ := List.mem_map.1 hc
   exact ⟨by simpa using (o2 v hv).1, (o2 v hv).2⟩

/-! ### The ends -/
theorem ret1 (ha : Has n T a) {fn : Func} {t : Tmp} {v : Value} {R : Ending → World → Prop} (hr : fn.results = #[.tmp t]) (hv : lk T t = some v) (h : R (.returned v) w) : bodyPost P fn R .ret a w :=
 ⟨ha.d, v, by rw [results_tmp hr, ha.h t v hv], h⟩
theorem ret2 (ha : Has n T a) {fn : Func} {t s : Tmp} {v u : Value} {R : Ending → World → Prop} (hr : fn.results = #[.tmp t, .tmp s]) (hv : lk T t = some v) (hu : lk T s = some u) (h : R (.returned (.tuple #[v, u])) w) : bodyPost P fn R .ret a w :=
 ⟨ha.d, _, by rw [results_tmp2 hr, ha.h t v hv, ha.h s u hu], h⟩
theorem ret0 (ha : Has n T a) {fn : Func} {R : Ending → World → Prop} (hr : fn.results = #[]) (h : R (.returned (.tuple #[])) w) : bodyPost P fn R .normal a w :=
 ⟨ha.d, _, results_none hr _ _ _, h⟩
theorem out_here {id : Nat} (h : Q .normal a w) : Exit.inBlock id Q (.exit id) a w := by simpa [Exit.inBlock] using h
theorem enter {f : FuncId} {fn : Func} {c : Code} {args : List Value} {R : Ending → World → Prop} {N : Nat} (hf : P.funcs[f]? = some fn) (hb : fn.body = some c) (hN : fn.ntmps = N) (hl : Nat.ble args.length N = true) (h : ∀ a, Has N (args.zipIdx.map (fun x => (x.2, x.1))) a → c.wp P (bodyPost P fn R) a w) : Calls P f args.toArray w R := by
 refine calls_of_wp hf hb (h _ ⟨rfl, ?_, fun t v hv => ?_⟩)
 · have : args.length ≤ N := by simpa using hl
   simp [hN]; omega
 · have key : ∀ (l : List Value) (k : Nat), lk ((l.zipIdx k).map (fun x => (x.2, x.1))) t = some v → k ≤ t ∧ l[t - k]? = some v := by
     intro l
     induction l with
     | nil => intro k h; cases h
     | cons x l ih =>
       intro k h
       rw [List.zipIdx_cons, List.map_cons, lk_cons] at h
       by_cases e : k = t
       · rw [if_pos e] at h; cases h; subst e; simp
       · rw [if_neg e] at h
         obtain ⟨h1, h2⟩ := ih (k + 1) h
         refine ⟨by omega, ?_⟩
         rw [show t - k = (t - (k + 1)) + 1 by omega, List.getElem?_cons_succ]; exact h2
   have := (key args 0 hv).2
   rw [Nat.sub_zero] at this
   have hlt := (List.getElem?_eq_some_iff.1 this).1
   have e9 : args[t] = v := by rw [List.getElem?_eq_getElem hlt] at this; injection this
   simp [Array.getD_eq_getD_getElem?, Array.getElem?_append, hlt, e9]
end
end
section
theorem free_add {X : Cx} {M : Mm} {i : Nat} {r : Res} (hr : r.blk = none) {b : Nat} (h : Free X M b) : Free X ((i, r) :: M) b := by
 refine ⟨h.1, ?_⟩
 rintro ⟨j, s, hj, hs⟩
 rw [lk_cons] at hj
 split at hj
 · cases hj; rw [hr] at hs; cases hs
 · exact h.2 ⟨j, s, hj, hs⟩
theorem Rd.cast {S S' : Nat → Prop} {w : World} {v : Value} {d : D} (h : Rd S w v d) (hs : ∀ b, S b → S' b) : Rd S' w v d := h.mono (Nat.le_refl _) (fun b _ hS => ⟨rfl, hs b hS⟩)
theorem Rd.later {S : Nat → Prop} {w w' : World} {v : Value} {d : D} (h : Rd S w v d) (hb : Below w.heap.size w w') : Rd S w' v d := h.mono hb.size (fun b hlt hS => ⟨hb.block b hlt, hS⟩)
theorem Rd.any {S : Nat → Prop} {w : World} {v : Value} {d : D} (h : Rd S w v d) : Rd (fun _ => True) w v d := h.cast (fun _ _ => trivial)
def cx (S : Nat → Prop) (w : World) : Cx := ⟨[], fun b => b < w.heap.size → S b⟩
theorem MemOk.below {S : Nat → Prop} {w0 w w1 : World} {M : Mm} (m : MemOk (cx S w1) w0 M w) : Below w0.heap.size w0 w := ⟨m.keep.1, m.keep.2.1, m.keep.2.2.1, m.keep.2.2.2.1, fun k hk => m.keep.2.2.2.2 k hk (by simp [cx])⟩
theorem MemOk.start (S : Nat → Prop) (w : World) : MemOk (cx S w) w [] w := ⟨Keep.refl _ _, fun b hb hlt => absurd hlt (by omega), fun i r h => (by cases h), fun i j r s b h => (by cases h)⟩
section
variable {P : Program} {ops : Array Oper} {Q : Exit → Act → World → Prop} {md : Region.Mode} {S : World → Prop} {e : Nat}
theorem wpAnyE_held {i : Nat} {oi : Oper} {v : Value} (hi : ops[i]? = some oi) (hsel : ∀ (j : Nat) (o : Oper) cs b, ops[j]? = some o → o.op ≠ .select cs b)
   (hQ : ∀ c a w, Q (.panic c) (a.put oi.dst v) w → Q (.panic c) a w) (hbig : ops.size ≤ e) (hei : i ≠ e) :
   ∀ (fuel : Nat) (listed : Array Bool) (a : Act) (w : World), Closed md ops listed →
     (∀ j oj, ops[j]? = some oj → j ≠ i → listed.getD j true = false → (∀ ed ∈ oj.after, Region.binds md ed = true → ed.on ≠ i) → oi.apart ops oj = true) →
     i ∈ Region.ready md ops listed → YieldsIf P ops S oi v a → S w →
     wpAnyE P md ops Q e S fuel (listed.setIfInBounds i true) (a.put oi.dst v) w → wpAnyE P md ops Q e S (fuel + 1) listed a w := by
 intro fuel
 induction fuel with
 | zero =>
   intro listed a w hc _ hr hy hS H
   refine ⟨fun h => (by rw [h] at hr; cases hr), fun j hj => ?_⟩
   by_cases hji : j = i
   · subst hji; exact hy.wpOp hi hS ⟨fun _ => hS, H⟩
   · have := ready_mono hj hji
     rw [H.1] at this
     cases this
 | succ fuel ih =>
   intro listed a w hc hfree hr hy hS H
   refine ⟨fun h => (by rw [h] at hr; cases hr), fun j hj => ?_⟩
   by_cases hji : j = i
   · subst hji; exact hy.wpOp hi hS ⟨fun _ => hS, H⟩
   · have h1 := H.2 j (ready_mono hj hji)
     obtain ⟨hjun, oj, hoj, hall⟩ := mem_ready.1 hj
     have hnot : ∀ ed ∈ oj.after, Region.binds md ed = true → ed.on ≠ i := fun ed he hb heq => by
       have h1 := hall ed he hb
       have h0 := (mem_ready.1 hr).1
       rw [heq, getD_both h0] at h1
       cases h1
     have h2 := wpOp_putIf hoj (hfree j oj hoj hji hjun hnot) (fun cs b => hsel i oi cs b hi) (fun cs b => hsel j oj cs b hoj) hQ hy h1
     have hfree' : ∀ k ok, ops[k]? = some ok → k ≠ i → (listed.setIfInBounds j true).getD k true = false →
         (∀ ed ∈ ok.after, Region.binds md ed = true → ed.on ≠ i) → oi.apart ops ok = true := fun k ok hk hki hun hno => by
       refine hfree k ok hk hki ?_ hno
       by_cases hjk : j = k
       · subst hjk; exact hjun
       · rw [getD_set_ne true hjk] at hun; exact hun
     have hc' := hc.set hj
     have hr' := ready_mono hr (Ne.symm hji)
     have hen : (listed.setIfInBounds j true).getD e false = false := by
       have hsz : (listed.setIfInBounds j true).size = ops.size := hc'.1
       have hlt : ¬ e < (listed.setIfInBounds j true).size := by omega
       unfold Array.getD
       rw [dif_neg hlt]
     refine wpOp_mono (fun a' w' h3 => ?_) h2
     have hS' : S w' := h3.2.1 (by rw [Array.setIfInBounds_comm _ _ (Ne.symm hji), getD_set_ne false hei]; exact hen)
     refine ⟨fun _ => hS', ih (listed.setIfInBounds j true) a' w' hc' hfree' hr' h3.1 hS' ?_⟩
     rw [Array.setIfInBounds_comm _ _ hji]
     exact h3.2.2

theorem stepE_held (i : Nat) (d : Option Tmp) {oi : Oper} {v : Value} {fuel : Nat} {listed : Array Bool} {a : Act} {w : World} (hS : S w) (hi : ops[i]? = some oi) (hd : oi.dst = d)
   (hs : Region.noSelect ops = true) (hf : Region.free md ops listed i = true) (hr : (Region.ready md ops listed).contains i = true)
   (hc : closedB md ops listed = true) (hre : (decide (ops.size ≤ e) && decide (i ≠ e)) = true)
   (hQ : ∀ c a w, Q (.panic c) (a.put d v) w → Q (.panic c) a w) (hw : Region.wanted oi (Go.yielded ops a.tmps) = true)
   (hy : ∀ W, S W → (execOp a.eval oi).run P W = .ok (.value v) W)
   (h : wpAnyE P md ops Q e S fuel (listed.setIfInBounds i true) (a.put d v) w) : wpAnyE P md ops Q e S (fuel + 1) listed a w := by
 subst hd
 simp only [Bool.and_eq_true, decide_eq_true_eq] at hre
 exact wpAnyE_held hi (Region.noSelect_spec hs) hQ hre.1 hre.2 fuel listed a w (closedB_spec hc) (Region.free_spec hi hf) (by simpa using hr) (.inl ⟨hw, hy⟩) hS h
end
section
variable {P : Program} {n : Nat} {T : List (Nat × Value)} {a : Act} {w w0 : World} {X : Cx} {M : Mm} {tt : TypeId} {pos : String} {af : Array Edge} {ops : Array Oper} {Q : Exit → Act → World → Prop} {md : Region.Mode} {e fuel : Nat} {S : World → Prop} {listed : Array Bool}
theorem wantedG (ha : Has n T a) {oi : Oper} {j t : Nat} {b : Bool} (hg : oi.guard = some (j, b)) (hj : (ops[j]?).bind (·.dst) = some t) (hb : lk T t = some (.bool b)) (ht2 : Nat.blt t n = true) : Region.wanted oi (Go.yielded ops a.tmps) = true := by simp [Region.wanted, hg, ha.yielded hj hb ht2]
theorem d_two (i j : Nat) {oi oj : Oper} (hi : ops[i]? = some oi) (hj : ops[j]? = some oj) (hr : Region.ready md ops listed = [i, j])
   (hwi : Region.wanted oi (Go.yielded ops a.tmps) = true) (hwj : Region.wanted oj (Go.yielded ops a.tmps) = true)
   (h1 : ∀ K' : Act → World → Prop, (∀ a' w', ((listed.setIfInBounds i true).getD e false = false → S w') → wpAnyE P md ops Q e S fuel (listed.setIfInBounds i true) a' w' → K' a' w') → Oper.wp P oi a w K' Q)
   (h2 : ∀ K' : Act → World → Prop, (∀ a' w', ((listed.setIfInBounds j true).getD e false = false → S w') → wpAnyE P md ops Q e S fuel (listed.setIfInBounds j true) a' w' → K' a' w') → Oper.wp P oj a w K' Q) :
   wpAnyE P md ops Q e S (fuel + 1) listed a w := by
 refine ⟨fun h0 => absurd (hr ▸ h0) (by simp), fun q hq => ?_⟩
 rw [hr] at hq
 rcases List.mem_cons.1 hq with rfl | hq
 · refine wpOp_step hi (fun K' hK => ?_)
   rw [if_pos hwi]
   exact h1 K' (fun a' w' h hn => hK a' w' ⟨h, hn⟩)
 · obtain rfl : q = j := by simpa using hq
   refine wpOp_step hj (fun K' hK => ?_)
   rw [if_pos hwj]
   exact h2 K' (fun a' w' h hn => hK a' w' ⟨h, hn⟩)
end
section
variable {P : Program} {n : Nat} {T : List (Nat × Value)} {a : Act} {w w0 : World} {X : Cx} {M : Mm}
theorem run_loadBox (m : MemOk X w0 M w) {t : TypeId} {td : TypeDesc} {i g : Nat} {e : TypeId} {cs : List Value} (hm : lk M i = some (.box g e cs)) (hu : P.underlying t = some td) (hr : td.isRow = true) (hs : (P.info? t).map (·.size) = some cs.length) : (loadVar t ⟨g, 0, none⟩).run P w = .ok (.agg cs.toArray) w :=
 run_loadVar_mid w g 0 t cs td (fun j v hj => by rw [Nat.zero_add, (m.ok i _ hm).1.cell]; exact hj) hu hr hs
theorem retC (ha : Has n T a) (m : MemOk X w0 M w) {fn : Func} {t : Tmp} {ty : TypeId} {td : TypeDesc} {i g : Nat} {e : TypeId} {cs : List Value} {R : Ending → World → Prop} (hr : fn.results = #[.cell t ty]) (hv : lk T t = some (.pointer (some ⟨g, 0, none⟩))) (hm : lk M i = some (.box g e cs)) (hu : P.underlying ty = some td) (hd : td.isRow = true) (hs : (P.info? ty).map (·.size) = some cs.length) (h : R (.returned (.agg cs.toArray)) w) : bodyPost P fn R .ret a w :=
 ⟨ha.d, _, by
   have h1 := ha.h t _ hv
   rw [Array.getD_eq_getD_getElem?] at h1
   simp [results, hr, h1, asAddr, run_loadBox m hm hu hd hs], h⟩
end
def WeakL (A : Mm) : Mm → Prop
 | [] => True
 | (i, r) :: t => (lk A i = some r ∨ ∃ g e cs, lk A i = some (.box g e cs) ∧ r = .any g) ∧ WeakL A t
theorem WeakL.get {A : Mm} : ∀ {B : Mm} {i : Nat} {r : Res}, WeakL A B → lk B i = some r → lk A i = some r ∨ ∃ g e cs, lk A i = some (.box g e cs) ∧ r = .any g
 | [], i, r, _, h => by cases h
 | (j, s) :: B, i, r, hw, h => by
   rw [lk_cons] at h
   split at h
   · rename_i e; subst e; cases h; exact hw.1
   · exact WeakL.get hw.2 h
theorem MemOk.to {X : Cx} {w0 w : World} {A B : Mm} (m : MemOk X w0 A w) (h : WeakL A B) : MemOk X w0 B w := by
 have hF : ∀ b, Free X A b → Free X B b := by
   rintro b ⟨hz, hf⟩
   refine ⟨hz, ?_⟩
   rintro ⟨i, r, hi, hr⟩
   rcases h.get hi with h1 | ⟨g, e, cs, h1, rfl⟩
   · exact hf ⟨i, r, h1, hr⟩
   · exact hf ⟨i, _, h1, hr⟩
 refine ⟨m.keep, m.fresh, fun i r hi => ?_, fun i j r s b hi hj hr hs => ?_⟩
 · rcases h.get hi with h1 | ⟨g, e, cs, h1, rfl⟩
   · exact Res.ok_mono (m.ok i r h1) (Nat.le_refl _) (fun b _ hS => ⟨rfl, hF b hS⟩) (fun _ _ => rfl)
   · exact ⟨(m.ok i _ h1).1.lt, (m.ok i _ h1).2⟩
 · obtain ⟨r', h1, h2⟩ : ∃ r', lk A i = some r' ∧ r'.blk = some b := by
     rcases h.get hi with h1 | ⟨g, e, cs, h1, rfl⟩
     · exact ⟨r, h1, hr⟩
     · exact ⟨_, h1, hr⟩
   obtain ⟨s', h3, h4⟩ : ∃ r', lk A j = some r' ∧ r'.blk = some b := by
     rcases h.get hj with h1 | ⟨g, e, cs, h1, rfl⟩
     · exact ⟨s, h1, hs⟩
     · exact ⟨_, h1, hs⟩
   exact m.sep i j r' s' b h1 h3 h2 h4
theorem region_m {P : Program} {a : Act} {w w0 : World} {X : Cx} {M B : Mm} {ops : Array Oper} {Q : Exit → Act → World → Prop} (e : Nat) (mB : MemOk X w0 B w) (m : MemOk X w0 M w) {id : Nat} (hm : P.follows .mixedOrders = true)
   (h : ∀ w', MemOk X w0 B w' → MemOk X w0 M w' → wpAnyE P .any ops Q e (MemOk X w0 B) ops.size (Array.replicate ops.size false) a w') : (Code.region id ops true).wp P Q a w :=
 regionE_begin e (MemOk X w0 B) hm (h _ mB.drew m.drew)
/-! ### Over a call -/
def Out (S : Nat → Prop) (w : World) (b : Nat) : Prop := S b ∨ w.heap.size ≤ b
section
variable {w w0 : World} {X : Cx} {M : Mm}
theorem MemOk.free_out (m : MemOk X w0 M w) {b : Nat} (h : Out (Free X M) w b) : Free X M b := by
 rcases h with h | h
 · exact h
 · refine ⟨m.fresh b (Nat.le_trans m.keep.size h), ?_⟩
   rintro ⟨j, s, hj, hs⟩
   have := (Res.blk_lt (m.ok j s hj) hs).1
   omega
end
theorem Rd.nilN (S : Nat → Prop) (w : World) (k : IntKind) (a : Option Addr) : Rd S w (.slice a 0 0) (.ns k []) := .ns ⟨a, 0, rfl, ⟨Nat.le_refl _, Nat.zero_le _⟩, .inl rfl⟩
section
variable {w w0 : World} {X : Cx} {M : Mm}
theorem NumsS.of {S : Nat → Prop} {k : IntKind} {v u : Value} {zs zs' : List Int} (h : NumsS S k w v zs) {w' : World} (hu : IsNums k w' u zs') (hl : ∀ p c, u = .slice p zs'.length c → zs'.length ≤ c ∧ c ≤ maxLen) (hb : ∀ g, u.ownBlock = some g → v.ownBlock = some g) (h0 : zs.length = 0 → zs'.length = 0) : NumsS S k w' u zs' := by
 obtain ⟨a, c, rfl, hz⟩ := hu
 refine ⟨a, c, rfl, hl a c rfl, ?_⟩
 rcases hz with hz | ⟨b, off, rfl, h1, h2⟩
 · exact .inl hz
 · obtain ⟨a', c', rfl, -, h3 | ⟨b', off', rfl, h4, h5, h6⟩⟩ := h
   · exact .inl (h0 h3)
   · have := hb b rfl
     injection this with this
     subst this
     exact .inr ⟨_, off, rfl, h4, h1, h2⟩
end
end
section
def xor8 (a b : Int) : Int := IntKind.u8.wrap (BitVec.ofInt IntKind.u8.bits a ^^^ BitVec.ofInt IntKind.u8.bits b).toNat
theorem NumsS.blk {S : Nat → Prop} {k : IntKind} {w : World} {p : Option Addr} {l c : Nat} {zs : List Int} (h : NumsS S k w (.slice p l c) zs) : zs.length = 0 ∨ ∃ b o, p = some ⟨b, o, none⟩ ∧ b < w.heap.size := by
 obtain ⟨a, c', e, hc, h0 | ⟨b, off, rfl, h1, h2, h3⟩⟩ := h
 · exact .inl h0
 · injection e with e1; exact .inr ⟨b, off, e1, h2⟩
theorem NumsS.cap {S : Nat → Prop} {k : IntKind} {w : World} {p : Option Addr} {l c : Nat} {zs : List Int} (h : NumsS S k w (.slice p l c) zs) : zs.length ≤ c ∧ c ≤ maxLen := by
 obtain ⟨a, c', e, hc, -⟩ := h
 injection e with e1 e2 e3; subst e3; exact hc
theorem NumsS.ofRow {k : IntKind} {w : World} {a : Option Addr} {len cap : Nat} {zs : List Int}
   (h : (a = none ∧ len = 0 ∧ cap = 0 ∧ zs = []) ∨ ∃ x, a = some x ∧ len ≤ cap ∧ cap ≤ maxLen ∧ zs.length = cap ∧ (∀ i, i < zs.length → w.cell? (x.add i) = some (.int k (zs.getD i 0))) ∧ ∀ n ∈ zs, (Lit.int k n).wf = true) :
   ∃ ys, Rd (fun _ => True) w (.slice a ys.length cap) (.ns k ys) ∧ ys.length = len ∧ ∀ n ∈ ys, (Lit.int k n).wf = true := by
 have hl : len ≤ cap ∧ cap ≤ maxLen := by
   rcases h with ⟨rfl, rfl, rfl, rfl⟩ | ⟨x, -, h1, h2, -⟩
   · exact ⟨Nat.le_refl _, Nat.zero_le _⟩
   · exact ⟨h1, h2⟩
 obtain ⟨ys, hn, e, -, hw⟩ := IsNums.ofRow h
 refine ⟨ys, .ns ?_, e, hw⟩
 subst e
 obtain ⟨p, c, e1, hz⟩ := hn
 injection e1 with e1 _ e3
 subst e1; subst e3
 refine ⟨_, _, rfl, hl, ?_⟩
 rcases hz with hz | ⟨b, off, e2, h1, h2⟩
 · exact .inl hz
 · exact .inr ⟨b, off, e2, trivial, h1, h2⟩

section
variable {P : Program} {n : Nat} {T : List (Nat × Value)} {a : Act} {w w0 : World} {X : Cx} {M : Mm} {tt : TypeId} {pos : String} {af : Array Edge} {gd : Option (Nat × Bool)} {Q : Exit → Act → World → Prop} {K : Act → World → Prop}
theorem e_app0N (ha : Has n T a) (m : MemOk X w0 M w) (i : Nat) {d : Tmp} {t e : TypeId} {k : IntKind} {bytes : Nat} {s x : Operand} {u : Value} {zs : List Int} (hs : evT T s = some (.slice none 0 0)) (hx : evT T x = some u) (hu : IsNums k w u zs)
   (ht : P.underlying t = some (.slice e)) (hinf : (P.info? e).map (fun i => (i.zero, i.size, i.bytes)) = some (some (.int k 0), 1, bytes)) (hb8 : bytes ≤ 8) (hn : zs.length ≤ 1000000000) (hd : Nat.blt d n = true)
   (h : ∀ p c a' w', Has n ((d, .slice p zs.length c) :: T) a' → MemOk X w0 ((i, .num (.slice p zs.length c) e k zs) :: M) w' → K a' w') : Oper.wp P ⟨some d, .call { callee := .builtin .append, args := #[s, x], argTypes := #[t, t] }, tt, pos, af, gd⟩ a w K Q := by
 obtain ⟨v', w', hr, h1, h2, h3⟩ := run_appS (P := P) w0.heap.size t tt e k bytes ht hinf hb8 (.slice none 0 0) [] (World.ownsRow_nil _ _ _ _) u zs hu (by simpa using hn) m.keep.size
 rw [List.nil_append] at h1
 have hm' : MemOk X w0 ((i, .num v' e k zs) :: M) w' := m.upd i _ ((keep_grown h2).mono (fun b e => by cases e)) (fun b hb => by
   rcases h3 with e1 | e1
   · rw [show (Res.num v' e k zs).blk = v'.ownBlock from rfl, e1] at hb; cases hb
   · have : some w.heap.size = some b := e1.symm.trans hb
     injection this with this; right; omega) (fun _ _ => h1)
 obtain ⟨p, c, e1⟩ := ownsRow_shape h1
 have hrun : (execOp a.eval ⟨some d, .call { callee := .builtin .append, args := #[s, x], argTypes := #[t, t] }, tt, pos, af, gd⟩).run P w = .ok (.value v') w' := by
   simp only [execOp, resolve, invoke, builtin, Sem.run_bind, Sem.run_pure, Result.andThen_ok, List.map_toArray, List.map_cons, List.map_nil, ha.ev hs, ha.ev hx, hr]
 show Oper.upon P _ a K Q _
 rw [hrun]
 subst e1
 exact h p c _ _ (ha.put hd _) hm'
variable {d : Option Tmp}
theorem y_sliceHn (h : Has n T a) {t e : TypeId} {x y : Operand} {p : Option Addr} {l c : Nat} {k : IntKind} {q : Int} (j : Nat) (hx : evT T x = some (.slice p l c)) (hy : evT T y = some (.int k q)) (hu : P.underlying t = some (.slice e)) {s : Nat} (hs : (P.info? e).map (·.size) = some s) (hq : q = j) (h1 : j ≤ c) : Yl P a w ⟨d, .slice t x none (some y) none, tt, pos, af, gd⟩ (.slice p j c) := by
 subst hq
 have := y_sliceH (P := P) (w := w) (tt := tt) (pos := pos) (af := af) (gd := gd) (d := d) h hx hy hu hs (by omega) (by omega)
 rwa [Int.toNat_natCast] at this
theorem y_sliceLn (h : Has n T a) {t e : TypeId} {x y : Operand} {p : Option Addr} {l c : Nat} {k : IntKind} {q : Int} (j : Nat) (hx : evT T x = some (.slice p l c)) (hy : evT T y = some (.int k q)) (hu : P.underlying t = some (.slice e)) {s : Nat} (hs : (P.info? e).map (·.size) = some s) (hq : q = j) (h1 : j ≤ l) : Yl P a w ⟨d, .slice t x (some y) none none, tt, pos, af, gd⟩ (.slice (if c = j then p else p.map (·.add (j * s))) (l - j) (c - j)) := by
 subst hq
 have := y_sliceL (P := P) (w := w) (tt := tt) (pos := pos) (af := af) (gd := gd) (d := d) h hx hy hu hs (by omega) (by omega)
 rwa [Int.toNat_natCast] at this
end
section
variable {P : Program} {n : Nat} {T : List (Nat × Value)} {a : Act} {w w0 : World} {X : Cx} {M : Mm} {tt : TypeId} {pos : String} {af : Array Edge} {gd : Option (Nat × Bool)}
end
def renM (M : Mm) : List (Nat × Nat) → Mm
 | [] => []
 | (i, j) :: t => match lk M j with
   | some r => (i, r) :: renM M t
   | none => renM M t
theorem renM_out {M : Mm} : ∀ {ps : List (Nat × Nat)} {i : Nat} {r : Res}, lk (renM M ps) i = some r → ∃ j, (i, j) ∈ ps ∧ lk M j = some r
 | [], i, r, h => by cases h
 | (i', j) :: t, i, r, h => by
   rw [renM] at h
   split at h
   · rename_i r' hr
     rw [lk_cons] at h
     split at h
     · rename_i e; subst e; cases h; exact ⟨j, List.mem_cons_self, hr⟩
     · obtain ⟨j', h1, h2⟩ := renM_out h; exact ⟨j', List.mem_cons_of_mem _ h1, h2⟩
   · obtain ⟨j', h1, h2⟩ := renM_out h; exact ⟨j', List.mem_cons_of_mem _ h1, h2⟩
theorem MemOk.ren {X : Cx} {w0 w : World} {M : Mm} (m : MemOk X w0 M w) (ps : List (Nat × Nat)) (hp : (ps.all fun p => ps.all fun q => !(p.2 == q.2) || p.1 == q.1) = true) : MemOk X w0 (renM M ps) w where
 keep := m.keep
 fresh := m.fresh
 ok i r hi := by
   obtain ⟨j, h1, h2⟩ := renM_out hi
   exact Res.ok_mono (m.ok j r h2) (Nat.le_refl _) (fun b _ hS => ⟨rfl, hS.1, fun ⟨k, s, hk, hs⟩ => by obtain ⟨k', h3, h4⟩ := renM_out hk; exact hS.2 ⟨k', s, h4, hs⟩⟩) (fun _ _ => rfl)
 sep i j r s b h1 h2 hr hs := by
   obtain ⟨i', a1, a2⟩ := renM_out h1
   obtain ⟨j', b1, b2⟩ := renM_out h2
   obtain rfl := m.sep i' j' r s b a2 b2 hr hs
   rw [List.all_eq_true] at hp
   have h3 := hp _ a1
   rw [List.all_eq_true] at h3
   have h4 := h3 _ b1
   simpa using h4
end
section
theorem OwnsAt.cellAt {w : World} {base : Nat} {e : TypeId} {size : Nat} {v : Value} {n : Nat} {xs : List Value} (h : OwnsAt w base e size v n xs) {g off cap : Nat} (hv : v = .slice (some ⟨g, off, none⟩) n cap) (j : Nat) (hj : j < n * size) : w.cell? ⟨g, off + j, none⟩ = xs[j]? := by
 rcases h.2 with ⟨rfl, _⟩ | ⟨g', off', cap', cur, rfl, hbg, hgg, h1, h2, h3, h4⟩
 · cases hv
 · injection hv with hv _ _
   injection hv with hv
   injection hv with e1 e2
   subst e1; subst e2
   have hlt : off' + j < cur.size := by
     have : n * size ≤ cap' * size := Nat.mul_le_mul_right _ h1
     omega
   rw [← h4, List.getElem?_take_of_lt hj, List.getElem?_drop]
   simp [World.cell?, hgg, hlt]
section
variable {P : Program} (w : World)
theorem run_append_room_at (t ty e : TypeId) (i : TypeInfo) (ht : P.underlying t = some (.slice e)) (hi : P.info? e = some i)
   (g off sLen sCap : Nat) (cur : Array Value) (hg : w.heap[g]? = some (.cells cur e (0, 0)))
   (a : Addr) (m c : Nat) (news : List Value) (hl : news.length = m * i.size) (hnews : ∀ j u, news[j]? = some u → w.cell? (a.add j) = some u) (h1 : ∀ u ∈ news, u.oneCell' = true)
   (hroom : sLen + m ≤ sCap) (hfit : off + sLen * i.size + news.length ≤ cur.size) :
   (Builtin.append_ #[t, t] ty #[.slice (some ⟨g, off, none⟩) sLen sCap, .slice (some a) m c]).run P w =
     .ok (.slice (some ⟨g, off, none⟩) (sLen + m) sCap) (w.setRow g (cur.toList.take (off + sLen * i.size) ++ news ++ cur.toList.drop (off + sLen * i.size + news.length)).toArray) := by
 have hf := run_firstCells_some (P := P) w i.size m a m c news hl hnews
 have hst := run_storeCells_at P g (off + sLen * i.size) e news 0 cur w hg (by simpa using hfit) h1
 simp only [Nat.add_zero] at hst
 simp [Builtin.append_, run_underlying ht, sizeOf, typeInfo, hi, Builtin.lenOf, hroom, hf, Addr.add_lit, hst]
theorem run_append_seg (base : Nat) (t ty e : TypeId) (z : Value) (size bytes : Nat) (ht : P.underlying t = some (.slice e)) (hinf : (P.info? e).map (fun i => (i.zero, i.size, i.bytes)) = some (some z, size, bytes))
   (hzs : z.cells.size = size) (hsz : 0 < size) (p : Option Addr) (n cap k : Nat) (hk : k ≤ n) (xs : List Value) (hown : OwnsAt w base e size (.slice p n cap) n xs)
   (a : Addr) (m c : Nat) (news : List Value) (hl : news.length = m * size) (hnews : ∀ j u, news[j]? = some u → w.cell? (a.add j) = some u) (h1 : ∀ u ∈ news, u.oneCell' = true)
   (h63 : k + m ≤ maxLen) (hbytes : (k + m) * bytes ≤ 140737488355328) (hbase : base ≤ w.heap.size) :
   ∃ v' w', (Builtin.append_ #[t, t] ty #[.slice p k cap, .slice (some a) m c]).run P w = .ok v' w' ∧ OwnsAt w' base e size v' (k + m) (xs.take (k * size) ++ news) ∧ w.grownBy w' (Value.slice p n cap).ownBlock ∧ (v'.ownBlock = (Value.slice p n cap).ownBlock ∨ v'.ownBlock = some w.heap.size) := by
 rcases hown.2 with ⟨e1, rfl⟩ | ⟨g, off, cap', cur, e1, hbg, hg, hnc, hcm, hcs, htake⟩
 · injection e1 with e1 _ e3
   subst e1; subst e3
   obtain rfl : k = 0 := by omega
   have hx : xs = [] := List.eq_nil_of_length_eq_zero (by simpa using hown.1)
   subst hx
   obtain ⟨v', w', r1, r2, r3, r4⟩ := run_append_where (P := P) w base t ty e z size bytes ht hinf hzs hsz (.slice none 0 0) 0 [] (World.ownsRow_nil _ _ _ _) a m c news hl hnews h1 h63 hbytes hbase
   exact ⟨v', w', r1, by simpa using OwnsAt.of r2, r3, r4⟩
 · injection e1 with e1 _ e3
   subst e1; subst e3
   obtain ⟨i, hi, hz, hsize, hby⟩ := info_parts hinf
   clear hinf
   subst hsize
   subst hby
   have hxl := hown.1
   have hkn : k * i.size ≤ n * i.size := Nat.mul_le_mul_right _ hk
   have hlen : (xs.take (k * i.size) ++ news).length = (k + m) * i.size := by rw [List.length_append, List.length_take, hxl, hl, Nat.add_mul, Nat.min_eq_left hkn]
   by_cases hroom : k + m ≤ cap
   · have hfit : off + k * i.size + news.length ≤ cur.size := by
       have : (k + m) * i.size ≤ cap * i.size := Nat.mul_le_mul_right _ hroom
       rw [Nat.add_mul] at this
       omega
     have hr := run_append_room_at (P := P) w t ty e i ht hi g off k cap cur hg a m c news hl hnews h1 hroom hfit
     refine ⟨_, _, hr, ⟨hlen, .inr ⟨g, off, cap, _, rfl, hbg, setRow_heap w g cur _ e _ hg, hroom, hcm, ?_, ?_⟩⟩, ⟨rfl, rfl, rfl, by simp, fun b _ hb => setRow_other w g b _ (fun e => hb (by simp [Value.ownBlock, e]))⟩, .inl rfl⟩
     · simp only [List.size_toArray, List.length_append, List.length_take, List.length_drop, Array.length_toList]
       omega
     · have h5 : cur.toList.take (off + k * i.size) = cur.toList.take off ++ xs.take (k * i.size) := by
         rw [List.take_add, ← htake, List.take_take, Nat.min_eq_left hkn]
       have h6 : (cur.toList.take off).length = off := by
         rw [List.length_take, Array.length_toList]; omega
       show ((List.toArray _).toList.drop off).take _ = _
       rw [List.toList_toArray, h5, List.append_assoc, List.append_assoc, List.drop_left' h6, ← List.append_assoc, List.take_left' hlen]
   · have holds : ∀ j u, (xs.take (k * i.size))[j]? = some u → w.cell? ((⟨g, off, none⟩ : Addr).add j) = some u := fun j u hj => by
       have hjl : j < k * i.size := by
         have := (List.getElem?_eq_some_iff.1 hj).1
         rw [List.length_take] at this; omega
       rw [List.getElem?_take_of_lt hjl] at hj
       have := hown.cellAt rfl j (by omega)
       rw [Addr.add_mid, this, hj]
     have hgr := run_append_grow (P := P) w t ty e i z ht hi hz ⟨g, off, none⟩ k cap (xs.take (k * i.size)) (by rw [List.length_take, hxl, Nat.min_eq_left hkn]) holds a m c news hl hnews (by omega) (by unfold maxLen at h63; omega) (growslice_fits (by omega) hbytes)
     have hge := grownCap_ge w (k + m) cap e
     have hcm' : grownCap w (k + m) cap e ≤ maxLen := grownCap_le_maxLen w (k + m) cap e h63
     refine ⟨_, _, hgr, ⟨hlen, .inr ⟨w.heap.size, 0, _, _, rfl, hbase, heap_alloc_new w.drew _, hge, hcm', ?_, ?_⟩⟩, ⟨rfl, rfl, rfl, by simp, fun b hb _ => heap_alloc_old w.drew _ hb⟩, .inr rfl⟩
     · have h7 : (xs.take (k * i.size)).length + news.length = (k + m) * i.size := by rw [← List.length_append]; exact hlen
       simp only [Array.size_append, List.size_toArray, size_zeroCells, hzs, h7, ← Nat.add_mul]
       have : (k + m + (grownCap w (k + m) cap e - (k + m))) = grownCap w (k + m) cap e := by omega
       rw [this]; omega
     · simp only [Array.toList_append, List.append_assoc, List.drop_zero]
       rw [← List.append_assoc, ← hlen]
       exact List.take_left
end
section
variable {X : Cx} {w0 w : World} {M : Mm}
theorem MemOk.nilS (m : MemOk X w0 M w) (i : Nat) (e : TypeId) (k : Nat) : MemOk X w0 ((i, .seg (.slice none 0 0) e k []) :: M) w :=
 m.upd i _ (Keep.refl _ _) (fun b hb => by cases hb) (fun _ _ => ⟨⟨[], ⟨by simp, .inl ⟨rfl, rfl⟩⟩, rfl, by simp, by simp, by simp⟩, fun b hb => by cases hb⟩)
theorem MemOk.dropS (m : MemOk X w0 M w) (i : Nat) {p : Option Addr} {l c mm : Nat} {e : TypeId} {rows : List (List D)} (h : lk M i = some (.seg (.slice p l c) e mm rows)) (j : Nat) (hj : j ≤ rows.length) (h0 : 0 < rows.length) : MemOk X w0 ((i, .seg (.slice (if c = j then p else p.map (·.add (j * mm))) (l - j) (c - j)) e mm (rows.drop j)) :: M) w := by
 obtain ⟨⟨cs, h1, h2, h3, h4, h5⟩, hx⟩ := m.ok i _ h
 have hown := h1
 rcases h1.2 with ⟨_, h1⟩ | ⟨g, off, cap, cur, e1, hbg, hg, hnc, hcm, hcs, htake⟩
 · omega
 · injection e1 with e1 e2 e3
   subst e1; subst e2; subst e3
   have hbl : (Value.slice (if c = j then some (⟨g, off, none⟩ : Addr) else (some (⟨g, off, none⟩ : Addr)).map (·.add (j * mm))) (rows.length - j) (c - j)).ownBlock = some g := by
     split
     · rfl
     · simp [Value.ownBlock, Addr.add_mid]
   have hfl : (cs.drop j).flatten = cs.flatten.drop (j * mm) := by
     have hh : ∀ (cs : List (List Value)) (j : Nat), (∀ c ∈ cs, c.length = mm) → j ≤ cs.length → (cs.drop j).flatten = cs.flatten.drop (j * mm) := by
       intro cs j
       induction j generalizing cs with
       | zero => intro _ _; simp
       | succ j ih =>
         intro hc hj
         cases cs with
         | nil => simp at hj
         | cons a cs =>
           have ha := hc a (by simp)
           rw [List.drop_succ_cons, ih cs (fun c h => hc c (by simp [h])) (by simpa using hj), List.flatten_cons, Nat.add_mul, Nat.one_mul, List.drop_append, (List.drop_of_length_le (by omega) : a.drop (j * mm + mm) = []), List.nil_append, ha, Nat.add_sub_cancel]
     exact hh cs j (fun c hc => (h3 c hc).1) (by omega)
   refine m.upd i _ (Keep.refl _ _) (fun b hb => .inl ⟨_, h, (hbl.symm.trans hb).symm ▸ rfl⟩) (fun hf _ => ⟨⟨cs.drop j, ?_, by simp [h2], fun c hc => h3 c (List.mem_of_mem_drop hc), fun r hr => h4 r (List.mem_of_mem_drop hr), fun j' q c r x d a1 a2 a3 a4 => ?_⟩, fun b hb => hx b (by rw [← hb, hbl]; rfl)⟩)
   · rw [List.length_drop, hfl]
     refine ⟨by rw [List.length_drop, hown.1, Nat.sub_mul], .inr ?_⟩
     have hjm : j * mm ≤ rows.length * mm := Nat.mul_le_mul_right _ hj
     have htk : ((cur.toList.drop (off + j * mm)).take ((rows.length - j) * mm)) = cs.flatten.drop (j * mm) := by
       rw [← htake, List.drop_take, List.drop_drop, Nat.sub_mul]
     by_cases hc : c = j
     · rw [if_pos hc]
       have : rows.length = j := by omega
       refine ⟨g, off, c - j, cur, rfl, hbg, hg, by omega, by omega, ?_, ?_⟩
       · have : (c - j) * mm ≤ c * mm := Nat.mul_le_mul_right _ (by omega)
         omega
       · rw [← htk, this]; simp
     · rw [if_neg hc]
       refine ⟨g, off + j * mm, c - j, cur, by simp [Addr.add_mid], hbg, hg, by omega, by omega, ?_, htk⟩
       have : j * mm ≤ c * mm := Nat.mul_le_mul_right _ (by omega)
       rw [Nat.sub_mul]; omega
   · rw [List.getElem?_drop] at a1 a2
     exact (h5 _ q c r x d a1 a2 a3 a4).mono (Nat.le_refl _) (fun b hlt hS => ⟨rfl, hf b hlt hS⟩)
end
def SrcOk (S : Nat → Prop) (w : World) (u : Value) (mm : Nat) (rows : List (List D)) : Prop :=
 ∃ (p : Option Addr) (c : Nat) (cs : List (List Value)), u = .slice p rows.length c ∧ cs.length = rows.length ∧ (∀ c ∈ cs, c.length = mm ∧ ∀ x ∈ c, x.oneCell' = true) ∧ (∀ r ∈ rows, r.length = mm) ∧
   (∀ (j q : Nat) (c : List Value) (r : List D) (x : Value) (d : D), cs[j]? = some c → rows[j]? = some r → c[q]? = some x → r[q]? = some d → Rd S w x d) ∧ (rows.length = 0 ∨ ∃ ad, p = some ad ∧ ∀ j u, cs.flatten[j]? = some u → w.cell? (ad.add j) = some u)
theorem run_app_nothing {P : Program} (w : World) (t ty e : TypeId) (i : TypeInfo) (ht : P.underlying t = some (.slice e)) (hi : P.info? e = some i) (p : Option Addr) (k c cu : Nat) (hk : k ≤ c) : (Builtin.append_ #[t, t] ty #[.slice p k c, .slice none 0 cu]).run P w = .ok (.slice p k c) w := by
 cases p <;> simp [Builtin.append_, run_underlying ht, sizeOf, typeInfo, hi, Builtin.lenOf, Builtin.firstCells, loadCells, loadCellsFrom, hk, storeCells]
theorem flatten_take {α : Type} {mm : Nat} : ∀ (cs : List (List α)) (j : Nat), (∀ c ∈ cs, c.length = mm) → j ≤ cs.length → (cs.take j).flatten = cs.flatten.take (j * mm)
 | cs, 0, _, _ => by simp
 | [], j + 1, _, h => by simp at h
 | a :: cs, j + 1, hc, h => by
   have ha := hc a (by simp)
   rw [List.take_succ_cons, List.flatten_cons, flatten_take cs j (fun c h => hc c (by simp [h])) (by simpa using h), List.flatten_cons, Nat.add_mul, Nat.one_mul, List.take_append, (List.take_of_length_le (by omega) : a.take (j * mm + mm) = a), ha, Nat.add_sub_cancel]
section
variable {P : Program} {n : Nat} {T : List (Nat × Value)} {a : Act} {w w0 : World} {X : Cx} {M : Mm} {tt : TypeId} {pos : String} {af : Array Edge} {gd : Option (Nat × Bool)} {Q : Exit → Act → World → Prop} {K : Act → World → Prop}
theorem e_appS (ha : Has n T a) (m : MemOk X w0 M w) (i : Nat) {d : Tmp} {t e : TypeId} {mm bytes l c : Nat} {p : Option Addr} {z : Value} {s x : Operand} {u : Value} {xs zs : List (List D)} (hm : lk M i = some (.seg (.slice p l c) e mm xs)) (k : Nat) (hk : k ≤ xs.length) (hs : evT T s = some (.slice p k c)) (hx : evT T x = some u) (hu : SrcOk (Free X M) w u mm zs)
   (ht : P.underlying t = some (.slice e)) (hinf : (P.info? e).map (fun i => (i.zero, i.size, i.bytes)) = some (some z, mm, bytes)) (hz : z.cells.size = mm) (h0 : Nat.blt 0 mm = true) (hb8 : bytes ≤ 1000) (hn : k + zs.length ≤ 100000000) (hd : Nat.blt d n = true)
   (h : ∀ p c a' w', Has n ((d, .slice p (xs.take k ++ zs).length c) :: T) a' → MemOk X w0 ((i, .seg (.slice p (xs.take k ++ zs).length c) e mm (xs.take k ++ zs)) :: M) w' → K a' w') : Oper.wp P ⟨some d, .call { callee := .builtin .append, args := #[s, x], argTypes := #[t, t] }, tt, pos, af, gd⟩ a w K Q := by
 obtain ⟨⟨cs, hown, hcl, hc1, hxm, hcr⟩, hxx⟩ := m.ok i _ hm
 obtain ⟨pu, cu, cz, rfl, hzl, hz1, hzm, hzr, hzp⟩ := hu
 have hl : l = xs.length := by
   rcases hown.2 with ⟨e1, h1⟩ | ⟨_, _, _, _, e1, _⟩
   · injection e1 with _ e2 _; omega
   · injection e1
 subst hl
 have h0' : 0 < mm := by simpa using h0
 have hbn : (k + zs.length) * bytes ≤ 140737488355328 := Nat.le_trans (Nat.mul_le_mul_left _ hb8) (by omega)
 have hfl : cz.flatten.length = zs.length * mm := by rw [← List.flatMap_id, parts_len id mm _ (fun c hc => (hz1 c hc).1), hzl]
 have hkl : (xs.take k).length = k := by rw [List.length_take]; omega
 have hkc : k ≤ c := by
   rcases hown.2 with ⟨e1, h1⟩ | ⟨_, _, _, _, e1, _, _, h1, _⟩
   · injection e1 with _ e2 e3; omega
   · injection e1 with _ _ e3; subst e3; omega
 have hft : (cs.take k).flatten = cs.flatten.take (k * mm) := flatten_take cs k (fun c hc => (hc1 c hc).1) (by omega)
 have hrun0 : ∃ v' w', (Builtin.append_ #[t, t] tt #[.slice p k c, .slice pu zs.length cu]).run P w = .ok v' w' ∧ OwnsAt w' 0 e mm v' (k + zs.length) (cs.flatten.take (k * mm) ++ cz.flatten) ∧ w.grownBy w' (Value.slice p xs.length c).ownBlock ∧ (v'.ownBlock = (Value.slice p xs.length c).ownBlock ∨ v'.ownBlock = some w.heap.size) := by
   have main : ∀ ad : Addr, pu = some ad → (∀ j u, cz.flatten[j]? = some u → w.cell? (ad.add j) = some u) → ∃ v' w', (Builtin.append_ #[t, t] tt #[.slice p k c, .slice pu zs.length cu]).run P w = .ok v' w' ∧ OwnsAt w' 0 e mm v' (k + zs.length) (cs.flatten.take (k * mm) ++ cz.flatten) ∧ w.grownBy w' (Value.slice p xs.length c).ownBlock ∧ (v'.ownBlock = (Value.slice p xs.length c).ownBlock ∨ v'.ownBlock = some w.heap.size) := by
     intro ad hpa hcells
     rw [hpa]
     exact run_append_seg (P := P) w 0 t tt e z mm bytes ht hinf hz h0' p xs.length c k hk cs.flatten hown ad zs.length cu cz.flatten hfl hcells (fun u hu => by obtain ⟨c, hc, hx⟩ := List.mem_flatten.1 hu; exact (hz1 c hc).2 u hx) (by unfold maxLen; omega) hbn (Nat.zero_le _)
   rcases hzp with h9 | ⟨ad, e1, e2⟩
   · obtain rfl := List.length_eq_zero_iff.1 h9
     obtain rfl : cz = [] := List.length_eq_zero_iff.1 (by simpa using hzl)
     cases pu with
     | none =>
       obtain ⟨i0, hi, -⟩ := info_parts hinf
       refine ⟨_, w, run_app_nothing w t tt e i0 ht hi p k c cu hkc, ?_, ⟨rfl, rfl, rfl, Nat.le_refl _, fun _ _ _ => rfl⟩, .inl (by cases p <;> rfl)⟩
       have hkm : k * mm ≤ xs.length * mm := Nat.mul_le_mul_right _ hk
       refine ⟨by rw [List.length_append, List.length_take, hown.1, Nat.min_eq_left hkm]; simp, ?_⟩
       rcases hown.2 with ⟨e1, h1⟩ | ⟨g, off, cap, cur, e1, hbg, hg, hnc, hcm, hcs, htake⟩
       · injection e1 with e1 _ e3; subst e1; subst e3
         obtain rfl : k = 0 := by omega
         exact .inl ⟨rfl, rfl⟩
       · injection e1 with e1 _ e3; subst e1; subst e3
         refine .inr ⟨g, off, c, cur, rfl, hbg, hg, hkc, hcm, hcs, ?_⟩
         rw [← htake]; simp [List.take_take, Nat.min_eq_left hkm]
     | some ad => exact main ad rfl (by simp)
   · exact main ad e1 e2
 obtain ⟨v', w', hr, h1, h2, h3⟩ := hrun0
 have hm' : MemOk X w0 ((i, .seg v' e mm (xs.take k ++ zs)) :: M) w' := m.upd i _ ((keep_grown h2).mono (fun b e => ⟨_, hm, e⟩)) (fun b hb => by
   rcases h3 with e1 | e1
   · exact .inl ⟨_, hm, e1.symm.trans hb⟩
   · have : some w.heap.size = some b := e1.symm.trans hb
     injection this with this; right; omega) (fun hf _ => by
   refine ⟨⟨cs.take k ++ cz, ?_, by rw [List.length_append, List.length_append, List.length_take, List.length_take, hcl, hzl], ?_, ?_, ?_⟩, ?_⟩
   · rw [List.length_append, List.flatten_append, hkl, hft]; exact h1
   · intro c hc
     rcases List.mem_append.1 hc with hc | hc
     · exact hc1 c (List.mem_of_mem_take hc)
     · exact hz1 c hc
   · intro r hr
     rcases List.mem_append.1 hr with hr | hr
     · exact hxm r (List.mem_of_mem_take hr)
     · exact hzm r hr
   · intro j q c' r x d a1 a2 a3 a4
     have hmono : ∀ b, b < w.heap.size → Free X M b → w'.heap[b]? = w.heap[b]? ∧ Free X ((i, Res.seg v' e mm (xs.take k ++ zs)) :: M) b := fun b hlt hF => ⟨h2.block b hlt (fun e1 => hF.2 ⟨i, _, hm, e1.symm⟩), hf b hlt hF⟩
     have hkc' : (cs.take k).length = k := by rw [List.length_take]; omega
     by_cases hj : j < k
     · rw [List.getElem?_append_left (by omega), List.getElem?_take_of_lt hj] at a1
       rw [List.getElem?_append_left (by omega), List.getElem?_take_of_lt hj] at a2
       exact (hcr j q c' r x d a1 a2 a3 a4).mono h2.size hmono
     · rw [List.getElem?_append_right (by omega)] at a1
       rw [List.getElem?_append_right (by omega)] at a2
       rw [hkc'] at a1
       rw [hkl] at a2
       exact (hzr _ q c' r x d a1 a2 a3 a4).mono h2.size hmono
   · intro b hb
     rcases h3 with e1 | e1
     · exact hxx b (e1.symm.trans hb)
     · have : some w.heap.size = some b := e1.symm.trans hb
       injection this with this; left; have := m.keep.size; omega)
 have hsh : ∃ p' c', v' = .slice p' (xs.take k ++ zs).length c' := by
   rw [List.length_append, hkl]
   rcases h1.2 with ⟨e1, e2⟩ | ⟨g, off, cap, cur, e1, _⟩
   · rw [e2]; exact ⟨_, _, e1⟩
   · exact ⟨_, _, e1⟩
 obtain ⟨p', c', e1⟩ := hsh
 have hrun : (execOp a.eval ⟨some d, .call { callee := .builtin .append, args := #[s, x], argTypes := #[t, t] }, tt, pos, af, gd⟩).run P w = .ok (.value v') w' := by
   simp only [execOp, resolve, invoke, builtin, Sem.run_bind, Sem.run_pure, Result.andThen_ok, List.map_toArray, List.map_cons, List.map_nil, ha.ev hs, ha.ev hx, hr]
 show Oper.upon P _ a K Q _
 rw [hrun]
 subst e1
 exact h p' c' _ _ (ha.put hd _) hm'
end
section
variable {P : Program} {n : Nat} {T : List (Nat × Value)} {a : Act} {w w0 : World} {X : Cx} {M : Mm} {tt : TypeId} {pos : String} {af : Array Edge} {gd : Option (Nat × Bool)} {Q : Exit → Act → World → Prop} {K : Act → World → Prop}
theorem e_appSA (ha : Has n T a) (m : MemOk X w0 M w) (i : Nat) {d : Tmp} {t e : TypeId} {mm bytes l c : Nat} {p : Option Addr} {z : Value} {s x : Operand} {u : Value} {xs zs : List (List D)} (hm : lk M i = some (.seg (.slice p l c) e mm xs)) (hs : evT T s = some (.slice p l c)) (hx : evT T x = some u) (hu : SrcOk (Free X M) w u mm zs)
   (ht : P.underlying t = some (.slice e)) (hinf : (P.info? e).map (fun i => (i.zero, i.size, i.bytes)) = some (some z, mm, bytes)) (hz : z.cells.size = mm) (h0 : Nat.blt 0 mm = true) (hb8 : bytes ≤ 1000) (hn : xs.length + zs.length ≤ 100000000) (hd : Nat.blt d n = true)
   (h : ∀ p c a' w', Has n ((d, .slice p (xs ++ zs).length c) :: T) a' → MemOk X w0 ((i, .seg (.slice p (xs ++ zs).length c) e mm (xs ++ zs)) :: M) w' → K a' w') : Oper.wp P ⟨some d, .call { callee := .builtin .append, args := #[s, x], argTypes := #[t, t] }, tt, pos, af, gd⟩ a w K Q := by
 have hl : l = xs.length := by
   obtain ⟨⟨cs, hown, _⟩, _⟩ := m.ok i _ hm
   rcases hown.2 with ⟨e1, h1⟩ | ⟨_, _, _, _, e1, _⟩
   · injection e1 with _ e2 _; omega
   · injection e1
 subst hl
 refine e_appS ha m i hm xs.length (Nat.le_refl _) hs hx hu ht hinf hz h0 hb8 hn hd ?_
 rw [List.take_length]
 exact h
theorem MemOk.openS (m : MemOk X w0 M w) {i : Nat} {p : Option Addr} {l c mm : Nat} {e : TypeId} {rows : List (List D)} (hm : lk M i = some (.seg (.slice p l c) e mm rows)) (j : Nat) {r : List D} (hr : rows[j]? = some r) : ∃ g off vs, p = some ⟨g, off, none⟩ ∧ l = rows.length ∧ RdL (Free X M) w vs r ∧ w.rangeAt g (off + j * mm) vs := by
 obtain ⟨⟨cs, hown, h2, h3, h4, h5⟩, hx⟩ := m.ok i _ hm
 have hj : j < rows.length := (List.getElem?_eq_some_iff.1 hr).1
 have hjc : j < cs.length := by omega
 rcases hown.2 with ⟨e1, h1⟩ | ⟨g, off, cap, cur, e1, _⟩
 · omega
 · injection e1 with e1 e2 e3
   have hc : cs[j]? = some cs[j] := List.getElem?_eq_getElem hjc
   refine ⟨g, off, cs[j], e1, e2, RdL.of ?_ (fun q x d a1 a2 => h5 j q cs[j] r x d hc hr a1 a2), fun q v hv => ?_⟩
   · rw [(h3 _ (List.getElem_mem hjc)).1, h4 r (List.mem_of_getElem? hr)]
   · have hq := (List.getElem?_eq_some_iff.1 hv).1
     have hvl := (h3 _ (List.getElem_mem hjc)).1
     have hf := flatten_at cs j q cs[j] (fun c hc => (h3 c hc).1) hc (by omega)
     have := hown.cellAt (by rw [e1, e2]) (j * mm + q) (by calc j * mm + q < j * mm + mm := by omega
       _ = (j + 1) * mm := by rw [Nat.add_mul]; omega
       _ ≤ rows.length * mm := Nat.mul_le_mul_right _ (by omega))
     rw [Nat.add_assoc, this, hf, hv]
theorem y_loadAt (ha : Has n T a) {d : Option Tmp} {t : TypeId} {td : TypeDesc} {x : Operand} {b o : Nat} {vs : List Value} (hr : w.rangeAt b o vs) (hx : evT T x = some (.pointer (some ⟨b, o, none⟩))) (hu : P.underlying t = some td) (hd : td.isRow = true) (hs : (P.info? t).map (·.size) = some vs.length) : Yl P a w ⟨d, .load t x, tt, pos, af, gd⟩ (.agg vs.toArray) := by
 show (execOp _ _).run P w = _
 rw [exec_load t x rfl b o (ha.ev hx) vs td hr hu hd hs]
/-! ### A struct of one slice of one's own, behind a pointer -/
def cxp (S : Nat → Prop) (w : World) (B : Nat) (v : Value) : Cx := ⟨B :: v.ownBlock.toList, fun b => b < w.heap.size → S b⟩
theorem SegOk.mono {S S' : Nat → Prop} {w : World} {v : Value} {e : TypeId} {m : Nat} {rows : List (List D)} (h : SegOk S w v e m rows) (hs : ∀ b, b < w.heap.size → S b → S' b) : SegOk S' w v e m rows := by
 obtain ⟨cs, h1, h2, h3, h4, h5⟩ := h
 exact ⟨cs, h1, h2, h3, h4, fun j q c r x d a1 a2 a3 a4 => (h5 j q c r x d a1 a2 a3 a4).mono (Nat.le_refl _) (fun b hlt hS => ⟨rfl, hs b hlt hS⟩)⟩
def PoolAt (S : Nat → Prop) (w : World) (B : Nat) (pt e : TypeId) (mm : Nat) (v : Value) (rows : List (List D)) (w' : World) (v' : Value) : Prop :=
 Blk w' B pt [v'] ∧ SegOk (fun b => (S b ∨ w.heap.size ≤ b) ∧ b ≠ B ∧ v'.ownBlock ≠ some b) w' v' e mm rows ∧ Keep (fun b => b = B ∨ v.ownBlock = some b) w w' ∧ (∀ b, v'.ownBlock = some b → w.heap.size ≤ b ∨ v.ownBlock = some b) ∧ v'.ownBlock ≠ some B
end
end
section
section
variable {P : Program} {n : Nat} {T : List (Nat × Value)} {a : Act} {w w0 : World} {X : Cx} {M : Mm} {tt tt' : TypeId} {pos pos' : String} {af af' : Array Edge} {ops : Array Oper} {rest : List Oper} {Q : Exit → Act → World → Prop}
theorem st_const (ha : Has n T a) (m : MemOk X w0 M w) (i : Nat) {d1 d2 : Tmp} {t e : TypeId} {len : Nat} {parts : Array (Nat × Operand)} {vs : List Value} {zs : List Int} (hp : evLit T 0 parts.toList = some vs) (hz : intsOf .u8 vs = some zs) (hu : P.underlying t = some (.slice e)) (he : P.underlying e = some (.int .u8)) {z : Value} {bytes : Nat} (hinf : (P.info? e).map (fun i => (i.zero, i.size, i.bytes)) = some (some z, 1, bytes)) (hl : zs.length = len) (h0 : Nat.blt 0 len = true) (h1 : Nat.ble len 1000 = true) (ht : Nat.blt d1 n = true) (ht2 : Nat.blt d2 n = true)
   (h : ∀ g a' w', Has n ((d2, .slice (some ⟨g, 0, none⟩) zs.length len) :: (d1, .slice (some ⟨g, 0, none⟩) len len) :: T) a' → MemOk X w0 ((i, .dat (.slice (some ⟨g, 0, none⟩) zs.length len) (.ns .u8 zs)) :: M) w' → wpList P ops Q rest a' w') : wpList P ops Q (⟨some d1, .buildSlice t len parts, tt, pos, af, none⟩ :: ⟨some d2, .convert t t (.tmp d1), tt', pos', af', none⟩ :: rest) a w := by
 obtain ⟨ie, hie, hzz, hsz, -⟩ := info_parts hinf
 have h0' : 0 < len := by simpa using h0
 have h1' : len ≤ 1000 := by simpa using h1
 have hvs := intsOf_map hz
 have hpl := ha.evLit hp
 have hf : Instr.fill (fun i => some (i * ie.size, ie.size)) ((Array.range (len * ie.size)).map (z.cells[· % z.cells.size]!)) (parts.map fun (i, x) => (i, a.eval x)).toList = some (zs.map (Value.int .u8)).toArray := by
   rw [Array.toList_map, hsz, hvs] at *
   have := Great.fill_flat (zs.map (Value.int .u8)) ((Array.range (len * 1)).map (z.cells[· % z.cells.size]!)) (fun v hv => by obtain ⟨x, _, rfl⟩ := List.mem_map.1 hv; rfl) (by simp [hl])
   rw [← this]
   congr 1
 have hr := run_buildSlice (P := P) w t e len _ _ ie z hu hie hzz (by rw [hsz]; omega) (by rw [hsz]; omega) hf
 have hrun : (execOp a.eval ⟨some d1, .buildSlice t len parts, tt, pos, af, none⟩).run P w = .ok (.value (.slice (some ⟨w.heap.size, 0, none⟩) len len)) (w.alloc (.cells (zs.map (Value.int .u8)).toArray e)) := by
   simp only [execOp, Sem.run_bind, hr, Result.andThen_ok, Sem.run_pure]
 refine wpList_plain rfl (fun K hK => ?_)
 show Oper.upon P _ a K Q _
 rw [hrun]
 refine hK _ _ (wpList_plain rfl (fun K2 hK2 => ?_))
 have ha1 := ha.put ht (.slice (some ⟨w.heap.size, 0, none⟩) len len)
 have hev := ha1.ev (x := .tmp d1) (v := .slice (some ⟨w.heap.size, 0, none⟩) len len) (by show lk _ d1 = _; rw [lk_cons, if_pos rfl])
 have hc := Lib.run_convert_bytes_const (P := P) w t e (zs.map (Value.int .u8)).toArray len len hu he
 have hrun2 : (execOp (a.put (some d1) (.slice (some ⟨w.heap.size, 0, none⟩) len len)).eval ⟨some d2, .convert t t (.tmp d1), tt', pos', af', none⟩).run P (w.alloc (.cells (zs.map (Value.int .u8)).toArray e)) = .ok (.value (.slice (some ⟨w.heap.size, 0, none⟩) len len)) (w.alloc (.cells (zs.map (Value.int .u8)).toArray e ((zs.map (Value.int .u8)).toArray.size, (zs.map (Value.int .u8)).toArray.size + 1))) := by
   simp only [execOp, hev, Sem.run_bind, hc, Result.andThen_ok, Sem.run_pure]
 show Oper.upon P _ _ K2 Q _
 rw [hrun2]
 refine hK2 _ _ (h w.heap.size _ _ ?_ ?_)
 · rw [hl]; exact ha1.put ht2 _
 · refine m.upd i _ (Keep.alloc _ _ _) (fun b hb => by cases hb) (fun hf _ => .ns ⟨_, len, rfl, ⟨by omega, by unfold maxLen; omega⟩, .inr ⟨w.heap.size, 0, rfl, free_add rfl (m.free_out (.inr (Nat.le_refl _))), by simp, fun j hj => ?_⟩⟩)
   unfold World.cell? World.alloc
   simp [hj, List.getD]
end
end
section
theorem SegOk.rd {S S' : Nat → Prop} {w : World} {v : Value} {e : TypeId} {mm : Nat} {rows : List (List D)} (h : SegOk S w v e mm rows) (hS : ∀ b, b < w.heap.size → S b → S' b) (hv : ∀ b, v.ownBlock = some b → S' b) : Rd S' w v (.l mm rows) := by
 obtain ⟨cs, h1, h2, h3, h4, h5⟩ := h
 rcases h1.2 with ⟨rfl, h0⟩ | ⟨g, off, cap, cur, e1, hg, hbk, hcap, h7, h8, h9⟩
 · obtain rfl := List.length_eq_zero_iff.1 h0
   exact .l0 none 0 mm
 · subst e1
   have hlt := (Array.getElem?_eq_some_iff.1 hbk).1
   refine .l mm g off cap rows (fun j q => (cs.flatten[j * mm + q]?).getD undef) (hv g rfl) hlt hcap h4 (fun j q hj hq => ?_) (fun j q r d hj hq => ?_)
   · have hjc : j < cs.length := by omega
     have hc : cs[j]? = some cs[j] := List.getElem?_eq_getElem hjc
     have hm := (h3 cs[j] (List.getElem_mem hjc)).1
     have hx : cs[j][q]? = some (cs[j][q]'(by omega)) := List.getElem?_eq_getElem (by omega)
     have hf := flatten_at cs j q cs[j] (fun c hc => (h3 c hc).1) hc hq
     have := h1.cellAt rfl (j * mm + q) (by calc j * mm + q < j * mm + mm := by omega
         _ = (j + 1) * mm := by rw [Nat.add_mul]; omega
         _ ≤ rows.length * mm := Nat.mul_le_mul_right _ (by omega))
     rw [Nat.add_assoc, this, hf, hx]
     exact ⟨rfl, (h3 cs[j] (List.getElem_mem hjc)).2 _ (List.getElem_mem _)⟩
   · have hjr := (List.getElem?_eq_some_iff.1 hj).1
     have hjc : j < cs.length := by omega
     have hc : cs[j]? = some cs[j] := List.getElem?_eq_getElem hjc
     have hm := (h3 cs[j] (List.getElem_mem hjc)).1
     have hqr := (List.getElem?_eq_some_iff.1 hq).1
     have hrm := h4 r (List.mem_of_getElem? hj)
     have hx : cs[j][q]? = some (cs[j][q]'(by omega)) := List.getElem?_eq_getElem (by omega)
     have hf := flatten_at cs j q cs[j] (fun c hc => (h3 c hc).1) hc (by omega)
     show Rd S' w ((cs.flatten[j * mm + q]?).getD undef) d
     rw [hf, hx]
     exact (h5 j q cs[j] r _ d hc hj hx hq).mono (Nat.le_refl _) (fun b hlt hs => ⟨rfl, hS b hlt hs⟩)
theorem SegOk.take {S : Nat → Prop} {w : World} {p : Option Addr} {l c mm : Nat} {e : TypeId} {rows : List (List D)} (h : SegOk S w (.slice p l c) e mm rows) (j : Nat) (hj : j ≤ rows.length) : SegOk S w (.slice p j c) e mm (rows.take j) := by
 obtain ⟨cs, h1, h2, h3, h4, h5⟩ := h
 have hft : (cs.take j).flatten = cs.flatten.take (j * mm) := flatten_take cs j (fun c hc => (h3 c hc).1) (by omega)
 have hjm : j * mm ≤ rows.length * mm := Nat.mul_le_mul_right _ hj
 have hjl : (rows.take j).length = j := by rw [List.length_take]; omega
 refine ⟨cs.take j, ?_, by simp [h2], fun c hc => h3 c (List.mem_of_mem_take hc), fun r hr => h4 r (List.mem_of_mem_take hr), fun j' q c' r x d a1 a2 a3 a4 => ?_⟩
 · rw [hjl, hft]
   refine ⟨by rw [List.length_take, h1.1]; omega, ?_⟩
   rcases h1.2 with ⟨e1, h0⟩ | ⟨g, off, cap, cur, e1, hg, hbk, hcap, h7, h8, h9⟩
   · injection e1 with e1 _ e3; subst e1; subst e3
     obtain rfl : j = 0 := by omega
     exact .inl ⟨rfl, rfl⟩
   · injection e1 with e1 _ e3; subst e1; subst e3
     exact .inr ⟨g, off, c, cur, rfl, hg, hbk, by omega, h7, h8, by rw [← h9, List.take_take, Nat.min_eq_left hjm]⟩
 · have hlt : j' < j := by
     have := (List.getElem?_eq_some_iff.1 a2).1
     rw [hjl] at this; exact this
   rw [List.getElem?_take_of_lt hlt] at a1 a2
   exact h5 j' q c' r x d a1 a2 a3 a4
section
variable {w w0 : World} {X : Cx} {M : Mm}
theorem Rd.ext {S2 : Nat → Prop} {p : Option Addr} {l c mm : Nat} {rows : List (List D)} (h : Rd S2 w0 (.slice p l c) (.l mm rows)) (m : MemOk X w0 M w) (hX : ∀ b, S2 b → b ∉ X.bad) (j : Nat) {r : List D} (hr : rows[j]? = some r) : ∃ g off vs, p = some ⟨g, off, none⟩ ∧ l = rows.length ∧ RdL S2 w0 vs r ∧ w.rangeAt g (off + j * mm) vs := by
 have hj : j < rows.length := (List.getElem?_eq_some_iff.1 hr).1
 rcases Rd.l_out h with rfl | ⟨b, off, c', f, e, hS, hb, hmm, hcell, hrd⟩
 · simp at hj
 · injection e with e1 e2 e3
   have hrm : r.length = mm := hmm r (List.mem_of_getElem? hr)
   refine ⟨b, off, (List.range mm).map (f j), e1, e2, RdL.of (by simp [hrm]) (fun q v d h1 h2 => ?_), fun q v hv => ?_⟩
   · have h1' : q < mm := by have := (List.getElem?_eq_some_iff.1 h2).1; omega
     have : v = f j q := by simpa [h1'] using h1.symm
     subst this
     exact hrd j q r _ hr h2
   · have hq' := (List.getElem?_eq_some_iff.1 hv).1
     have hq2 : q < mm := by simpa using hq'
     have : v = f j q := by simpa [hq2] using hv.symm
     subst this
     rw [World.cell?_of_block (w := w0) (m.keep.2.2.2.2 b hb (hX b hS))]
     exact (hcell j q hj hq2).1
theorem Rd.now {S2 : Nat → Prop} {v : Value} {d : D} (h : Rd S2 w0 v d) (m : MemOk X w0 M w) (hX : ∀ b, S2 b → b ∉ X.bad) : Rd S2 w v d := h.mono m.keep.size (fun b hlt hS => ⟨m.keep.2.2.2.2 b hlt (hX b hS), hS⟩)
end
end
section
theorem run_appM {P : Program} {w : World} (base : Nat) (t ty e : TypeId) (k : IntKind) (bytes : Nat) (ht : P.underlying t = some (.slice e)) (hinf : (P.info? e).map (fun i => (i.zero, i.size, i.bytes)) = some (some (.int k 0), 1, bytes))
   (u : Value) (zs : List Int) (hu : IsNums k w u zs) (hn : zs.length ≤ maxLen) (hbn : zs.length * bytes ≤ 140737488355328) (hbase : base ≤ w.heap.size) :
   ∃ v' w', (Builtin.append_ #[t, t] ty #[.slice none 0 0, u]).run P w = .ok v' w' ∧ w'.ownsRow base e 1 v' zs.length (zs.map (Value.int k)) ∧ w.grownBy w' none ∧ (v'.ownBlock = none ∨ v'.ownBlock = some w.heap.size) := by
 obtain ⟨p, c, rfl, hp⟩ := hu
 have hown : w.ownsRow base e 1 (.slice none 0 0) 0 [] := World.ownsRow_nil _ _ _ _
 have main : ∀ ad : Addr, p = some ad → (∀ j v, (zs.map (Value.int k))[j]? = some v → w.cell? (ad.add j) = some v) → ∃ v' w', (Builtin.append_ #[t, t] ty #[.slice none 0 0, .slice p zs.length c]).run P w = .ok v' w' ∧ w'.ownsRow base e 1 v' zs.length (zs.map (Value.int k)) ∧ w.grownBy w' none ∧ (v'.ownBlock = none ∨ v'.ownBlock = some w.heap.size) := by
   intro ad hpa hcells
   rw [hpa]
   have := run_append_where (P := P) w base t ty e (.int k 0) 1 bytes ht hinf rfl (by decide) (.slice none 0 0) 0 [] hown ad zs.length c (zs.map (Value.int k)) (by simp) hcells (by intro u hu; obtain ⟨y, _, rfl⟩ := List.mem_map.1 hu; rfl) (by omega) (by rw [Nat.zero_add]; exact hbn) hbase
   simpa [Value.ownBlock] using this
 by_cases h0 : zs.length = 0
 · obtain rfl := List.length_eq_zero_iff.1 h0
   cases p with
   | none =>
     obtain ⟨i0, hi, -⟩ := info_parts hinf
     exact ⟨.slice none 0 0, w, run_app_none ht hi hown c, by simpa using hown, ⟨rfl, rfl, rfl, Nat.le_refl _, fun _ _ _ => rfl⟩, .inl rfl⟩
   | some ad => exact main ad rfl (by simp)
 · rcases hp with hp | ⟨b, off, rfl, hblk, hc⟩
   · exact absurd hp h0
   · refine main _ rfl ?_
     intro j u hj
     have hjn : j < zs.length := by
       have := (List.getElem?_eq_some_iff.1 hj).1
       simpa using this
     rw [Addr.add_lit, hc j hjn]
     simp [hjn] at hj
     subst hj
     simp [List.getD, hjn]
section
variable {P : Program} {n : Nat} {T : List (Nat × Value)} {a : Act} {w w0 : World} {X : Cx} {M : Mm} {tt : TypeId} {pos : String} {af : Array Edge} {gd : Option (Nat × Bool)} {Q : Exit → Act → World → Prop} {K : Act → World → Prop}
theorem e_app0M (ha : Has n T a) (m : MemOk X w0 M w) (i : Nat) {d : Tmp} {t e : TypeId} {k : IntKind} {bytes : Nat} {s x : Operand} {u : Value} {zs : List Int} (hs : evT T s = some (.slice none 0 0)) (hx : evT T x = some u) (hu : IsNums k w u zs)
   (ht : P.underlying t = some (.slice e)) (hinf : (P.info? e).map (fun i => (i.zero, i.size, i.bytes)) = some (some (.int k 0), 1, bytes)) (hb8 : 1 ≤ bytes) (hn : zs.length * bytes ≤ 140737488355328) (hd : Nat.blt d n = true)
   (h : ∀ p c a' w', Has n ((d, .slice p zs.length c) :: T) a' → MemOk X w0 ((i, .num (.slice p zs.length c) e k zs) :: M) w' → K a' w') : Oper.wp P ⟨some d, .call { callee := .builtin .append, args := #[s, x], argTypes := #[t, t] }, tt, pos, af, gd⟩ a w K Q := by
 have hle : zs.length ≤ zs.length * bytes := Nat.le_mul_of_pos_right _ hb8
 obtain ⟨v', w', hr, h1, h2, h3⟩ := run_appM (P := P) w0.heap.size t tt e k bytes ht hinf u zs hu (by unfold maxLen; omega) hn m.keep.size
 have hm' : MemOk X w0 ((i, .num v' e k zs) :: M) w' := m.upd i _ ((keep_grown (v := .slice none 0 0) h2).mono (fun b e => by cases e)) (fun b hb => by
   rcases h3 with e1 | e1
   · rw [show (Res.num v' e k zs).blk = v'.ownBlock from rfl, e1] at hb; cases hb
   · have : some w.heap.size = some b := e1.symm.trans hb
     injection this with this; right; omega) (fun _ _ => h1)
 obtain ⟨p, c, e1⟩ := ownsRow_shape h1
 have hrun : (execOp a.eval ⟨some d, .call { callee := .builtin .append, args := #[s, x], argTypes := #[t, t] }, tt, pos, af, gd⟩).run P w = .ok (.value v') w' := by
   simp only [execOp, resolve, invoke, builtin, Sem.run_bind, Sem.run_pure, Result.andThen_ok, List.map_toArray, List.map_cons, List.map_nil, ha.ev hs, ha.ev hx, hr]
 show Oper.upon P _ a K Q _
 rw [hrun]
 subst e1
 exact h p c _ _ (ha.put hd _) hm'
end
theorem SegOk.src {S : Nat → Prop} {w : World} {v : Value} {e : TypeId} {mm : Nat} {rows : List (List D)} (h : SegOk S w v e mm rows) : SrcOk S w v mm rows := by
 obtain ⟨cs, h1, h2, h3, h4, h5⟩ := h
 rcases h1.2 with ⟨e1, h0⟩ | ⟨g, off, cap, cur, e1, hg, hbk, hcap, h7, h8, h9⟩
 · exact ⟨none, 0, cs, by rw [e1, h0], h2, h3, h4, h5, .inl h0⟩
 · refine ⟨_, cap, cs, e1, h2, h3, h4, h5, .inr ⟨_, rfl, fun j u hj => ?_⟩⟩
   have hjl : j < rows.length * mm := by rw [← h1.1]; exact (List.getElem?_eq_some_iff.1 hj).1
   have := h1.cellAt e1 j hjl
   rw [Addr.add_mid, this, hj]
theorem MemOk.srcS {w w0 : World} {X : Cx} {M : Mm} (m : MemOk X w0 M w) {i : Nat} {v : Value} {e : TypeId} {mm : Nat} {rows : List (List D)} (hm : lk M i = some (.seg v e mm rows)) : SrcOk (Free X M) w v mm rows := (m.ok i _ hm).1.src
end
section
inductive Shp where
 | i (k : IntKind)
 | bo
 | st
 | ns (k : IntKind)
 | l (ss : List Shp)
mutual
inductive DOk : Shp → D → Prop
 | i {k : IntKind} {z : Int} (h : (Lit.int k z).wf = true) : DOk (.i k) (.v (.int k z))
 | bo (x : Bool) : DOk .bo (.v (.bool x))
 | st (x : ByteArray) (h : x.size ≤ reachBytes) : DOk .st (.v (.string x))
 | ns {k : IntKind} {zs : List Int} (h1 : zs.length ≤ reachBytes) (h : ∀ z ∈ zs, (Lit.int k z).wf = true) : DOk (.ns k) (.ns k zs)
 | l {ss : List Shp} {rows : List (List D)} (h1 : rows.length ≤ reachBytes) (h : ∀ r ∈ rows, DOkL ss r) : DOk (.l ss) (.l ss.length rows)
inductive DOkL : List Shp → List D → Prop
 | nil : DOkL [] []
 | cons {s : Shp} {d : D} {ss : List Shp} {ds : List D} (h : DOk s d) (t : DOkL ss ds) : DOkL (s :: ss) (d :: ds)
end
theorem DOkL.len {ss : List Shp} {ds : List D} (h : DOkL ss ds) : ds.length = ss.length := by
 induction ss generalizing ds with
 | nil => cases h; rfl
 | cons s ss ih => cases h with | cons h t => simp [ih t]
inductive Fits (P : Program) : TypeId → List Shp → Prop
 | int {t : TypeId} {k : IntKind} (hu : P.underlying t = some (.int k)) : Fits P t [.i k]
 | bool {t : TypeId} (hu : P.underlying t = some .bool) : Fits P t [.bo]
 | str {t : TypeId} (hu : P.underlying t = some .string) : Fits P t [.st]
 | nums {t e : TypeId} {k : IntKind} (hu : P.underlying t = some (.slice e)) (he : P.underlying e = some (.int k)) (ce : P.cellsOf e = 1) (hb : Nat.ble 1 (P.bytesOf e) = true) : Fits P t [.ns k]
 | rows {t e : TypeId} {ss : List Shp} (hu : P.underlying t = some (.slice e)) (hf : Fits P e ss) (ce : P.cellsOf e = ss.length) (h0 : Nat.blt 0 ss.length = true) (hb : Nat.ble 1 (P.bytesOf e) = true) : Fits P t [.l ss]
 | struct {t : TypeId} {fs : Array Field} {sss : List (List Shp)} (hu : P.underlying t = some (.struct fs)) (ce : P.cellsOf t = sss.flatten.length) (hl : sss.length = fs.size)
     (ho : ∀ (i : Nat) (f : Field) (s : List Shp), fs[i]? = some f → sss[i]? = some s → f.offset = (sss.take i).flatten.length ∧ P.cellsOf f.type = s.length)
     (hf : ∀ (i : Nat) (f : Field) (s : List Shp), fs[i]? = some f → sss[i]? = some s → Fits P f.type s) : Fits P t sss.flatten
 | array {t e : TypeId} {n : Nat} {ss : List Shp} (hu : P.underlying t = some (.array n e)) (hf : Fits P e ss) (ce : P.cellsOf e = ss.length) (ct : P.cellsOf t = (List.replicate n ss).flatten.length) : Fits P t (List.replicate n ss).flatten
inductive FitsL (P : Program) : List Field → Nat → List (List Shp) → Prop
 | nil (o : Nat) : FitsL P [] o []
 | cons {f : Field} {fs : List Field} {o : Nat} {s : List Shp} {ss : List (List Shp)} (ho : f.offset = o) (hc : P.cellsOf f.type = s.length) (hf : Fits P f.type s) (t : FitsL P fs (o + s.length) ss) : FitsL P (f :: fs) o (s :: ss)
theorem FitsL.at {P : Program} {fs : List Field} {o : Nat} {ss : List (List Shp)} (h : FitsL P fs o ss) : ∀ (i : Nat) (f : Field) (s : List Shp), fs[i]? = some f → ss[i]? = some s → (f.offset = o + (ss.take i).flatten.length ∧ P.cellsOf f.type = s.length) ∧ Fits P f.type s := by
 induction h with
 | nil o => intro i f s h1; simp at h1
 | cons ho hc hf t ih =>
   intro i f s h1 h2
   cases i with
   | zero => simp at h1 h2; subst h1; subst h2; exact ⟨⟨by simpa using ho, hc⟩, hf⟩
   | succ i =>
     have := ih i f s (by simpa using h1) (by simpa using h2)
     refine ⟨⟨?_, this.1.2⟩, this.2⟩
     rw [this.1.1]; simp; omega
theorem FitsL.len {P : Program} {fs : List Field} {o : Nat} {ss : List (List Shp)} (h : FitsL P fs o ss) : ss.length = fs.length := by
 induction h with
 | nil => rfl
 | cons _ _ _ _ ih => simp [ih]
theorem DOk.l_out {ss : List Shp} {d : D} (h : DOk (.l ss) d) : ∃ rows, d = .l ss.length rows ∧ rows.length ≤ reachBytes ∧ ∀ r ∈ rows, DOkL ss r := by cases h with | l h1 h2 => exact ⟨_, rfl, h1, h2⟩
theorem DOk.ns_out {k : IntKind} {d : D} (h : DOk (.ns k) d) : ∃ zs, d = .ns k zs ∧ zs.length ≤ reachBytes ∧ ∀ z ∈ zs, (Lit.int k z).wf = true := by cases h with | ns h1 h2 => exact ⟨_, rfl, h1, h2⟩
end
section
def ownL (M : Mm) : List Nat := M.filterMap (fun p => p.2.blk)
def cxM (X : Cx) (M : Mm) (w : World) (L : Mm) : Cx := ⟨ownL L, fun b => b < w.heap.size → Free X M b⟩
def Res.pass : Res → Bool
 | .num _ _ _ _ => false
 | .row _ _ _ _ => false
 | .rowC _ _ _ _ _ => false
 | _ => true
def dropM (M : Mm) (ids : List Nat) : Mm := M.filter (fun p => !(ids.any (Nat.beq p.1)))
theorem lk_mem {α : Type} : ∀ {M : List (Nat × α)} {i : Nat} {r : α}, lk M i = some r → (i, r) ∈ M
 | [], i, r, h => by cases h
 | (k, x) :: t, i, r, h => by
   rw [lk_cons] at h
   split at h
   · rename_i e; subst e; cases h; exact List.mem_cons_self
   · exact List.mem_cons_of_mem _ (lk_mem h)
theorem renM_mem {M : Mm} : ∀ {ps : List (Nat × Nat)} {i : Nat} {r : Res}, (i, r) ∈ renM M ps → ∃ j, (i, j) ∈ ps ∧ lk M j = some r
 | [], i, r, h => by cases h
 | (i', j) :: t, i, r, h => by
   rw [renM] at h
   split at h
   · rename_i r' hr
     rcases List.mem_cons.1 h with e | h
     · injection e with e1 e2; subst e1; subst e2; exact ⟨j, List.mem_cons_self, hr⟩
     · obtain ⟨j', h1, h2⟩ := renM_mem h; exact ⟨j', List.mem_cons_of_mem _ h1, h2⟩
   · obtain ⟨j', h1, h2⟩ := renM_mem h; exact ⟨j', List.mem_cons_of_mem _ h1, h2⟩
theorem ownL_of {M : Mm} {i b : Nat} {r : Res} (h : lk M i = some r) (hb : r.blk = some b) : b ∈ ownL M := List.mem_filterMap.2 ⟨(i, r), lk_mem h, hb⟩
theorem ownL_ren {M : Mm} {ps : List (Nat × Nat)} {b : Nat} (h : b ∈ ownL (renM M ps)) : ∃ i j r, (i, j) ∈ ps ∧ lk M j = some r ∧ r.blk = some b := by
 obtain ⟨⟨i, r⟩, h1, h2⟩ := List.mem_filterMap.1 h
 obtain ⟨j, h3, h4⟩ := renM_mem h1
 exact ⟨i, j, r, h3, h4, h2⟩
theorem lk_app {α : Type} : ∀ {A B : List (Nat × α)} {i : Nat}, lk (A ++ B) i = (lk A i).or (lk B i)
 | [], B, i => rfl
 | (k, x) :: t, B, i => by
   rw [List.cons_append, lk_cons, lk_cons]
   split
   · rfl
   · exact lk_app
theorem dropM_lk {ids : List Nat} : ∀ {M : Mm} {i : Nat} {r : Res}, lk (dropM M ids) i = some r → i ∉ ids ∧ lk M i = some r
 | [], i, r, h => by cases h
 | (k, x) :: t, i, r, h => by
   unfold dropM at h
   rw [List.filter_cons] at h
   split at h
   · rename_i hk
     rw [lk_cons] at h
     rw [lk_cons]
     split at h
     · rename_i e; subst e
       rw [if_pos rfl]
       refine ⟨fun hm => ?_, h⟩
       simp at hk
       exact hk _ hm rfl
     · rename_i e
       rw [if_neg e]
       exact dropM_lk h
   · rename_i hk
     obtain ⟨h1, h2⟩ := dropM_lk (M := t) h
     refine ⟨h1, ?_⟩
     rw [lk_cons]
     split
     · rename_i e; subst e
       simp at hk
       exact absurd hk h1
     · exact h2
section
variable {w w0 : World} {X : Cx} {M : Mm}
theorem MemOk.into (m : MemOk X w0 M w) (ps : List (Nat × Nat)) (hp : (ps.all fun p => ps.all fun q => !(p.2 == q.2) || p.1 == q.1) = true) (h2 : (renM M ps).all (fun p => p.2.pass) = true) : MemOk (cxM X M w (renM M ps)) w (renM M ps) w where
 keep := Keep.refl _ _
 fresh := fun b hb hlt => absurd hlt (by omega)
 ok i r h := by
   obtain ⟨j, h3, h4⟩ := renM_out h
   have hpass : r.pass = true := List.all_eq_true.1 h2 _ (lk_mem h)
   have hown : ∀ b, Own (renM M ps) b → Own M b := fun b ⟨q, s, hq, hs⟩ => by obtain ⟨q', _, h5⟩ := renM_out hq; exact ⟨q', s, h5, hs⟩
   have hfree : ∀ b, b < w.heap.size → Free X M b → w.heap[b]? = w.heap[b]? ∧ Free (cxM X M w (renM M ps)) (renM M ps) b := fun b hb hF => ⟨rfl, fun _ => hF, fun ho => hF.2 (hown b ho)⟩
   have hbad : ∀ b, r.blk = some b → b ∈ ownL (renM M ps) := fun b hb => ownL_of h hb
   have ho := m.ok j r h4
   cases r with
   | dat v d => exact Rd.mono ho (Nat.le_refl _) hfree
   | box g e cs => exact ⟨ho.1, .inr (hbad g rfl)⟩
   | num v e k zs => cases hpass
   | row v e mm rows => cases hpass
   | rowC v e mm rows cs => cases hpass
   | seg v e mm rows => exact ⟨ho.1.mono (fun b hb hF => (hfree b hb hF).2), fun b hb => .inr (hbad b hb)⟩
   | cel b o vs => exact ⟨(hfree b ho.2.1 ho.1).2, ho.2⟩
   | any g => exact ⟨ho.1, .inr (hbad g rfl)⟩
   | gone => trivial
 sep i j r s b h1 h2' hr hs := by
   obtain ⟨i', a1, a2⟩ := renM_out h1
   obtain ⟨j', b1, b2⟩ := renM_out h2'
   obtain rfl := m.sep i' j' r s b a2 b2 hr hs
   rw [List.all_eq_true] at hp
   have h3 := hp _ a1
   rw [List.all_eq_true] at h3
   have h4 := h3 _ b1
   simpa using h4
theorem Res.ok_low {N N' : Nat} {X X' : List Nat} {S : Nat → Prop} {w : World} {r : Res} (h : r.ok N X S w) (hN : N' ≤ N) (hX : ∀ b, r.blk = some b → b ∈ X → N' ≤ b ∨ b ∈ X') : r.ok N' X' S w := by
 have low : ∀ {e : TypeId} {s : Nat} {v : Value} {n : Nat} {xs : List Value}, w.ownsRow N e s v n xs → w.ownsRow N' e s v n xs := by
   intro e s v n xs h
   refine ⟨h.1, ?_⟩
   rcases h.2 with hn | ⟨g, cap, cur, rfl, hg, rest⟩
   · exact .inl hn
   · exact .inr ⟨g, cap, cur, rfl, Nat.le_trans hN hg, rest⟩
 have two : ∀ b, r.blk = some b → (N ≤ b ∨ b ∈ X) → (N' ≤ b ∨ b ∈ X') := fun b hb h => h.elim (fun h => .inl (Nat.le_trans hN h)) (hX b hb)
 cases r with
 | dat v d => exact h
 | box g e cs => exact ⟨h.1, two g rfl h.2⟩
 | num v e k zs => exact low h
 | row v e mm rows => obtain ⟨cs, h1, h2⟩ := h; exact ⟨cs, low h1, h2⟩
 | rowC v e mm rows cs => exact ⟨low h.1, h.2⟩
 | seg v e mm rows => exact ⟨h.1, fun b hb => two b hb (h.2 b hb)⟩
 | cel b o vs => exact h
 | any g => exact ⟨h.1, two g rfl h.2⟩
 | gone => trivial
theorem MemOk.back (m : MemOk X w0 M w) {ps : List (Nat × Nat)} {L : Mm} {w' : World} (m' : MemOk (cxM X M w (renM M ps)) w L w') (qs : List (Nat × Nat)) (hq : (qs.all fun p => qs.all fun q => !(p.2 == q.2) || p.1 == q.1) = true) : MemOk X w0 (renM L qs ++ dropM M (ps.map (·.2))) w' := by
 -- the blocks that the call might write
 have hbad : ∀ b, b ∈ ownL (renM M ps) → ∃ j r, j ∈ ps.map (·.2) ∧ lk M j = some r ∧ r.blk = some b := fun b hb => by
   obtain ⟨i, j, r, h1, h2, h3⟩ := ownL_ren hb
   exact ⟨j, r, List.mem_map.2 ⟨(i, j), h1, rfl⟩, h2, h3⟩
 have hbadX : ∀ b, b ∈ ownL (renM M ps) → b < w.heap.size ∧ (w0.heap.size ≤ b ∨ b ∈ X.bad) := fun b hb => by
   obtain ⟨j, r, _, h2, h3⟩ := hbad b hb
   exact Res.blk_lt (m.ok j r h2) h3
 have hcase : ∀ i r, lk (renM L qs ++ dropM M (ps.map (·.2))) i = some r → (∃ j, (i, j) ∈ qs ∧ lk L j = some r) ∨ (i ∉ ps.map (·.2) ∧ lk M i = some r) := fun i r h => by
   rw [lk_app] at h
   cases hr : lk (renM L qs) i with
   | some r' =>
     rw [hr] at h
     injection h with h; subst h
     exact .inl (renM_out hr)
   | none =>
     rw [hr] at h
     exact .inr (dropM_lk h)
 have hnew : ∀ j r b, lk L j = some r → r.blk = some b → w.heap.size ≤ b ∨ b ∈ ownL (renM M ps) := fun j r b h1 h2 => (Res.blk_lt (m'.ok j r h1) h2).2
 have hold : ∀ i r b, i ∉ ps.map (·.2) → lk M i = some r → r.blk = some b → b < w.heap.size ∧ b ∉ ownL (renM M ps) := fun i r b h1 h2 h3 => by
   refine ⟨(Res.blk_lt (m.ok i r h2) h3).1, fun hb => ?_⟩
   obtain ⟨j, s, h4, h5, h6⟩ := hbad b hb
   obtain rfl := m.sep i j r s b h2 h5 h3 h6
   exact h1 h4
 have hsame : ∀ b, b < w.heap.size → b ∉ ownL (renM M ps) → w'.heap[b]? = w.heap[b]? := fun b hb hn => m'.keep.2.2.2.2 b hb hn
 have hfree : ∀ b, b < w.heap.size → Free X M b → Free X (renM L qs ++ dropM M (ps.map (·.2))) b := fun b hb hF => by
   refine ⟨hF.1, ?_⟩
   rintro ⟨i, r, hi, hr⟩
   rcases hcase i r hi with ⟨j, _, h2⟩ | ⟨_, h2⟩
   · rcases hnew j r b h2 hr with h | h
     · omega
     · obtain ⟨j', s, _, h5, h6⟩ := hbad b h
       exact hF.2 ⟨j', s, h5, h6⟩
   · exact hF.2 ⟨i, r, h2, hr⟩
 have hnb : ∀ b, b < w.heap.size → Free X M b → b ∉ ownL (renM M ps) := fun b hb hF h => by
   obtain ⟨j', s, _, h5, h6⟩ := hbad b h
   exact hF.2 ⟨j', s, h5, h6⟩
 refine ⟨⟨m'.keep.1.trans m.keep.1, m'.keep.2.1.trans m.keep.2.1, m'.keep.2.2.1.trans m.keep.2.2.1, Nat.le_trans m.keep.size m'.keep.size, fun b hb hn => ?_⟩, m.fresh, fun i r hi => ?_, fun i j r s b hi hj hr hs => ?_⟩
 · rw [hsame b (Nat.lt_of_lt_of_le hb m.keep.size) (fun h => (hbadX b h).2.elim (fun h => by omega) hn)]
   exact m.keep.2.2.2.2 b hb hn
 · rcases hcase i r hi with ⟨j, h1, h2⟩ | ⟨h1, h2⟩
   · have h3 := m'.ok j r h2
     have h4 : r.ok w0.heap.size X.bad (Free (cxM X M w (renM M ps)) L) w' := Res.ok_low h3 m.keep.size (fun b _ hb => (hbadX b hb).2)
     refine Res.ok_mono h4 (Nat.le_refl _) (fun b hb hF => ⟨rfl, ?_⟩) (fun _ _ => rfl)
     by_cases hbw : b < w.heap.size
     · exact hfree b hbw (hF.1 hbw)
     · refine ⟨m.fresh b (by have := m.keep.size; omega), ?_⟩
       rintro ⟨i', r', hi', hr'⟩
       rcases hcase i' r' hi' with ⟨j', _, h6⟩ | ⟨h5, h6⟩
       · exact hF.2 ⟨j', r', h6, hr'⟩
       · have := (hold i' r' b h5 h6 hr').1; omega
   · exact Res.ok_mono (m.ok i r h2) m'.keep.size (fun b hb hF => ⟨hsame b hb (hnb b hb hF), hfree b hb hF⟩) (fun b hb => hsame b (hold i r b h1 h2 hb).1 (hold i r b h1 h2 hb).2)
 · rcases hcase i r hi with ⟨i', a1, a2⟩ | ⟨a1, a2⟩ <;> rcases hcase j s hj with ⟨j', b1, b2⟩ | ⟨b1, b2⟩
   · obtain rfl := m'.sep i' j' r s b a2 b2 hr hs
     rw [List.all_eq_true] at hq
     have h3 := hq _ a1
     rw [List.all_eq_true] at h3
     have h4 := h3 _ b1
     simpa using h4
   · exfalso
     have h1 := hold j s b b1 b2 hs
     rcases hnew i' r b a2 hr with h | h
     · omega
     · exact h1.2 h
   · exfalso
     have h1 := hold i r b a1 a2 hr
     rcases hnew j' s b b2 hs with h | h
     · omega
     · exact h1.2 h
   · exact m.sep i j r s b a2 b2 hr hs
end
end
end Go.Proofs.YtndnnlbdnjndiaaGreat.K
