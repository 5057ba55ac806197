/- Slices of numbers of one's own, wherever they lie: sorted, shortened by the library. For any program. -/
import Derived.Test.YtocfbocdnklllaaAb20
import Derived.Sort.OwnSortedInts
namespace Go.Proofs.Ytocfbocdnklllaa.K
open Go.ChangeShapes Go.WideShapes Go.ChangeAt Go.RowKit Go.Sort
set_option linter.unusedVariables false
set_option linter.unusedSimpArgs false
variable {P : Program} {X : Cx} {M : Mm} {w w0 : World}
def nD (z : Int) : List D := [.v (.int .i64 z)]
theorem seg_nums {S : Nat → Prop} {v : Value} {e : TypeId} {zs : List Int} (h : SegOk S w v e 1 (zs.map nD)) : OwnsAt w 0 e 1 v zs.length (zs.map (Value.int .i64)) := by
 obtain ⟨cs, h1, h2, h3, h4, h5⟩ := h
 rw [List.length_map] at h1 h2
 have hcs : cs = zs.map (fun z => [Value.int .i64 z]) := by
   apply List.ext_getElem (by simp [h2])
   intro j g1 g2
   have hz : j < zs.length := by omega
   obtain ⟨a1, -⟩ := h3 cs[j] (List.getElem_mem g1)
   match hc : cs[j], a1 with
   | [x], _ =>
     have h := h5 j 0 cs[j] (nD zs[j]) x (.v (.int .i64 zs[j])) (List.getElem?_eq_getElem g1) (by simp [hz]) (by rw [hc]; rfl) rfl
     simp [h.v_out]
 have hfl : cs.flatten = zs.map (Value.int .i64) := by
   rw [hcs]
   clear h1 h2 h3 h4 h5 hcs
   induction zs with
   | nil => rfl
   | cons z r ih => simpa using ih
 rwa [hfl] at h1
theorem nums_seg {S : Nat → Prop} {v : Value} {e : TypeId} {zs : List Int} (h : OwnsAt w 0 e 1 v zs.length (zs.map (Value.int .i64))) : SegOk S w v e 1 (zs.map nD) := by
 refine ⟨zs.map (fun z => [Value.int .i64 z]), ?_, by simp, ?_, ?_, ?_⟩
 · have : (zs.map (fun z => [Value.int .i64 z])).flatten = zs.map (Value.int .i64) := by
     clear h
     induction zs with
     | nil => rfl
     | cons z r ih => simpa using ih
   rw [this, List.length_map]; exact h
 · intro c hc
   obtain ⟨z, -, rfl⟩ := List.mem_map.1 hc
   exact ⟨rfl, fun x hx => by simp at hx; subst hx; rfl⟩
 · intro r hr
   obtain ⟨z, -, rfl⟩ := List.mem_map.1 hr
   rfl
 · intro j q c r x d a1 a2 a3 a4
   rw [List.getElem?_map] at a1 a2
   cases hz : zs[j]? with
   | none => rw [hz] at a1; cases a1
   | some z =>
     rw [hz] at a1 a2
     injection a1 with a1; injection a2 with a2
     subst a1; subst a2
     match q with
     | 0 =>
       injection a3 with a3; injection a4 with a4
       subst a3; subst a4; exact .v _
     | q + 1 => cases a3
theorem cell_at {g off n : Nat} {cur : Array Value} {e : TypeId} {zs : List Int} (hb : w.heap[g]? = some (.cells cur e (0, 0))) (htk : (cur.toList.drop off).take n = zs.map (Value.int .i64)) (hn : n = zs.length) {j : Nat} (hj : j < zs.length) : w.cell? ⟨g, off + j, none⟩ = some (.int .i64 (zs.getD j 0)) := by
 subst hn
 have h1 : ((cur.toList.drop off).take zs.length)[j]? = (zs.map (Value.int .i64))[j]? := by rw [htk]
 rw [List.getElem?_take_of_lt hj, List.getElem?_drop] at h1
 simp only [World.cell?, hb]
 simp only [Option.isSome_none, Bool.false_eq_true, if_false]
 rw [← Array.getElem?_toList, h1]
 simp [hj, List.getD]
theorem holds_at {g off n : Nat} {cur : Array Value} {e : TypeId} {zs : List Int} (hb : w.heap[g]? = some (.cells cur e (0, 0))) (htk : (cur.toList.drop off).take n = zs.map (Value.int .i64)) (hn : n = zs.length) : Holds (Value.int .i64) w g off zs.toArray := by
 intro j hj
 have hj' : j < zs.length := by simpa using hj
 refine ⟨?_, by simp [World.frozen?, hb]⟩
 rw [cell_at hb htk hn hj']
 simp [hj', List.getD]
theorem nums_rd {S S' : Nat → Prop} {v : Value} {e : TypeId} {zs : List Int} (h : SegOk S w v e 1 (zs.map nD)) (hv : ∀ b, v.ownBlock = some b → S' b) : Rd S' w v (.ns .i64 zs) := by
 obtain ⟨h1, h2⟩ := seg_nums h
 refine .ns ?_
 rcases h2 with ⟨rfl, h0⟩ | ⟨g, off, cap, cur, rfl, -, hb, hnc, hcm, hcs, htk⟩
 · obtain rfl := List.length_eq_zero_iff.1 h0
   exact (Rd.nilN _ _ .i64 none).ns_out
 · exact ⟨_, cap, rfl, ⟨hnc, hcm⟩, .inr ⟨g, off, rfl, hv g rfl, (Array.getElem?_eq_some_iff.1 hb).1, fun j hj => cell_at hb htk (by omega) hj⟩⟩
theorem heap_at {g off n : Nat} {os : Array Obj} {cur : Array Value} {e : TypeId} {fr : Nat × Nat} (d : Array Int) (hb : w.heap[g]? = some (.cells cur e fr)) :
   (grow (putRow (Value.int .i64) (Sort.ahead w n) g off d) os).heap[g]? = some (.cells (putCells (Value.int .i64) off d cur) e fr) := by
 have hg : g < w.heap.size := (Array.getElem?_eq_some_iff.1 hb).1
 rw [heap_grow_old _ _ (by simpa using hg)]
 simp [putRow, mapBlock, Sort.ahead, Array.getElem?_modify, hb, onCells]
theorem grown_at {g off n : Nat} {os : Array Obj} (d : Array Int) : w.grownBy (grow (putRow (Value.int .i64) (Sort.ahead w n) g off d) os) (some g) := by
 refine ⟨rfl, rfl, rfl, by simp, fun k hk hne => ?_⟩
 rw [heap_grow_old _ _ (by simpa using hk)]
 have : g ≠ k := fun e => hne (by rw [e])
 simp [putRow, mapBlock, Sort.ahead, Array.getElem?_modify, this]
theorem put_at (cur : Array Value) (off : Nat) (ts : List Int) (h : off + ts.length ≤ cur.size) : ((putCells (Value.int .i64) off ts.toArray cur).toList.drop off).take ts.length = ts.map (Value.int .i64) := by
 apply List.ext_getElem?
 intro j
 by_cases hj : j < ts.length
 · rw [List.getElem?_take_of_lt hj, List.getElem?_drop, Array.getElem?_toList]
   simp [putCells, hj, show off + j < cur.size by omega]
 · rw [List.getElem?_take_eq_none (by omega), List.getElem?_eq_none (by simp; omega)]
theorem MemOk.putN (m : MemOk X w0 M w) (i : Nat) {g off l c : Nat} {e : TypeId} {zs : List Int} (hm : lk M i = some (.seg (.slice (some ⟨g, off, none⟩) l c) e 1 (zs.map nD))) (ts : List Int) (hl : ts.length = zs.length) (n : Nat) (os : Array Obj) :
   MemOk X w0 ((i, .seg (.slice (some ⟨g, off, none⟩) l c) e 1 (ts.map nD)) :: M) (grow (putRow (Value.int .i64) (Sort.ahead w n) g off ts.toArray) os) := by
 obtain ⟨h, hX⟩ := m.ok i _ hm
 have hkeep : Keep (fun b => ∃ r, lk M i = some r ∧ r.blk = some b) w (grow (putRow (Value.int .i64) (Sort.ahead w n) g off ts.toArray) os) := (keep_grown (v := .slice (some ⟨g, off, none⟩) l c) (grown_at ts.toArray)).mono (fun b hb => ⟨_, hm, hb⟩)
 refine m.upd i _ hkeep (fun b hb => .inl ⟨_, hm, hb⟩) (fun hf _ => ⟨nums_seg ?_, hX⟩)
 obtain ⟨h1, h2⟩ := seg_nums h
 refine ⟨by simp, ?_⟩
 rcases h2 with ⟨e1, -⟩ | ⟨g', off', cap, cur, e1, -, hb, hnc, hcm, hcs, htk⟩
 · cases e1
 · injection e1 with e1 e2 e3
   injection e1 with e1
   injection e1 with e1 e4
   subst e1; subst e4; subst e2; subst e3
   refine .inr ⟨g, off, c, _, by rw [hl], Nat.zero_le _, heap_at _ hb, by omega, hcm, by simp [putCells]; omega, ?_⟩
   rw [Nat.mul_one]
   exact put_at cur off ts (by omega)
theorem MemOk.numS (m : MemOk X w0 M w) (i : Nat) {v : Value} {e : TypeId} {zs : List Int} (h : lk M i = some (.num v e .i64 zs)) : MemOk X w0 ((i, .seg v e 1 (zs.map nD)) :: M) w := by
 have h1 : w.ownsRow w0.heap.size e 1 v zs.length (zs.map (Value.int .i64)) := m.ok i _ h
 have hl := World.ownsRow.lt h1
 refine m.upd i _ (Keep.refl _ _) (fun b hb => .inl ⟨_, h, hb⟩) (fun hf _ => ⟨nums_seg ?_, fun b hb => .inl (hl b hb).1⟩)
 obtain ⟨a1, a2⟩ := OwnsAt.of h1
 refine ⟨a1, ?_⟩
 rcases a2 with a2 | ⟨g, off, cap, cur, b1, _, rest⟩
 · exact .inl a2
 · exact .inr ⟨g, off, cap, cur, b1, Nat.zero_le _, rest⟩
theorem MemOk.rdN (m : MemOk X w0 M w) {i : Nat} {v : Value} {e : TypeId} {zs : List Int} (h : lk M i = some (.seg v e 1 (zs.map nD))) : Rd (fun _ => True) w v (.ns .i64 zs) := nums_rd (m.ok i _ h).1 (fun _ _ => trivial)
theorem MemOk.freezeSN (m : MemOk X w0 M w) (i : Nat) {v : Value} {e : TypeId} {zs : List Int} (h : lk M i = some (.seg v e 1 (zs.map nD))) (hN : ∀ b, b ∉ X.bad) : MemOk X w0 ((i, .dat v (.ns .i64 zs)) :: M) w := by
 have hh := m.freezeS i h hN
 have ho := m.ok i _ h
 have hown := hh.ok i _ (by rw [lk_cons, if_pos rfl])
 refine m.upd i _ (Keep.refl _ _) (fun b hb => by cases hb) (fun hf hf2 => nums_rd ho.1 (fun b hb => hf2 b ⟨_, h, hb⟩ ((ho.2 b hb).resolve_right (hN b)) (fun c hc => by cases hc)))
theorem MemOk.dropN (m : MemOk X w0 M w) {i : Nat} {p : Option Addr} {l c : Nat} {k : IntKind} {zs : List Int} (hm : lk M i = some (.dat (.slice p l c) (.ns k zs))) (j : Nat) (hj : j ≤ zs.length) (i2 : Nat) (hi2 : lk M i2 = none) : MemOk X w0 ((i2, .dat (.slice (if c = j then p else p.map (·.add (j * 1))) (l - j) (c - j)) (.ns k (zs.drop j))) :: M) w :=
 m.dat i2 hi2 (.ns ((m.rd hm).ns_out.drop j hj))
end Go.Proofs.Ytocfbocdnklllaa.K
