/- General laws of walks: Nums, Bytes, Region, RegionK, Mid, Disk1, Disk2, Disk3, Stage, App, Disk4, Disk5, Disk6, Disk7s, Stage2. -/
import Derived.Test.YtogjhjiapinmcaaDoorRows
import Derived.WalkKit
import Derived.ProofKit
import Derived.OpenShut
import Derived.IntWalk
import Derived.WalkLawsBesides
import Derived.WalkSpells
import Derived.Handy
import Derived.LoopTactic
import Derived.Lib.Hide
import Derived.OwnWalk
import Derived.Laws.AppendOwnNone
import Derived.Laws.BytesArg
import Derived.Laws.BitsLemmas
import Derived.Lib.AppendZerosOnto
import Derived.Lib.AppendZeros
import Derived.Lib.SliceRun
import Derived.OrdersHeld
import Derived.Deep.RegionHeld
import Derived.Deep.MidRow
import Derived.Laws.CopyOwn
import Derived.Great.BuildSlice
import Derived.Outline
import Derived.StillTail
import Derived.Lib.SlBytesConst
section
namespace Go.Proofs.YtogjhjiapinmcaaDoor.K
open Go.ChangeShapes Go.WideShapes Go.ChangeAt Go.RowKit

theorem ret_bool {a b : Bool} (h : a = b) : Ending.returned (.bool a) = .returned (.bool b) := by rw [h]

def IsNums (k : IntKind) (w : World) (v : Value) (zs : List Int) : Prop :=
 ∃ a c, v = .slice a zs.length c ∧ (zs.length = 0 ∨ ∃ b off, a = some ⟨b, off, none⟩ ∧ b < w.heap.size ∧ ∀ j, j < zs.length → w.cell? ⟨b, off + j, none⟩ = some (.int k (zs.getD j 0)))

theorem IsNums.nil (k : IntKind) (w : World) (a : Option Addr) (c : Nat) : IsNums k w (.slice a 0 c) [] := ⟨a, c, rfl, .inl rfl⟩

theorem IsNums.below {k : IntKind} {B : Nat} {w w' : World} {v : Value} {zs : List Int} (h : IsNums k w v zs) (hb : Below B w w') (hB : w.heap.size ≤ B) : IsNums k w' v zs := by
 obtain ⟨a, c, rfl, h | ⟨b, off, rfl, h1, h2⟩⟩ := h
 · exact ⟨a, c, rfl, .inl h⟩
 · refine ⟨_, c, rfl, .inr ⟨b, off, rfl, by have := hb.size; omega, fun j hj => ?_⟩⟩
   rw [hb.cell (by show b < B; omega)]
   exact h2 j hj

theorem IsNums.alloc {k : IntKind} {w : World} {v : Value} {zs : List Int} (h : IsNums k w v zs) (o : Obj) : IsNums k (w.alloc o) v zs :=
 h.below ((Below.refl w.heap.size w).alloc (Nat.le_refl _) o) (Nat.le_refl _)

theorem IsNums.lit (k : IntKind) (w : World) (zs : List Int) (N : Nat) (e : TypeId) (n c : Nat) (hN : N = w.heap.size) (hn : n = zs.length) : IsNums k (w.alloc (.cells (zs.map (Value.int k)).toArray e)) (.slice (some ⟨N, 0, none⟩) n c) zs := by
 subst hN; subst hn
 refine ⟨_, c, rfl, .inr ⟨_, 0, rfl, by simp, fun j hj => ?_⟩⟩
 unfold World.cell? World.alloc
 simp [hj, List.getD]

theorem IsNums.ofOwn {k : IntKind} {w : World} {B : Nat} {e : TypeId} {v : Value} {n : Nat} {zs : List Int} (h : w.ownsRow B e 1 v n (zs.map (Value.int k))) : IsNums k w v zs := by
 have hn : n = zs.length := by have := h.1; simpa using this.symm
 subst hn
 rcases h.2 with ⟨rfl, h0⟩ | ⟨g, cap, cur, rfl, hg, hb, h1, h2, h3, h4⟩
 · obtain rfl := List.length_eq_zero_iff.1 h0; exact IsNums.nil k w none 0
 · refine ⟨_, cap, rfl, .inr ⟨g, 0, rfl, (Array.getElem?_eq_some_iff.1 hb).1, fun j hj => ?_⟩⟩
   have := h.cellAt j (by omega)
   rw [Nat.zero_add, this]
   simp [hj, List.getD]

theorem IsNums.ofRow {k : IntKind} {w : World} {a : Option Addr} {len cap : Nat} {zs : List Int}
   (h : (a = none ∧ len = 0 ∧ cap = 0 ∧ zs = []) ∨ ∃ x, a = some x ∧ len ≤ cap ∧ cap ≤ maxLen ∧ zs.length = cap ∧ (∀ i, i < zs.length → w.cell? (x.add i) = some (.int k (zs.getD i 0))) ∧ ∀ n ∈ zs, (Lit.int k n).wf = true) :
   ∃ ys, IsNums k w (.slice a len cap) ys ∧ ys.length = len ∧ len ≤ maxLen ∧ ∀ n ∈ ys, (Lit.int k n).wf = true := by
 rcases h with ⟨rfl, rfl, rfl, rfl⟩ | ⟨x, rfl, hl, hm, hz, hcell, hwf⟩
 · exact ⟨[], IsNums.nil _ _ _ _, rfl, Nat.zero_le _, by simp⟩
 · refine ⟨zs.take len, ?_, by simp; omega, Nat.le_trans hl hm, fun n hn => hwf n (List.mem_of_mem_take hn)⟩
   have hlen : (zs.take len).length = len := by simp; omega
   refine ⟨some x, cap, by rw [hlen], ?_⟩
   by_cases h0 : len = 0
   · left; rw [hlen]; exact h0
   · obtain ⟨b, off, spot⟩ := x
     have hc := hcell 0 (by omega)
     have hspot : spot = none := by simpa [Addr.add] using World.cell?_spot hc
     subst hspot
     refine .inr ⟨b, off, rfl, ?_, fun j hj => ?_⟩
     · exact World.block_lt_of_cell? w _ hc
     · have h5 := hcell j (by omega)
       rw [show (Addr.add ⟨b, off, none⟩ j) = ⟨b, off + j, none⟩ by simp [Addr.add]] at h5
       rw [h5]
       simp only [List.getD, List.getElem?_take]
       rw [if_pos (by omega)]

theorem wpList_app1 {P : Program} {ops : Array Oper} {rest : List Oper} {o : Oper} {a : Act} {Q : Exit → Act → World → Prop} {w : World} (hgd : o.guard = none) (s x : Operand) (t : TypeId)
   (ho : o.op = .call { callee := .builtin .append, args := #[s, x], argTypes := #[t, t] })
   (base : Nat) (e : TypeId) (k : IntKind) (bytes : Nat) (ht : P.underlying t = some (.slice e)) (hi : (P.info? e).map (fun i => (i.zero, i.size, i.bytes)) = some (some (.int k 0), 1, bytes)) (hb8 : bytes ≤ 8)
   (v : Value) (n : Nat) (xs : List Value) (hs : a.eval s = v) (hown : w.ownsRow base e 1 v n xs)
   (X : Int) (c : Nat) (hx : a.eval x = .slice (some ⟨w.heap.size, 0, none⟩) 1 c) (hn : n ≤ 1000000000) (hbase : base ≤ w.heap.size)
   (h : ∀ v' w', w'.ownsRow base e 1 v' (n + 1) (xs ++ [.int k X]) → Below base w w' → wpList P ops Q rest (a.put o.dst v') w') : wpList P ops Q (o :: rest) a (w.alloc (.cells #[.int k X] e)) := by
 obtain ⟨i0, hi, hz0, hz1, hz2⟩ := info_parts hi
 have hbn : (n + 1) * bytes ≤ 140737488355328 := Nat.le_trans (Nat.mul_le_mul_left _ hb8) (by omega)
 refine wpList_append_own _ hgd s x t ho base e i0 (.int k 0) 1 bytes ht hi hz0 hz1 hz2 rfl (by decide) v n xs hs (hown.alloc _) ⟨w.heap.size, 0, none⟩ 1 c [.int k X] hx rfl ?_ (by intro u hu; simp at hu; subst hu; rfl) (by unfold maxLen; omega) hbn (by simp; omega) ?_
 · intro j u hj
   rcases j with _ | j
   · simp at hj; subst hj
     unfold World.cell? World.alloc; simp [Addr.add]
   · simp at hj
 · intro v' w' h1 h2 _
   refine h v' w' h1 (((Below.refl _ w).alloc hbase _).grown h2 (by simp; omega) (fun j hj => ?_))
   exact (hown.lt j hj).1

end Go.Proofs.YtogjhjiapinmcaaDoor.K
end
section
namespace Go.Proofs.YtogjhjiapinmcaaDoor.K
open Go.ChangeShapes Go.WideShapes Go.ChangeAt Go.RowKit

theorem run_app_none {P : Program} {w : World} {base : Nat} {t ty e : TypeId} {i : TypeInfo} {size : Nat} (ht : P.underlying t = some (.slice e)) (hi : P.info? e = some i) {v : Value} {n : Nat} {xs : List Value} (hown : w.ownsRow base e size v n xs) (c : Nat) :
   (Builtin.append_ #[t, t] ty #[v, .slice none 0 c]).run P w = .ok v w := by
 rcases hown.2 with ⟨rfl, rfl⟩ | ⟨g, cap, cur, rfl, _, _, hle, _, _, _⟩
 · simp [Builtin.append_, run_underlying ht, sizeOf, typeInfo, hi, Builtin.lenOf, Builtin.firstCells]
 · have hnc : ¬ cap < n := by omega
   simp [Builtin.append_, run_underlying ht, sizeOf, typeInfo, hi, Builtin.lenOf, Builtin.firstCells, hnc, storeCells]

theorem wpList_appN {P : Program} {ops : Array Oper} {rest : List Oper} {o : Oper} {a : Act} {Q : Exit → Act → World → Prop} {w : World} (hgd : o.guard = none) (s x : Operand) (t : TypeId)
   (ho : o.op = .call { callee := .builtin .append, args := #[s, x], argTypes := #[t, t] })
   (base : Nat) (e : TypeId) (k : IntKind) (bytes : Nat) (ht : P.underlying t = some (.slice e)) (hi : (P.info? e).map (fun i => (i.zero, i.size, i.bytes)) = some (some (.int k 0), 1, bytes)) (hb8 : bytes ≤ 8)
   (v : Value) (n : Nat) (xs : List Value) (hs : a.eval s = v) (hown : w.ownsRow base e 1 v n xs)
   (u : Value) (zs : List Int) (hx : a.eval x = u) (hu : IsNums k w u zs) (hn : n + zs.length ≤ 1000000000) (hbase : base ≤ w.heap.size)
   (h : ∀ v' w', w'.ownsRow base e 1 v' (n + zs.length) (xs ++ zs.map (Value.int k)) → Below base w w' → wpList P ops Q rest (a.put o.dst v') w') : wpList P ops Q (o :: rest) a w := by
 obtain ⟨i0, hi, hz0, hz1, hz2⟩ := info_parts hi
 have hbn : (n + zs.length) * bytes ≤ 140737488355328 := Nat.le_trans (Nat.mul_le_mul_left _ hb8) (by omega)
 obtain ⟨p, c, rfl, hp⟩ := hu
 have main : ∀ ad : Addr, p = some ad → (∀ j v, (zs.map (Value.int k))[j]? = some v → w.cell? (ad.add j) = some v) → wpList P ops Q (o :: rest) a w := by
   intro ad hpa hcells
   refine wpList_append_own _ hgd s x t ho base e i0 (.int k 0) 1 bytes ht hi hz0 hz1 hz2 rfl (by decide) v n xs hs hown ad zs.length c (zs.map (Value.int k)) (by rw [hx, hpa]) (by simp) hcells ?_ (by unfold maxLen; omega) hbn hbase ?_
   · intro u hu
     obtain ⟨y, _, rfl⟩ := List.mem_map.1 hu
     rfl
   · intro v' w' h1 h2 _
     exact h v' w' h1 ((Below.refl _ w).grown h2 hbase (fun j hj => (hown.lt j hj).1))
 by_cases h0 : zs.length = 0
 · obtain rfl := List.length_eq_zero_iff.1 h0
   cases p with
   | none =>
     refine Lib.wpList_append_run w hgd s x t t ho v _ hs hx v w (run_app_none ht hi hown c) (h v w (by simpa using hown) (Below.refl _ _))
   | some ad => exact main ad rfl (by simp)
 · rcases hp with hp | ⟨b, off, rfl, hblk, hc⟩
   · exact absurd hp h0
   · refine main _ rfl ?_
     intro j u hj
     have hjn : j < zs.length := by
       have := (List.getElem?_eq_some_iff.1 hj).1
       simpa using this
     rw [Addr.add_lit, hc j hjn]
     simp [hjn] at hj
     subst hj
     simp [List.getD, hjn]

theorem info_u8 : (Tryd.prog.info? 5).map (fun i => (i.zero, i.size, i.bytes)) = some (some (.int .u8 0), 1, 1) := by kernel_rfl

theorem conv_str {P : Program} {w : World} {v : Value} {bs : List Int} (h : IsNums .u8 w v bs) (src e : TypeId) (hs : P.underlying src = some (.slice e)) (he : P.underlying e = some (.int .u8)) :
   ∀ dst, P.underlying dst = some .string → (convert src dst v).run P w = .ok (.string (strOfNums bs)) w := by
 intro dst hd
 obtain ⟨p, c, rfl, hp⟩ := h
 by_cases h0 : bs.length = 0
 · obtain rfl := List.length_eq_zero_iff.1 h0
   cases p with
   | none => exact run_convert_bytes_nil w src e hs he _ _ dst hd
   | some ad =>
     have hl : (loadCells ad 0).run P w = .ok ([] : List Value).toArray w := run_loadCells_list (P := P) w ad [] (by simp)
     show (convert src dst (.slice (some ad) 0 c)).run P w = _
     rw [run_convert_bytes_string w src dst e _ 0 c hs he hd, run_bytesToString w _ 0 c [] (by simpa using hl)]
     rfl
 · rcases hp with hp | ⟨b, off, rfl, hblk, hc⟩
   · exact absurd hp h0
   · exact run_convert_bytes_arg w src e hs he b off bs.length c bs rfl hc dst hd

theorem str_inj {a b : List Int} (ha : ∀ x ∈ a, 0 ≤ x ∧ x ≤ 255) (hb : ∀ x ∈ b, 0 ≤ x ∧ x ≤ 255) (h : strOfNums a = strOfNums b) : a = b := by
 have h1 := congrArg (fun s => s.data.toList) h
 simp only [strOfNums_data] at h1
 induction a generalizing b with
 | nil => cases b with
   | nil => rfl
   | cons y b => simp at h1
 | cons x a ih => cases b with
   | nil => simp at h1
   | cons y b =>
     simp only [List.map_cons, List.cons.injEq] at h1
     have hx := ha x (by simp)
     have hy := hb y (by simp)
     have e : x = y := by
       have := congrArg UInt8.toNat h1.1
       simp at this
       omega
     subst e
     congr 1
     have h2 : strOfNums a = strOfNums b := by
       unfold strOfNums; rw [h1.2]
     exact ih (fun z hz => ha z (by simp [hz])) (fun z hz => hb z (by simp [hz])) h2 h1.2

end Go.Proofs.YtogjhjiapinmcaaDoor.K
end
section
namespace Go.Proofs.YtogjhjiapinmcaaDoor.K
open Go.ChangeShapes Go.WideShapes Go.ChangeAt Go.RowKit
set_option linter.unusedVariables false

section
variable {P : Program} {ops : Array Oper} {Q : Exit → Act → World → Prop} {md : Region.Mode}

def Ext (w W : World) : Prop := Below w.heap.size w W

theorem wpAnyH_weaken {S S' : World → Prop} (hS : ∀ w, S' w → S w) : ∀ (fuel : Nat) (listed : Array Bool) (a : Act) (w : World), wpAnyH P md ops Q S' fuel listed a w → wpAnyH P md ops Q S fuel listed a w
 | 0, _, _, _, h => h
 | fuel + 1, _, _, _, h => ⟨h.1, fun i hi => wpOp_mono (fun a' w' h' => ⟨hS _ h'.1, wpAnyH_weaken hS fuel _ a' w' h'.2⟩) (h.2 i hi)⟩

theorem step_read (i : Nat) (d : Option Tmp) {oi : Oper} {v : Value} {fuel : Nat} {listed : Array Bool} {a : Act} {w : World} (hi : ops[i]? = some oi) (hd : oi.dst = d)
   (hs : Region.noSelect ops = true) (hf : Region.free md ops listed i = true) (hr : (Region.ready md ops listed).contains i = true)
   (hQ : ∀ c a w, Q (.panic c) (a.put d v) w → Q (.panic c) a w) (hw : Region.wanted oi (yielded ops a.tmps) = true)
   (hy : ∀ W, Below w.heap.size w W → (execOp a.eval oi).run P W = .ok (.value v) W)
   (h : wpAnyH P md ops Q (Ext w) fuel (listed.setIfInBounds i true) (a.put d v) w) : wpAnyH P md ops Q (Ext w) (fuel + 1) listed a w := by
 subst hd
 exact wpAnyH_take hi hs hf hr hQ (Or.inl ⟨hw, hy⟩) (Below.refl _ _) h

theorem step_only (i : Nat) {o : Oper} {fuel : Nat} {listed : Array Bool} {a : Act} {w : World} (hi : ops[i]? = some o) (hr : Region.ready md ops listed = [i])
   (hw : Region.wanted o (yielded ops a.tmps) = true)
   (h : ∀ K' : Act → World → Prop, (∀ a' w', Below w.heap.size w w' → wpAnyH P md ops Q (Ext w') fuel (listed.setIfInBounds i true) a' w' → K' a' w') → Oper.wp P o a w K' Q) :
   wpAnyH P md ops Q (Ext w) (fuel + 1) listed a w := by
 refine wpAnyH_all hr (by simp) (fun j hj => ?_)
 obtain rfl : j = i := by simpa using hj
 refine wpOp_step hi (fun K' hK => ?_)
 rw [if_pos hw]
 exact h K' (fun a' w' hb hn => hK a' w' ⟨hb, wpAnyH_weaken (fun W hW => hb.trans (hW.mono hb.size)) fuel _ a' w' hn⟩)

theorem region_begin {id : Nat} {a : Act} {w : World} (hm : P.follows .mixedOrders = true)
   (h : wpAnyH P .any ops Q (Ext w.drew) ops.size (Array.replicate ops.size false) a w.drew) : (Code.region id ops true).wp P Q a w :=
 wp_region_held hm h
end
end Go.Proofs.YtogjhjiapinmcaaDoor.K
end
section
namespace Go.Proofs.YtogjhjiapinmcaaDoor.K
open Go.ChangeShapes Go.WideShapes Go.ChangeAt Go.RowKit
set_option linter.unusedVariables false

def Keep (bad : Nat → Prop) (w W : World) : Prop := W.os = w.os ∧ W.tape = w.tape ∧ W.output = w.output ∧ w.heap.size ≤ W.heap.size ∧ ∀ k, k < w.heap.size → ¬ bad k → W.heap[k]? = w.heap[k]?
theorem Keep.refl (bad : Nat → Prop) (w : World) : Keep bad w w := ⟨rfl, rfl, rfl, Nat.le_refl _, fun _ _ _ => rfl⟩
theorem Keep.trans {bad : Nat → Prop} {a b c : World} (h : Keep bad a b) (k : Keep bad b c) : Keep bad a c :=
 ⟨k.1.trans h.1, k.2.1.trans h.2.1, k.2.2.1.trans h.2.2.1, Nat.le_trans h.2.2.2.1 k.2.2.2.1, fun i hi hn => (k.2.2.2.2 i (Nat.lt_of_lt_of_le hi h.2.2.2.1) hn).trans (h.2.2.2.2 i hi hn)⟩
theorem Keep.mono {bad bad' : Nat → Prop} {w W : World} (h : Keep bad' w W) (hb : ∀ k, bad' k → bad k) : Keep bad w W := ⟨h.1, h.2.1, h.2.2.1, h.2.2.2.1, fun i hi hn => h.2.2.2.2 i hi (fun hb' => hn (hb i hb'))⟩
theorem Keep.ofBelow {bad : Nat → Prop} {w W : World} (h : Below w.heap.size w W) : Keep bad w W := ⟨h.os, h.tape, h.output, h.size, fun k hk _ => h.block k hk⟩
theorem Keep.below {bad : Nat → Prop} {N : Nat} {w W : World} (h : Keep bad w W) (hb : ∀ k, bad k → N ≤ k) (hN : N ≤ w.heap.size) : Below N w W :=
 ⟨h.1, h.2.1, h.2.2.1, h.2.2.2.1, fun k hk => h.2.2.2.2 k (by omega) (fun hbk => by have := hb k hbk; omega)⟩
theorem Keep.cell {bad : Nat → Prop} {w W : World} (h : Keep bad w W) {p : Addr} (hn : ¬ bad p.block) (hp : p.block < w.heap.size) : W.cell? p = w.cell? p := World.cell?_of_block (w := w) (h.2.2.2.2 p.block hp hn)
theorem Keep.frozen {bad : Nat → Prop} {w W : World} (h : Keep bad w W) {p : Addr} (hn : ¬ bad p.block) (hp : p.block < w.heap.size) : W.frozen? p = w.frozen? p := World.frozen?_of_block (w := w) (h.2.2.2.2 p.block hp hn)
theorem Keep.size {bad : Nat → Prop} {w W : World} (h : Keep bad w W) : w.heap.size ≤ W.heap.size := h.2.2.2.1

section
variable {P : Program} {ops : Array Oper} {Q : Exit → Act → World → Prop} {md : Region.Mode} {w0 : World} {bad : Nat → Prop}

end
end Go.Proofs.YtogjhjiapinmcaaDoor.K
end
section
namespace Go.Proofs.YtogjhjiapinmcaaDoor.K
open Go.ChangeShapes Go.WideShapes Go.ChangeAt Go.RowKit
set_option linter.unusedVariables false

/-! ### Lists of parts of one length -/
theorem parts_len {α : Type} (f : α → List Value) (k : Nat) : ∀ (l : List α), (∀ s ∈ l, (f s).length = k) → (l.flatMap f).length = l.length * k
 | [], _ => by simp
 | a :: l, h => by
   rw [List.flatMap_cons, List.length_append, h a (by simp), parts_len f k l (fun s hs => h s (by simp [hs])), List.length_cons, Nat.add_mul]
   omega
theorem parts_at {α : Type} (f : α → List Value) (k : Nat) : ∀ (l : List α) (i j : Nat) (d : α), (∀ s ∈ l, (f s).length = k) → i < l.length → j < k → (l.flatMap f)[i * k + j]? = (f (l.getD i d))[j]?
 | [], i, _, _, _, hi, _ => by simp at hi
 | a :: l, 0, j, d, h, _, hj => by
   rw [List.flatMap_cons, Nat.zero_mul, Nat.zero_add, List.getElem?_append_left (by rw [h a (by simp)]; exact hj)]
   rfl
 | a :: l, i + 1, j, d, h, hi, hj => by
   have ha := h a (by simp)
   rw [List.flatMap_cons, List.getElem?_append_right (by rw [ha, Nat.add_mul]; omega), ha, show (i + 1) * k + j - k = i * k + j by rw [Nat.add_mul]; omega,
     parts_at f k l i j d (fun s hs => h s (by simp [hs])) (by simpa using hi) hj]
   rfl
theorem parts_take {α : Type} (f : α → List Value) (k : Nat) : ∀ (l : List α) (n : Nat), (∀ s ∈ l, (f s).length = k) → (l.flatMap f).take (n * k) = (l.take n).flatMap f
 | [], n, _ => by simp
 | a :: l, 0, h => by simp
 | a :: l, n + 1, h => by
   have ha := h a (by simp)
   rw [List.flatMap_cons, List.take_succ_cons, List.flatMap_cons, Nat.add_mul, Nat.one_mul, ← ha, Nat.add_comm, List.take_length_add_append, ha, parts_take f k l n (fun s hs => h s (by simp [hs]))]
theorem parts_drop {α : Type} (f : α → List Value) (k : Nat) : ∀ (l : List α) (n : Nat), (∀ s ∈ l, (f s).length = k) → (l.flatMap f).drop (n * k) = (l.drop n).flatMap f
 | [], n, _ => by simp
 | a :: l, 0, h => by simp
 | a :: l, n + 1, h => by
   have ha := h a (by simp)
   rw [List.flatMap_cons, List.drop_succ_cons, Nat.add_mul, Nat.one_mul, ← ha, Nat.add_comm, List.drop_length_add_append, ha, parts_drop f k l n (fun s hs => h s (by simp [hs]))]
theorem parts_set {α : Type} (f : α → List Value) (k : Nat) (l : List α) (i : Nat) (a : α) (h : ∀ s ∈ l, (f s).length = k) (ha : (f a).length = k) (hi : i < l.length) :
   (l.flatMap f).take (i * k) ++ f a ++ (l.flatMap f).drop (i * k + k) = (l.set i a).flatMap f := by
 rw [show i * k + k = (i + 1) * k by rw [Nat.add_mul]; omega, parts_take f k l i h, parts_drop f k l (i + 1) h, List.set_eq_take_append_cons_drop, if_pos hi, List.flatMap_append, List.flatMap_cons, List.append_assoc]

/-! ### Bytes as cells -/
def B8 (s : List Int) : List Value := s.map (Value.int .u8)
@[simp] theorem B8_len (s : List Int) : (B8 s).length = s.length := by simp [B8]
theorem B8_one (s : List Int) : ∀ v ∈ B8 s, v.oneCell' = true := by
 intro v hv
 obtain ⟨x, _, rfl⟩ := List.mem_map.1 hv
 rfl
theorem B8_append (a b : List Int) : B8 (a ++ b) = B8 a ++ B8 b := by simp [B8]
theorem B8_drop (a : List Int) (n : Nat) : B8 (a.drop n) = (B8 a).drop n := by simp [B8]
theorem B8_take (a : List Int) (n : Nat) : B8 (a.take n) = (B8 a).take n := by simp [B8]
theorem B8_zeros (n : Nat) : B8 (List.replicate n 0) = List.replicate n (Value.int .u8 0) := by simp [B8]
def flat (ss : List (List Int)) : List Value := ss.flatMap B8
theorem flat_head (ss : List (List Int)) (i : Nat) (b old : List Int) (k : Nat) (h : ∀ s ∈ ss, s.length = k) (hb : b.length ≤ k) (hi : i < ss.length) (ho : ss.getD i [] = old) :
   (flat ss).take (i * k) ++ B8 b ++ (flat ss).drop (i * k + b.length) = flat (ss.set i (b ++ old.drop b.length)) := by
 have hl : old.length = k := by
   have : ss.getD i [] = ss[i] := by simp [List.getD, hi]
   rw [← ho, this]; exact h _ (List.getElem_mem hi)
 have hs8 : ∀ s ∈ ss, (B8 s).length = k := fun s hs => by rw [B8_len]; exact h s hs
 have hp := parts_set B8 k ss i (b ++ old.drop b.length) hs8 (by rw [B8_len, List.length_append, List.length_drop, hl]; omega) hi
 rw [show flat (ss.set i (b ++ old.drop b.length)) = (ss.set i (b ++ old.drop b.length)).flatMap B8 from rfl, ← hp, B8_append]
 have hd : (flat ss).drop (i * k + b.length) = B8 (old.drop b.length) ++ (flat ss).drop (i * k + k) := by
   apply List.ext_getElem?
   intro j
   rw [List.getElem?_drop]
   by_cases hj : b.length + j < k
   · rw [show i * k + b.length + j = i * k + (b.length + j) by omega]
     have := parts_at B8 k ss i (b.length + j) [] hs8 hi hj
     rw [ho] at this
     rw [show flat ss = ss.flatMap B8 from rfl, this, List.getElem?_append_left (by rw [B8_len, List.length_drop, hl]; omega), B8_drop, List.getElem?_drop]
   · rw [List.getElem?_append_right (by rw [B8_len, List.length_drop, hl]; omega), List.getElem?_drop, B8_len, List.length_drop, hl]
     congr 1
     omega
 rw [hd]
 simp only [flat, List.append_assoc]

/-! ### A block that is known whole -/
def Blk (w : World) (g : Nat) (e : TypeId) (cs : List Value) : Prop := w.heap[g]? = some (.cells cs.toArray e (0, 0))
theorem Blk.lt {w : World} {g : Nat} {e : TypeId} {cs : List Value} (h : Blk w g e cs) : g < w.heap.size := (Array.getElem?_eq_some_iff.1 h).1
theorem Blk.cell {w : World} {g : Nat} {e : TypeId} {cs : List Value} (h : Blk w g e cs) (j : Nat) : w.cell? ⟨g, j, none⟩ = cs[j]? := by
 rw [cell_of_row w g j _ e (0, 0) h]; simp
theorem Blk.free {w : World} {g : Nat} {e : TypeId} {cs : List Value} (h : Blk w g e cs) (j : Nat) : w.frozen? ⟨g, j, none⟩ = false := frozen_of_row w g j _ e h
theorem Blk.keep {bad : Nat → Prop} {w W : World} {g : Nat} {e : TypeId} {cs : List Value} (h : Blk w g e cs) (hk : Keep bad w W) (hb : ¬ bad g) : Blk W g e cs := (hk.2.2.2.2 g h.lt hb).trans h
theorem Blk.below {N : Nat} {w W : World} {g : Nat} {e : TypeId} {cs : List Value} (h : Blk w g e cs) (hk : Below N w W) (hb : g < N) : Blk W g e cs := (hk.block g hb).trans h
theorem Blk.alloc (w : World) (e : TypeId) (cs : Array Value) : Blk (w.alloc (.cells cs e)) w.heap.size e cs.toList := by
 unfold Blk; rw [Array.toArray_toList]; exact heap_alloc_new w _
theorem Blk.range {w : World} {g : Nat} {e : TypeId} {cs : List Value} (h : Blk w g e cs) (o : Nat) (xs : List Value) (hx : ∀ j, j < xs.length → cs[o + j]? = xs[j]?) : w.rangeAt g o xs := fun j v hv => by
 have hj : j < xs.length := (List.getElem?_eq_some_iff.1 hv).1
 rw [h.cell, hx j hj, hv]
theorem Blk.nums {w : World} {g : Nat} {e : TypeId} {cs : List Value} (h : Blk w g e cs) (o c : Nat) (s : List Int) (n : Nat) (hn : n = s.length) (hx : ∀ j, j < s.length → cs[o + j]? = (B8 s)[j]?) : IsNums .u8 w (.slice (some ⟨g, o, none⟩) n c) s := by
 subst hn
 refine ⟨_, c, rfl, .inr ⟨g, o, rfl, h.lt, fun j hj => ?_⟩⟩
 rw [h.cell, hx j hj]
 simp [B8, hj, List.getD]
theorem Keep.setRow {bad : Nat → Prop} {w : World} {g : Nat} (hb : bad g) (cs : Array Value) : Keep bad w (w.setRow g cs) :=
 ⟨rfl, rfl, rfl, by simp [World.setRow], fun k hk hn => setRow_other w g k cs (fun e => hn (by rw [e]; exact hb))⟩
theorem Keep.setCell {bad : Nat → Prop} {w : World} {a : Addr} (hb : bad a.block) (v : Value) : Keep bad w (w.setCell a v) :=
 ⟨rfl, rfl, rfl, by simp [World.setCell], fun k hk hn => Below.heap_setCell w a v k (fun e => hn (by rw [e]; exact hb))⟩
theorem Keep.alloc (bad : Nat → Prop) (w : World) (o : Obj) : Keep bad w (w.alloc o) := Keep.ofBelow ((Below.refl _ w).alloc (Nat.le_refl _) o)
theorem Blk.setCell {w : World} {g : Nat} {e : TypeId} {cs : List Value} (h : Blk w g e cs) (j : Nat) (v : Value) : Blk (w.setCell ⟨g, j, none⟩ v) g e (cs.set j v) := by
 unfold Blk
 rw [setCell_eq_setRow w g j _ e (0, 0) v h, setRow_heap w g _ _ e _ h]
 simp

theorem run_storeVar_blk {P : Program} {w : World} {g : Nat} {e : TypeId} {cs : List Value} (h : Blk w g e cs) (o : Nat) (ty : TypeId) (xs : List Value) (hfit : o + xs.length ≤ cs.length)
   (hi : (P.info? ty).map (·.size) = some xs.length) (h1 : ∀ v ∈ xs, v.oneCell' = true) :
   ∃ w', (Instr.storeAt ty (.pointer (some ⟨g, o, none⟩)) (.agg xs.toArray)).run P w = .ok () w' ∧ Blk w' g e (cs.take o ++ xs ++ cs.drop (o + xs.length)) ∧ ∀ bad : Nat → Prop, bad g → Keep bad w w' := by
 have hst := run_storeCells_at P g o e xs 0 cs.toArray w h (by simpa using hfit) h1
 cases hq : P.info? ty with
 | none => simp [hq] at hi
 | some i =>
   have hs : xs.length = i.size := by simp [hq] at hi; omega
   refine ⟨w.setRow g (cs.take o ++ xs ++ cs.drop (o + xs.length)).toArray, ?_, ?_, fun bad hb => Keep.setRow hb _⟩
   · rw [Nat.add_zero] at hst
     have hst' : (storeCells ⟨g, o, none⟩ xs 0).run P w = .ok () (w.setRow g (cs.take o ++ xs ++ cs.drop (o + xs.length)).toArray) := by rw [hst]
     simp only [Instr.storeAt, Instr.sureAddr, Sem.run_bind, Sem.run_pure, Result.andThen_ok]
     simp [storeVar, sizeOf, typeInfo, hq, Value.cells, ← hs, hst']
   · unfold Blk
     rw [setRow_heap w g _ _ e _ h]

/-! ### What a literal of a struct lays -/
theorem fold_put (off : Nat) : ∀ (xs : List Value) (k : Nat) (cells : List Value), off + k + xs.length ≤ cells.length →
   (xs.zipIdx k).foldl (fun (cs : Array Value) (p : Value × Nat) => cs.setIfInBounds (off + p.2) p.1) cells.toArray = (cells.take (off + k) ++ xs ++ cells.drop (off + k + xs.length)).toArray
 | [], k, cells, h => by simp
 | x :: xs, k, cells, h => by
   rw [List.zipIdx_cons, List.foldl_cons]
   simp only [List.setIfInBounds_toArray]
   simp only [List.length_cons] at h
   rw [fold_put off xs (k + 1) (cells.set (off + k) x) (by simp; omega)]
   have e := list_seg_step cells (off + k) x xs (by omega)
   rw [show off + (k + 1) = off + k + 1 by omega, e]
   simp [Nat.add_assoc, Nat.add_comm 1]
theorem fill_agg (place : Nat → Option (Nat × Nat)) (cells : List Value) (i off : Nat) (xs : List Value) (rest : List (Nat × Value)) (hp : place i = some (off, xs.length)) (hf : off + xs.length ≤ cells.length) :
   Instr.fill place cells.toArray ((i, .agg xs.toArray) :: rest) = Instr.fill place (cells.take off ++ xs ++ cells.drop (off + xs.length)).toArray rest := by
 have h := fold_put off xs 0 cells (by omega)
 have hc : (Value.agg xs.toArray).cells = xs.toArray := rfl
 have n1 : ¬ cells.length < off + xs.length := by omega
 rw [Instr.fill, hp, hc]
 simp only [List.size_toArray, ne_eq, not_true_eq_false, decide_false, Bool.false_or, decide_eq_true_eq, gt_iff_lt, if_neg n1]
 congr 1
 rw [← Array.foldl_toList, Array.toList_zipIdx]
 simpa using h

def NumsOff (bad : Nat → Prop) (w : World) (v : Value) (zs : List Int) : Prop :=
 ∃ a c, v = .slice a zs.length c ∧ (zs.length = 0 ∨ ∃ b off, a = some ⟨b, off, none⟩ ∧ b < w.heap.size ∧ ¬ bad b ∧ ∀ j, j < zs.length → w.cell? ⟨b, off + j, none⟩ = some (.int .u8 (zs.getD j 0)))
theorem NumsOff.nums {bad : Nat → Prop} {w : World} {v : Value} {zs : List Int} (h : NumsOff bad w v zs) : IsNums .u8 w v zs := by
 obtain ⟨a, c, rfl, h | ⟨b, off, rfl, h1, h2, h3⟩⟩ := h
 · exact ⟨a, c, rfl, .inl h⟩
 · exact ⟨_, c, rfl, .inr ⟨b, off, rfl, h1, h3⟩⟩
theorem NumsOff.keep {bad bad' : Nat → Prop} {w W : World} {v : Value} {zs : List Int} (h : NumsOff bad w v zs) (hk : Keep bad' w W) (hb : ∀ k, bad' k → bad k) : NumsOff bad W v zs := by
 obtain ⟨a, c, rfl, h | ⟨b, off, rfl, h1, h2, h3⟩⟩ := h
 · exact ⟨a, c, rfl, .inl h⟩
 · exact ⟨_, c, rfl, .inr ⟨b, off, rfl, Nat.lt_of_lt_of_le h1 hk.size, h2, fun j hj => by rw [hk.cell (fun hh => h2 (hb _ hh)) h1]; exact h3 j hj⟩⟩
theorem NumsOff.mono {bad bad' : Nat → Prop} {w : World} {v : Value} {zs : List Int} (h : NumsOff bad w v zs) (hb : ∀ k, k < w.heap.size → bad' k → bad k) : NumsOff bad' w v zs := by
 obtain ⟨a, c, rfl, h | ⟨b, off, rfl, h1, h2, h3⟩⟩ := h
 · exact ⟨a, c, rfl, .inl h⟩
 · exact ⟨_, c, rfl, .inr ⟨b, off, rfl, h1, fun hh => h2 (hb _ h1 hh), h3⟩⟩
theorem NumsOff.nil (bad : Nat → Prop) (w : World) (a : Option Addr) (c : Nat) : NumsOff bad w (.slice a 0 c) [] := ⟨a, c, rfl, .inl rfl⟩
theorem NumsOff.of {bad : Nat → Prop} {w : World} {v : Value} {zs : List Int} (h : IsNums .u8 w v zs) (hb : ∀ k, k < w.heap.size → ¬ bad k) : NumsOff bad w v zs := by
 obtain ⟨a, c, rfl, h | ⟨b, off, rfl, h1, h3⟩⟩ := h
 · exact ⟨a, c, rfl, .inl h⟩
 · exact ⟨_, c, rfl, .inr ⟨b, off, rfl, h1, hb b h1, h3⟩⟩
theorem NumsOff.below {bad : Nat → Prop} {N : Nat} {w W : World} {v : Value} {zs : List Int} (h : IsNums .u8 w v zs) (hW : Below w.heap.size w W) (hb : ∀ k, bad k → w.heap.size ≤ k) : NumsOff bad W v zs := by
 obtain ⟨a, c, rfl, h | ⟨b, off, rfl, h1, h3⟩⟩ := h
 · exact ⟨a, c, rfl, .inl h⟩
 · exact ⟨_, c, rfl, .inr ⟨b, off, rfl, Nat.lt_of_lt_of_le h1 hW.size, fun hh => by have := hb b hh; omega, fun j hj => by rw [hW.cell h1]; exact h3 j hj⟩⟩

section
variable {P : Program} {ops : Array Oper} {rest : List Oper} {op : Oper} {a : Act} {w : World} {Q : Exit → Act → World → Prop} {K : Act → World → Prop}

theorem wp_store_blk {g : Nat} {e : TypeId} {cs : List Value} (h : Blk w g e cs) (ty : TypeId) (x y : Operand) (ho : op.op = .store ty x y)
   (o : Nat) (xs : List Value) (hx : a.eval x = .pointer (some ⟨g, o, none⟩)) (hy : a.eval y = .agg xs.toArray) (hfit : o + xs.length ≤ cs.length)
   (hi : (P.info? ty).map (·.size) = some xs.length) (h1 : ∀ v ∈ xs, v.oneCell' = true)
   (hK : ∀ w', Blk w' g e (cs.take o ++ xs ++ cs.drop (o + xs.length)) → (∀ bad : Nat → Prop, bad g → Keep bad w w') → K (a.put op.dst undef) w') : op.wp P a w K Q := by
 obtain ⟨w', hr, hb, hk⟩ := run_storeVar_blk (P := P) h o ty xs hfit hi h1
 unfold Oper.wp execOp
 simp only [ho, hx, hy, Sem.run_bind, hr, Result.andThen_ok]
 exact hK w' hb hk

theorem wpList_loadM {d : Option Tmp} {ty tt : TypeId} {pos : String} {af : Array Edge} (x : Operand) (b o : Nat) (cs : List Value) (td : TypeDesc) (hc : w.rangeAt b o cs)
   (hu : P.underlying ty = some td) (hd : td.isRow = true) (hi : (P.info? ty).map (·.size) = some cs.length) (hx : a.eval x = .pointer (some ⟨b, o, none⟩))
   (h : wpList P ops Q rest (a.put d (.agg cs.toArray)) w) : wpList P ops Q (⟨d, .load ty x, tt, pos, af, none⟩ :: rest) a w :=
 wpList_load_mid rfl ty x rfl b o hx cs td hc hu hd hi h

theorem run_copy_blk {w : World} {g : Nat} {e : TypeId} {cs : List Value} (h : Blk w g e cs) (o n cap : Nat) (u : Value) (zs : List Int) (hu : IsNums .u8 w u zs) (hz : zs.length ≤ n) (hfit : o + zs.length ≤ cs.length)
   (dT sT ty elem : TypeId) (ht : P.underlying dT = some (.slice elem)) (hs : (P.info? elem).map (·.size) = some 1) :
   ∃ w', (Builtin.copy_ #[dT, sT] ty #[.slice (some ⟨g, o, none⟩) n cap, u]).run P w = .ok (goInt zs.length) w' ∧ Blk w' g e (cs.take o ++ B8 zs ++ cs.drop (o + zs.length)) ∧ ∀ bad : Nat → Prop, bad g → Keep bad w w' := by
 obtain ⟨a, c, rfl, hz0 | ⟨b, off, rfl, hlt, hc⟩⟩ := hu
 · obtain rfl := List.length_eq_zero_iff.1 hz0
   refine ⟨w, by rw [run_copy_none w dT sT ty elem _ _ _ _ _ _ ht hs (by simp)]; rfl, ?_, fun bad _ => Keep.refl _ _⟩
   simpa [B8] using h
 · refine ⟨w.setRow g (cs.take o ++ B8 zs ++ cs.drop (o + zs.length)).toArray, ?_, ?_, fun bad hb => Keep.setRow hb _⟩
   · have hr := run_copy_row (P := P) w dT sT ty elem g o n cap ⟨b, off, none⟩ zs.length c cs.toArray e (B8 zs) ht hs h (by rw [B8_len]; exact (Nat.min_eq_left hz).symm)
       (by
         intro j v hv
         have hj : j < zs.length := by have := (List.getElem?_eq_some_iff.1 hv).1; rwa [B8_len] at this
         rw [Addr.add_lit, hc j hj, ← hv]
         simp [B8, hj, List.getD]) (by rw [B8_len]; simpa using hfit) (B8_one zs)
     rw [B8_len] at hr
     exact hr
   · unfold Blk
     rw [setRow_heap w g _ _ e _ h]

theorem wp_copyB {op : Oper} {g : Nat} {e : TypeId} {cs : List Value} (h : Blk w g e cs) (x y : Operand) (dT sT : TypeId) (ho : op.op = .call { callee := .builtin .copy, args := #[x, y], argTypes := #[dT, sT] }) (o n cap : Nat) (u : Value) (zs : List Int) (hu : IsNums .u8 w u zs) (hz : zs.length ≤ n) (hfit : o + zs.length ≤ cs.length)
   (elem : TypeId) (ht : P.underlying dT = some (.slice elem)) (hs : (P.info? elem).map (·.size) = some 1) (hx : a.eval x = .slice (some ⟨g, o, none⟩) n cap) (hy : a.eval y = u)
   (hK : ∀ w', Blk w' g e (cs.take o ++ B8 zs ++ cs.drop (o + zs.length)) → (∀ bad : Nat → Prop, bad g → Keep bad w w') → K (a.put op.dst (goInt zs.length)) w') : op.wp P a w K Q := by
 obtain ⟨w', hrun, h1, h2⟩ := run_copy_blk (P := P) h o n cap u zs hu hz hfit dT sT op.type elem ht hs
 unfold Oper.wp
 simp [execOp, ho, resolve, invoke, builtin, hx, hy, hrun, Result.andThen]
 exact hK w' h1 h2

theorem wpList_copyB {g : Nat} {e : TypeId} {cs : List Value} (h : Blk w g e cs) {d : Option Tmp} {tt : TypeId} {pos : String} {af : Array Edge} (x y : Operand) (dT sT : TypeId) (o n cap : Nat) (u : Value) (zs : List Int) (hu : IsNums .u8 w u zs) (hz : zs.length ≤ n) (hfit : o + zs.length ≤ cs.length)
   (elem : TypeId) (ht : P.underlying dT = some (.slice elem)) (hs : (P.info? elem).map (·.size) = some 1) (hx : a.eval x = .slice (some ⟨g, o, none⟩) n cap) (hy : a.eval y = u)
   (hK : ∀ w', Blk w' g e (cs.take o ++ B8 zs ++ cs.drop (o + zs.length)) → (∀ bad : Nat → Prop, bad g → Keep bad w w') → wpList P ops Q rest (a.put d (goInt zs.length)) w') :
   wpList P ops Q (⟨d, .call { callee := .builtin .copy, args := #[x, y], argTypes := #[dT, sT] }, tt, pos, af, none⟩ :: rest) a w := by
 refine wpList_plain rfl fun K' hK' => ?_
 obtain ⟨w', hrun, h1, h2⟩ := run_copy_blk (P := P) h o n cap u zs hu hz hfit dT sT tt elem ht hs
 unfold Oper.wp
 simp [execOp, resolve, invoke, builtin, hx, hy, hrun, Result.andThen]
 exact hK' _ _ (hK w' h1 h2)

theorem wpList_buildM {d : Option Tmp} {ty tt : TypeId} {pos : String} {af : Array Edge} (parts : Array (Nat × Operand)) (cells : List Value) (pl : List (Nat × Value)) (hf : P.built ty pl = some cells.toArray) (hp : parts.toList.map (fun x => (x.1, a.eval x.2)) = pl)
   (h : wpList P ops Q rest (a.put d (.agg cells.toArray)) w) : wpList P ops Q (⟨d, .build ty parts, tt, pos, af, none⟩ :: rest) a w :=
 wpList_buildTo rfl ty parts rfl d rfl cells.toArray (by rw [Array.toList_map]; rw [← hp] at hf; exact hf) h

theorem wpList_allocM {d : Option Tmp} {ty tt : TypeId} {pos : String} {af : Array Edge} (z : List Value) (hz : (P.info? ty).bind (·.zero) = some (.agg z.toArray))
   (h : wpList P ops Q rest (a.put d (.pointer (some ⟨w.heap.size, 0, none⟩))) (w.alloc (.cells z.toArray ty))) : wpList P ops Q (⟨d, .alloc ty, tt, pos, af, none⟩ :: rest) a w := by
 cases hi : P.info? ty with
 | none => simp [hi] at hz
 | some i =>
   have hz2 : i.zero = some (.agg z.toArray) := by simpa [hi] using hz
   refine wpList_plain rfl fun K' hK' => ?_
   unfold Oper.wp
   simp [execOp, Instr.alloc, zeroValue, typeInfo, hi, hz2, newVar, Value.cells, Result.andThen]
   exact hK' _ _ h

theorem wpList_storeN {w0 : World} {e : TypeId} {C : Array Value} {d : Option Tmp} {ty tt : TypeId} {pos : String} {af : Array Edge} (x y : Operand)
   (xs : List Value) (h1 : ∀ v ∈ xs, v.oneCell' = true) (hi : (P.info? ty).map (·.size) = some xs.length) (hx : a.eval x = .pointer (some ⟨w0.heap.size, 0, none⟩)) (hy : a.eval y = .agg xs.toArray) (hfit : xs.length = C.size)
   (hK : ∀ w', Blk w' w0.heap.size e xs → Below w0.heap.size w0 w' → w'.heap.size = w0.heap.size + 1 → wpList P ops Q rest (a.put d undef) w') : wpList P ops Q (⟨d, .store ty x y, tt, pos, af, none⟩ :: rest) a (w0.alloc (.cells C e)) := by
 have h0 := Blk.alloc w0 e C
 have hlt : C.toList.length = C.size := Array.length_toList
 have hsz : (w0.alloc (.cells C e)).heap.size = w0.heap.size + 1 := by simp
 obtain ⟨w', hr, hb, hk⟩ := run_storeVar_blk (P := P) h0 0 ty xs (by omega) hi h1
 have hs2 : w' = (w0.alloc (.cells C e)).setRow w0.heap.size xs.toArray := by
   have hst := run_storeCells_at P w0.heap.size 0 e xs 0 C (w0.alloc (.cells C e)) (heap_alloc_new w0 _) (by omega) h1
   cases hq : P.info? ty with
   | none => simp [hq] at hi
   | some i =>
     have hs : xs.length = i.size := by simp [hq] at hi; omega
     have e2 : (C.toList.take (0 + 0) ++ xs ++ C.toList.drop (0 + 0 + xs.length)).toArray = xs.toArray := by
       rw [List.drop_of_length_le (by omega)]; simp
     rw [e2] at hst
     simp only [Instr.storeAt, Instr.sureAddr, Sem.run_bind, Sem.run_pure, Result.andThen_ok] at hr
     simp [storeVar, sizeOf, typeInfo, hq, Value.cells, ← hs, hst] at hr
     exact hr.symm
 refine wpList_plain rfl fun K' hK' => ?_
 unfold Oper.wp execOp
 simp only [hx, hy, Sem.run_bind, hr, Result.andThen_ok]
 refine hK' _ _ (hK w' ?_ ((((Below.refl _ w0).alloc (Nat.le_refl _) _)).trans ((hk (fun k => k = w0.heap.size) rfl).below (by rintro k rfl; exact Nat.le_refl _) (by rw [hsz]; omega))) ?_)
 · rw [List.take_zero, List.nil_append, List.drop_of_length_le (by omega), List.append_nil] at hb
   exact hb
 · rw [hs2]
   simp [World.setRow]
end
end Go.Proofs.YtogjhjiapinmcaaDoor.K
end
section
namespace Go.Proofs.YtogjhjiapinmcaaDoor.K
open Go.ChangeShapes Go.WideShapes Go.ChangeAt Go.RowKit
set_option linter.unusedVariables false

def Head (w : World) (B : Nat) (vs vu : Value) (left : Int) : Prop :=
 w.cell? ⟨B, 0, none⟩ = some vs ∧ w.cell? ⟨B, 1, none⟩ = some vu ∧ w.cell? ⟨B, 2, none⟩ = some (.int .i64 left) ∧ Blk w B 57 [vs, vu, .int .i64 left] ∧ w.frozen? ⟨B, 1, none⟩ = false ∧ w.frozen? ⟨B, 2, none⟩ = false
theorem Head.lt {w : World} {B : Nat} {vs vu : Value} {l : Int} (h : Head w B vs vu l) : B < w.heap.size := World.block_lt_of_cell? w ⟨B, 0, none⟩ h.1
theorem Head.below {N : Nat} {w w' : World} {B : Nat} {vs vu : Value} {l : Int} (h : Head w B vs vu l) (hb : Below N w w') (hB : B < N) : Head w' B vs vu l := by
 obtain ⟨h0, h1, h2, h3, h4, h5⟩ := h
 exact ⟨by rw [hb.cell (by exact hB)]; exact h0, by rw [hb.cell (by exact hB)]; exact h1, by rw [hb.cell (by exact hB)]; exact h2, h3.below hb hB, by rw [hb.frozen (by exact hB)]; exact h4, by rw [hb.frozen (by exact hB)]; exact h5⟩
theorem Head.setLeft {w : World} {B : Nat} {vs vu : Value} {l : Int} (h : Head w B vs vu l) (m : Int) : Head (w.setCell ⟨B, 2, none⟩ (.int .i64 m)) B vs vu m := by
 obtain ⟨h0, h1, h2, h3, h4, h5⟩ := h
 refine ⟨?_, ?_, World.cell?_setCell_same _ _ _ h2, h3.setCell 2 _, by rw [World.frozen?_setCell]; exact h4, by rw [World.frozen?_setCell]; exact h5⟩
 · rw [World.cell?_setCell_other _ _ _ _ (by simp)]; exact h0
 · rw [World.cell?_setCell_other _ _ _ _ (by simp)]; exact h1

theorem diskhas_any (B : Nat) (p : Option Addr) (n c : Nat) (vu : Value) (l i : Int) (w : World) (h : Head w B (.slice p n c) vu l) :
   Calls Tryd.prog 33 #[.pointer (some ⟨B, 0, none⟩), .int .i64 i] w fun e w' => e = .returned (.bool (decide (0 ≤ i ∧ i < n))) ∧ w = w' := by
 obtain ⟨h0, h1, h2, h3, h4, h5⟩ := h
 by_cases q1 : 0 ≤ i
 · by_cases q2 : i < n
   · go_enter Tryd.func33, Tryd.ntmps33
     go_wp2
     go_ret
     exact ⟨ret_bool (by simp [q1, q2]), rfl⟩
   · go_enter Tryd.func33, Tryd.ntmps33
     go_wp2
     go_ret
     exact ⟨ret_bool (by simp [q2]), rfl⟩
 · go_enter Tryd.func33, Tryd.ntmps33
   go_wp2
   go_ret
   exact ⟨ret_bool (by simp; omega), rfl⟩

def less (l : Int) : Int := if 0 < l then l - 1 else l
theorem spend_any (B : Nat) (vs vu : Value) (l : Int) (w : World) (h : Head w B vs vu l) (l0 : -1 ≤ l) (l1 : l ≤ 9223372036854775807) :
   Calls Tryd.prog 34 #[.pointer (some ⟨B, 0, none⟩)] w fun e w' => e = .returned (.bool (l != 0)) ∧ w' = if 0 < l then w.setCell ⟨B, 2, none⟩ (.int .i64 (l - 1)) else w := by
 obtain ⟨h0, h1, h2, h3, h4, h5⟩ := h
 by_cases q0 : l = 0
 · subst q0
   go_enter Tryd.func34, Tryd.ntmps34
   go_wp2
   go_ret
   exact ⟨rfl, rfl⟩
 · have q1 : (l == 0) = false := by rw [beq_eq_false_iff_ne]; exact q0
   by_cases q2 : 0 < l
   · rw [if_pos q2]
     go_enter Tryd.func34, Tryd.ntmps34
     go_wp2
     go_ret
     exact ⟨ret_bool (by simp [bne, q1]), rfl⟩
   · rw [if_neg q2]
     go_enter Tryd.func34, Tryd.ntmps34
     go_wp2
     go_ret
     exact ⟨ret_bool (by simp [bne, q1]), rfl⟩
end Go.Proofs.YtogjhjiapinmcaaDoor.K
end
section
namespace Go.Proofs.YtogjhjiapinmcaaDoor.K
open Go.ChangeShapes Go.WideShapes Go.ChangeAt Go.RowKit
set_option linter.unusedVariables false

def Sec (s : List Int) : Prop := s.length = 64 ∧ ∀ x ∈ s, 0 ≤ x ∧ x ≤ 255
def zeros : List Int := List.replicate 64 0
theorem Sec.zeros : Sec zeros := ⟨rfl, fun x hx => by rw [List.eq_of_mem_replicate hx]; omega⟩
structure Un where
 pos : Nat
 was : List Int
 new : List Int
def Un.cells (u : Un) : List Value := .int .i64 u.pos :: (B8 u.was ++ B8 u.new)
def Un.Good (n : Nat) (u : Un) : Prop := u.pos < n ∧ Sec u.was ∧ Sec u.new
theorem Un.Good.len {n : Nat} {u : Un} (h : u.Good n) : u.cells.length = 129 := by
 unfold Un.cells; rw [List.length_cons, List.length_append, B8_len, B8_len, h.2.1.1, h.2.2.1]
theorem Un.cells_one (u : Un) : ∀ v ∈ u.cells, v.oneCell' = true := by
 intro v hv
 unfold Un.cells at hv
 rw [List.mem_cons, List.mem_append] at hv
 rcases hv with rfl | hv | hv
 · rfl
 · exact B8_one _ v hv
 · exact B8_one _ v hv

structure IsDisk (w : World) (B S : Nat) (vu : Value) (secs : List (List Int)) (uns : List Un) (left : Int) : Prop where
 head : Head w B (.slice (some ⟨S, 0, none⟩) secs.length secs.length) vu left
 sec : Blk w S 73 (flat secs)
 row : w.ownsRow (B + 1) 75 129 vu uns.length (uns.flatMap Un.cells)
 lt : S < B
 secs_ok : ∀ s ∈ secs, Sec s
 uns_ok : ∀ u ∈ uns, u.Good secs.length
 many : secs.length ≤ 1048576
 left0 : -1 ≤ left
 left1 : left ≤ 9223372036854775807

def Mine (B S : Nat) (vu : Value) (k : Nat) : Prop := k = B ∨ k = S ∨ vu.ownBlock = some k
theorem IsDisk.mine_lt {w : World} {B S : Nat} {vu : Value} {secs : List (List Int)} {uns : List Un} {l : Int} (h : IsDisk w B S vu secs uns l) : ∀ k, Mine B S vu k → k < w.heap.size := by
 rintro k (rfl | rfl | hk)
 · exact h.head.lt
 · exact h.sec.lt
 · exact (h.row.lt k hk).2
theorem IsDisk.apart {w : World} {B S : Nat} {vu : Value} {secs : List (List Int)} {uns : List Un} {l : Int} (h : IsDisk w B S vu secs uns l) : vu.ownBlock ≠ some B ∧ vu.ownBlock ≠ some S := by
 refine ⟨fun e => ?_, fun e => ?_⟩
 · have := (h.row.lt _ e).1; omega
 · have := (h.row.lt _ e).1; have := h.lt; omega
theorem Head.keep {bad : Nat → Prop} {w W : World} {B : Nat} {vs vu : Value} {l : Int} (h : Head w B vs vu l) (hk : Keep bad w W) (hb : ¬ bad B) : Head W B vs vu l := by
 have hB := h.lt
 obtain ⟨h0, h1, h2, h3, h4, h5⟩ := h
 exact ⟨by rw [hk.cell hb hB]; exact h0, by rw [hk.cell hb hB]; exact h1, by rw [hk.cell hb hB]; exact h2, h3.keep hk hb, by rw [hk.frozen hb hB]; exact h4, by rw [hk.frozen hb hB]; exact h5⟩
theorem ownsRow_keep {bad : Nat → Prop} {w W : World} {base : Nat} {e : TypeId} {size : Nat} {v : Value} {n : Nat} {xs : List Value} (h : w.ownsRow base e size v n xs) (hk : Keep bad w W) (hb : ∀ k, v.ownBlock = some k → ¬ bad k) : W.ownsRow base e size v n xs := by
 refine ⟨h.1, ?_⟩
 rcases h.2 with hn | ⟨g, cap, cur, rfl, hbg, hgg, rest⟩
 · exact .inl hn
 · refine .inr ⟨g, cap, cur, rfl, hbg, ?_, rest⟩
   rw [hk.2.2.2.2 g (Array.getElem?_eq_some_iff.1 hgg).1 (hb g rfl)]
   exact hgg
theorem IsDisk.keep {bad : Nat → Prop} {w W : World} {B S : Nat} {vu : Value} {secs : List (List Int)} {uns : List Un} {l : Int} (h : IsDisk w B S vu secs uns l) (hk : Keep bad w W) (hb : ∀ k, Mine B S vu k → ¬ bad k) : IsDisk W B S vu secs uns l :=
 ⟨h.head.keep hk (hb B (.inl rfl)), h.sec.keep hk (hb S (.inr (.inl rfl))), ownsRow_keep h.row hk (fun k e => hb k (.inr (.inr e))), h.lt, h.secs_ok, h.uns_ok, h.many, h.left0, h.left1⟩
theorem IsDisk.later {w W : World} {B S : Nat} {vu : Value} {secs : List (List Int)} {uns : List Un} {l : Int} (h : IsDisk w B S vu secs uns l) (hk : Below w.heap.size w W) : IsDisk W B S vu secs uns l :=
 h.keep (bad := fun _ => False) (Keep.ofBelow hk) (fun _ _ hf => hf)
theorem IsDisk.below {N : Nat} {w W : World} {B S : Nat} {vu : Value} {secs : List (List Int)} {uns : List Un} {l : Int} (h : IsDisk w B S vu secs uns l) (hk : Keep (Mine B S vu) w W) (hB : N ≤ S) (hN : N ≤ w.heap.size) : Below N w W :=
 hk.below (by
   have hlt := h.lt
   rintro k (rfl | rfl | e)
   · omega
   · omega
   · have := (h.row.lt k e).1; omega) hN
theorem Head.setUns {w : World} {B : Nat} {vs vu : Value} {l : Int} (h : Head w B vs vu l) (v : Value) : Head (w.setCell ⟨B, 1, none⟩ v) B vs v l := by
 obtain ⟨h0, h1, h2, h3, h4, h5⟩ := h
 refine ⟨?_, World.cell?_setCell_same _ _ _ h1, ?_, h3.setCell 1 _, by rw [World.frozen?_setCell]; exact h4, by rw [World.frozen?_setCell]; exact h5⟩
 · rw [World.cell?_setCell_other _ _ _ _ (by simp)]; exact h0
 · rw [World.cell?_setCell_other _ _ _ _ (by simp)]; exact h2
theorem IsDisk.setLeft {w : World} {B S : Nat} {vu : Value} {secs : List (List Int)} {uns : List Un} {l : Int} (h : IsDisk w B S vu secs uns l) (m : Int) (h0 : -1 ≤ m) (h1 : m ≤ 9223372036854775807) :
   IsDisk (w.setCell ⟨B, 2, none⟩ (.int .i64 m)) B S vu secs uns m ∧ Keep (fun k => k = B) w (w.setCell ⟨B, 2, none⟩ (.int .i64 m)) := by
 have hk : Keep (fun k => k = B) w (w.setCell ⟨B, 2, none⟩ (.int .i64 m)) := Keep.setCell (bad := fun k => k = B) rfl _
 have hlt := h.lt
 exact ⟨⟨h.head.setLeft m, h.sec.keep hk (by omega), ownsRow_keep h.row hk (fun k e => by have := (h.row.lt k e).1; omega), h.lt, h.secs_ok, h.uns_ok, h.many, h0, h1⟩, hk⟩
theorem IsDisk.setNone {w : World} {B S : Nat} {vu : Value} {secs : List (List Int)} {uns : List Un} {l : Int} (h : IsDisk w B S vu secs uns l) :
   IsDisk (w.setCell ⟨B, 1, none⟩ (.slice none 0 0)) B S (.slice none 0 0) secs [] l ∧ Keep (fun k => k = B) w (w.setCell ⟨B, 1, none⟩ (.slice none 0 0)) := by
 have hk : Keep (fun k => k = B) w (w.setCell ⟨B, 1, none⟩ (.slice none 0 0)) := Keep.setCell (bad := fun k => k = B) rfl _
 have hlt := h.lt
 exact ⟨⟨h.head.setUns _, h.sec.keep hk (by omega), World.ownsRow_nil _ _ _ _, h.lt, h.secs_ok, by simp, h.many, h.left0, h.left1⟩, hk⟩

/-! ### What is left -/
theorem spend_disk {w : World} {B S : Nat} {vu : Value} {secs : List (List Int)} {uns : List Un} {l : Int} (h : IsDisk w B S vu secs uns l) :
   Calls Tryd.prog 34 #[.pointer (some ⟨B, 0, none⟩)] w fun e w' => e = .returned (.bool (l != 0)) ∧ IsDisk w' B S vu secs uns (less l) ∧ Keep (fun k => k = B) w w' := by
 refine (spend_any B _ _ l w h.head h.left0 h.left1).mono ?_
 rintro e w' ⟨rfl, rfl⟩
 refine ⟨rfl, ?_⟩
 have h0 := h.left0
 have h1 := h.left1
 unfold less
 by_cases hl : 0 < l
 · rw [if_pos hl, if_pos hl]
   exact h.setLeft _ (by omega) (by omega)
 · rw [if_neg hl, if_neg hl]
   exact ⟨h, Keep.refl _ _⟩

theorem flush_live {w : World} {B S : Nat} {vu : Value} {secs : List (List Int)} {uns : List Un} {l : Int} (h : IsDisk w B S vu secs uns l) (hl : (l != 0) = true) :
   Calls Tryd.prog 20 #[.pointer (some ⟨B, 0, none⟩)] w fun e w' => e = .returned (.int .i64 0) ∧ IsDisk w' B S (.slice none 0 0) secs [] (less l) ∧ Keep (fun k => k = B) w w' := by
 go_enter Tryd.func20, Tryd.ntmps20
 go_wp2_with fail
 refine (spend_disk h).mono ?_
 rintro e w' ⟨rfl, h', hk⟩
 rw [hl]
 clear hl
 obtain ⟨h0, h1, h2, h3, h4, h5⟩ := id h'.head
 have H' := Lib.hid h'
 have HK := Lib.hid hk
 clear h' hk h
 go_wp2
 go_ret
 obtain ⟨q1, q2⟩ := H'.out.setNone
 exact ⟨rfl, q1, HK.out.trans q2⟩
end Go.Proofs.YtogjhjiapinmcaaDoor.K
end
section
namespace Go.Proofs.YtogjhjiapinmcaaDoor.K
open Go.ChangeShapes Go.WideShapes Go.ChangeAt Go.RowKit
set_option linter.unusedVariables false

theorem madeCells_zeros (m k : Nat) (hm : 0 < m) : (madeCells (Array.replicate m (Value.int .u8 0)) k).toList = List.replicate k (Value.int .u8 0) := by
 unfold madeCells
 apply List.ext_getElem
 · simp
 · intro i h1 h2
   simp at h1
   have : i % m < m := Nat.mod_lt _ hm
   simp [this]
theorem flat_zeros (n : Nat) : flat (List.replicate n zeros) = List.replicate (n * 64) (Value.int .u8 0) := by
 unfold flat zeros
 induction n with
 | zero => rfl
 | succ n ih =>
   rw [List.replicate_succ, List.flatMap_cons, ih, B8_zeros, Nat.add_mul, Nat.one_mul, Nat.add_comm, ← List.replicate_append_replicate]

theorem Head.ofBlk {w : World} {B : Nat} {vs vu : Value} {l : Int} (h : Blk w B 57 [vs, vu, .int .i64 l]) : Head w B vs vu l :=
 ⟨by rw [h.cell]; rfl, by rw [h.cell]; rfl, by rw [h.cell]; rfl, h, h.free 1, h.free 2⟩
theorem infoSector : (Tryd.prog.info? 73).map (fun i => (i.zero, i.size, i.bytes)) = some (some (.agg (Array.replicate 64 (.int .u8 0))), 64, 64) := by kernel_rfl

theorem new_disk (n : Nat) (w : World) (hn : n ≤ 1048576) :
   Calls Tryd.prog 8 #[.int .i64 n] w fun e w' => ∃ B S, e = .returned (.pointer (some ⟨B, 0, none⟩)) ∧ w.heap.size ≤ S ∧ IsDisk w' B S (.slice none 0 0) (List.replicate n zeros) [] (-1) ∧ Below w.heap.size w w' := by
 obtain ⟨i0, hi, hz0, hz1, hz2⟩ := info_parts infoSector
 have hr := run_make (P := Tryd.prog) w 54 73 i0 _ Tryd.underlying54 hi hz0 .i64 .i64 n n (by omega) (by omega) (by rw [hz2]; omega) (by omega)
 rw [hz1, Int.toNat_natCast] at hr
 have hc : (madeCells (Value.agg (Array.replicate 64 (.int .u8 0))).cells (n * 64)) = (flat (List.replicate n zeros)).toArray := by
   apply Array.ext'
   rw [show (Value.agg (Array.replicate 64 (.int .u8 0))).cells = Array.replicate 64 (.int .u8 0) from rfl, madeCells_zeros _ _ (by omega), flat_zeros]
 rw [hc] at hr
 have hblk := Blk.alloc w 73 (flat (List.replicate n zeros)).toArray
 generalize hW : w.alloc (.cells (flat (List.replicate n zeros)).toArray 73) = W at hr hblk
 have hbel : Below w.heap.size w W := by rw [← hW]; exact (Below.refl _ _).alloc (Nat.le_refl _) _
 have hz : W.heap.size = w.heap.size + 1 := by rw [← hW]; simp
 clear hW hc hi hz0 hz1 hz2
 have HB := Lib.hid hbel
 have HZ := Lib.hid hz
 have HK := Lib.hid hblk
 clear hbel hz hblk
 have h0 : (0 : Int) ≤ n := by omega
 have h1 : (n : Int) ≤ 1048576 := by omega
 go_enter Tryd.func8, Tryd.ntmps8
 go_wp2
 go_ret
 refine ⟨_, rfl, _, Nat.le_refl _, ⟨?_, ?_, World.ownsRow_nil _ _ _ _, by rw [HZ.out]; omega, ?_, by simp, by simpa using hn, by omega, by omega⟩, HB.out.alloc (by rw [HZ.out]; omega) _⟩
 · rw [List.length_replicate]
   exact Head.ofBlk (Blk.alloc _ _ _)
 · exact HK.out.keep (Keep.alloc (fun _ => False) _ _) (fun h => h)
 · intro s hs
   rw [List.eq_of_mem_replicate hs]
   exact Sec.zeros

theorem infoSec : (Tryd.prog.info? 73).map (·.size) = some 64 := by kernel_rfl
theorem sec_get {secs : List (List Int)} (h : ∀ s ∈ secs, Sec s) {i : Nat} (hi : i < secs.length) : Sec (secs.getD i []) := by
 have : secs.getD i [] = secs[i] := by simp [List.getD, hi]
 rw [this]; exact h _ (List.getElem_mem hi)
theorem IsDisk.range {w : World} {B S : Nat} {vu : Value} {secs : List (List Int)} {uns : List Un} {l : Int} (h : IsDisk w B S vu secs uns l) {i : Nat} (hi : i < secs.length) : w.rangeAt S (i * 64) (B8 (secs.getD i [])) :=
 h.sec.range (i * 64) _ (fun j hj => parts_at B8 64 secs i j [] (fun s hs => by rw [B8_len]; exact (h.secs_ok s hs).1) hi (by rw [B8_len, (sec_get h.secs_ok hi).1] at hj; exact hj))

set_option maxRecDepth 100000 in
theorem read_disk {w : World} {B S : Nat} {vu : Value} {secs : List (List Int)} {uns : List Un} {l : Int} (h : IsDisk w B S vu secs uns l) (i : Nat) (hi : i < secs.length) :
   Calls Tryd.prog 57 #[.pointer (some ⟨B, 0, none⟩), .int .i64 i] w fun e w' => ∃ u, e = .returned u ∧ w'.ownsRow w.heap.size 5 1 u 64 (B8 (secs.getD i [])) ∧ Below w.heap.size w w' := by
 have hr := h.range hi
 have hs := sec_get h.secs_ok hi
 have hm := h.many
 obtain ⟨h0, h1, h2, h3, h4, h5⟩ := id h.head
 have HR := Lib.hid hr
 have hi0 : (0 : Int) ≤ i := by omega
 have hi1 : (i : Int) < secs.length := by omega
 generalize secs.getD i [] = s at HR hs
 clear hr
 have hlen : (B8 s).length = 64 := by rw [B8_len]; exact hs.1
 have hi9 : (Tryd.prog.info? 73).map (·.size) = some (B8 s).length := by rw [hlen]; exact infoSec
 have HL := Lib.hid hlen
 have HI := Lib.hid hi9
 clear hi9
 have HS := Lib.hid hs
 clear hlen hs
 go_enter Tryd.func57, Tryd.ntmps57
 go_wp2_with fail
 refine (diskhas_any B _ secs.length secs.length vu l i w h.head).mono ?_
 rintro e w' ⟨rfl, rfl⟩
 clear h1
 go_wp2_with (first | ((with_reducible refine wpList_loadM (.tmp 15) S (i * 64) (B8 s) _ HR.out Tryd.underlying73 rfl ?_ ?_ ?_); exact HI.out; exact rfl) | ((with_reducible refine wpList_storeN (.tmp 5) (.tmp 16) (B8 s) (B8_one s) ?_ ?_ ?_ ?_ ?_); exact HI.out; exact rfl; exact rfl; exact HL.out; intro w1 hb1 hbl1 hz1; have HZ1 := Lib.hid hz1; clear hz1; have hn1 := hb1.nums 0 64 s 64 HS.out.1.symm (fun j hj => by rw [Nat.zero_add]); have HN1 := Lib.hid hn1; clear hn1) | (at_builtin; (refine wpList_appN rfl _ _ 24 rfl w.heap.size 5 .u8 1 Tryd.underlying24 info_u8 (by omega) _ 0 [] rfl (World.ownsRow_nil _ _ _ _) _ s rfl HN1.out (by rw [HS.out.1]; omega) (by rw [HZ1.out]; omega) ?_); intro v2 w2 hown2 hb2; rw [HS.out.1, Nat.zero_add, List.nil_append] at hown2; have HO := Lib.hid hown2; have HB := Lib.hid (hbl1.trans hb2); clear hown2 hb2))
 go_ret
 exact ⟨_, rfl, HO.out, HB.out⟩
end Go.Proofs.YtogjhjiapinmcaaDoor.K
end
section
namespace Go.Proofs.YtogjhjiapinmcaaDoor.K
open Go.ChangeShapes Go.WideShapes Go.ChangeAt Go.RowKit
set_option linter.unusedVariables false

section
variable {P : Program} {ops : Array Oper} {Q : Exit → Act → World → Prop} {md : Region.Mode} {S : World → Prop} {e : Nat}

def Closed (md : Region.Mode) (ops : Array Oper) (L : Array Bool) : Prop :=
 L.size = ops.size ∧ ∀ j oj, ops[j]? = some oj → L.getD j false = true → ∀ ed ∈ oj.after, Region.binds md ed = true → L.getD ed.on false = true
def closedB (md : Region.Mode) (ops : Array Oper) (L : Array Bool) : Bool :=
 decide (L.size = ops.size) && (List.range ops.size).all fun j => !(L.getD j false) || match ops[j]? with
   | some oj => oj.after.all fun ed => !(Region.binds md ed) || L.getD ed.on false
   | none => true
theorem closedB_spec {L : Array Bool} (h : closedB md ops L = true) : Closed md ops L := by
 unfold closedB at h
 simp only [Bool.and_eq_true, decide_eq_true_eq] at h
 refine ⟨h.1, fun j oj hj hl ed hed hb => ?_⟩
 have hjs : j < ops.size := (Array.getElem?_eq_some_iff.1 hj).1
 have h1 := List.all_eq_true.1 h.2 j (List.mem_range.2 hjs)
 rw [hl, hj] at h1
 simp only [Bool.not_true, Bool.false_or] at h1
 have h2 := (Array.all_eq_true_iff_forall_mem.1 h1) ed hed
 rw [hb] at h2
 simpa using h2
theorem Closed.set {L : Array Bool} (hc : Closed md ops L) {j : Nat} (hj : j ∈ Region.ready md ops L) : Closed md ops (L.setIfInBounds j true) := by
 obtain ⟨_, oi, hoi, hall⟩ := mem_ready.1 hj
 refine ⟨by simp [hc.1], fun k ok hk hl ed hed hb => ?_⟩
 by_cases hjk : j = k
 · subst hjk
   have : ok = oi := Option.some.inj (hk.symm.trans hoi)
   subst this
   exact getD_set_true (hall ed hed hb)
 · rw [getD_set_ne false hjk] at hl
   exact getD_set_true (hc.2 k ok hk hl ed hed hb)
def reach (md : Region.Mode) (ops : Array Oper) : Nat → Nat → Nat → Bool
 | 0, k, i => k == i
 | f + 1, k, i => k == i || match ops[k]? with
   | some o => o.after.any fun ed => Region.binds md ed && reach md ops f ed.on i
   | none => false
theorem reach_listed {L : Array Bool} (hc : Closed md ops L) {i : Nat} : ∀ (f k : Nat), reach md ops f k i = true → L.getD k false = true → L.getD i false = true
 | 0, k, h, hl => by
   have : k = i := by simpa [reach] using h
   subst this; exact hl
 | f + 1, k, h, hl => by
   rw [reach, Bool.or_eq_true] at h
   rcases h with h | h
   · have : k = i := by simpa using h
     subst this; exact hl
   · cases hk : ops[k]? with
     | none => rw [hk] at h; simp at h
     | some o =>
       rw [hk] at h
       obtain ⟨ed, hed, hb⟩ := Array.any_eq_true'.1 h
       simp only [Bool.and_eq_true] at hb
       exact reach_listed hc f ed.on hb.2 (hc.2 k o hk hl ed hed hb.1)

def wpAnyE (P : Program) (md : Region.Mode) (ops : Array Oper) (Q : Exit → Act → World → Prop) (e : Nat) (S : World → Prop) : Nat → Array Bool → Act → World → Prop
 | 0, listed, a, w => Region.ready md ops listed = [] ∧ Q .normal a w
 | fuel + 1, listed, a, w =>
   (Region.ready md ops listed = [] → Q .normal a w) ∧
   ∀ i ∈ Region.ready md ops listed, wpOp P ops Q i (fun a' w' => ((listed.setIfInBounds i true).getD e false = false → S w') ∧ wpAnyE P md ops Q e S fuel (listed.setIfInBounds i true) a' w') a w
theorem wpAny_of_stage : ∀ (fuel : Nat) (listed : Array Bool) (a : Act) (w : World), wpAnyE P md ops Q e S fuel listed a w → wpAny P md ops Q fuel listed a w
 | 0, _, _, _, h => h
 | fuel + 1, _, _, _, h => ⟨h.1, fun i hi => wpOp_mono (fun a' w' h' => wpAny_of_stage fuel _ a' w' h'.2) (h.2 i hi)⟩

theorem wpAnyE_first {i f : Nat} {oi : Oper} {v : Value} (hi : ops[i]? = some oi) (hsel : ∀ (j : Nat) (o : Oper) cs b, ops[j]? = some o → o.op ≠ .select cs b)
   (hQ : ∀ c a w, Q (.panic c) (a.put oi.dst v) w → Q (.panic c) a w) (hreach : reach md ops f e i = true) (hei : i ≠ e) :
   ∀ (fuel : Nat) (listed : Array Bool) (a : Act) (w : World), Closed md ops listed →
     (∀ j oj, ops[j]? = some oj → j ≠ i → listed.getD j true = false → (∀ ed ∈ oj.after, Region.binds md ed = true → ed.on ≠ i) → oi.apart ops oj = true) →
     i ∈ Region.ready md ops listed → YieldsIf P ops S oi v a → S w →
     wpAnyE P md ops Q e S fuel (listed.setIfInBounds i true) (a.put oi.dst v) w → wpAnyE P md ops Q e S (fuel + 1) listed a w := by
 intro fuel
 induction fuel with
 | zero =>
   intro listed a w hc _ hr hy hS H
   refine ⟨fun h => (by rw [h] at hr; cases hr), fun j hj => ?_⟩
   by_cases hji : j = i
   · subst hji; exact hy.wpOp hi hS ⟨fun _ => hS, H⟩
   · have := ready_mono hj hji
     rw [H.1] at this
     cases this
 | succ fuel ih =>
   intro listed a w hc hfree hr hy hS H
   refine ⟨fun h => (by rw [h] at hr; cases hr), fun j hj => ?_⟩
   by_cases hji : j = i
   · subst hji; exact hy.wpOp hi hS ⟨fun _ => hS, H⟩
   · have h1 := H.2 j (ready_mono hj hji)
     obtain ⟨hjun, oj, hoj, hall⟩ := mem_ready.1 hj
     have hnot : ∀ ed ∈ oj.after, Region.binds md ed = true → ed.on ≠ i := fun ed he hb heq => by
       have h1 := hall ed he hb
       have h0 := (mem_ready.1 hr).1
       rw [heq, getD_both h0] at h1
       cases h1
     have h2 := wpOp_putIf hoj (hfree j oj hoj hji hjun hnot) (fun cs b => hsel i oi cs b hi) (fun cs b => hsel j oj cs b hoj) hQ hy h1
     have hfree' : ∀ k ok, ops[k]? = some ok → k ≠ i → (listed.setIfInBounds j true).getD k true = false →
         (∀ ed ∈ ok.after, Region.binds md ed = true → ed.on ≠ i) → oi.apart ops ok = true := fun k ok hk hki hun hno => by
       refine hfree k ok hk hki ?_ hno
       by_cases hjk : j = k
       · subst hjk; exact hjun
       · rw [getD_set_ne true hjk] at hun; exact hun
     have hc' := hc.set hj
     have hr' := ready_mono hr (Ne.symm hji)
     have hen : (listed.setIfInBounds j true).getD e false = false := by
       cases hq : (listed.setIfInBounds j true).getD e false with
       | false => rfl
       | true =>
         have := reach_listed hc' f e hreach hq
         rw [getD_both (mem_ready.1 hr').1] at this
         cases this
     refine wpOp_mono (fun a' w' h3 => ?_) h2
     have hS' : S w' := h3.2.1 (by rw [Array.setIfInBounds_comm _ _ (Ne.symm hji), getD_set_ne false hei]; exact hen)
     refine ⟨fun _ => hS', ih (listed.setIfInBounds j true) a' w' hc' hfree' hr' h3.1 hS' ?_⟩
     rw [Array.setIfInBounds_comm _ _ hji]
     exact h3.2.2

theorem wpAnyE_any {i : Nat} {oi : Oper} {v : Value} (hi : ops[i]? = some oi) (hsel : ∀ (j : Nat) (o : Oper) cs b, ops[j]? = some o → o.op ≠ .select cs b)
   (hQ : ∀ c a w, Q (.panic c) (a.put oi.dst v) w → Q (.panic c) a w) (hei : i ≠ e) :
   ∀ (fuel : Nat) (listed : Array Bool) (a : Act) (w : World),
     (∀ j oj, ops[j]? = some oj → j ≠ i → listed.getD j true = false → (∀ ed ∈ oj.after, Region.binds md ed = true → ed.on ≠ i) → oi.apart ops oj = true) →
     i ∈ Region.ready md ops listed → YieldsIf P ops (fun _ => True) oi v a → (listed.getD e false = false → S w) →
     wpAnyE P md ops Q e S fuel (listed.setIfInBounds i true) (a.put oi.dst v) w → wpAnyE P md ops Q e S (fuel + 1) listed a w := by
 intro fuel
 induction fuel with
 | zero =>
   intro listed a w _ hr hy hS H
   refine ⟨fun h => (by rw [h] at hr; cases hr), fun j hj => ?_⟩
   by_cases hji : j = i
   · subst hji; exact hy.wpOp hi trivial ⟨fun h => hS (by rwa [getD_set_ne false hei] at h), H⟩
   · have := ready_mono hj hji
     rw [H.1] at this
     cases this
 | succ fuel ih =>
   intro listed a w hfree hr hy hS H
   refine ⟨fun h => (by rw [h] at hr; cases hr), fun j hj => ?_⟩
   by_cases hji : j = i
   · subst hji; exact hy.wpOp hi trivial ⟨fun h => hS (by rwa [getD_set_ne false hei] at h), H⟩
   · have h1 := H.2 j (ready_mono hj hji)
     obtain ⟨hjun, oj, hoj, hall⟩ := mem_ready.1 hj
     have hnot : ∀ ed ∈ oj.after, Region.binds md ed = true → ed.on ≠ i := fun ed he hb heq => by
       have h1 := hall ed he hb
       have h0 := (mem_ready.1 hr).1
       rw [heq, getD_both h0] at h1
       cases h1
     have h2 := wpOp_putIf hoj (hfree j oj hoj hji hjun hnot) (fun cs b => hsel i oi cs b hi) (fun cs b => hsel j oj cs b hoj) hQ hy h1
     have hfree' : ∀ k ok, ops[k]? = some ok → k ≠ i → (listed.setIfInBounds j true).getD k true = false →
         (∀ ed ∈ ok.after, Region.binds md ed = true → ed.on ≠ i) → oi.apart ops ok = true := fun k ok hk hki hun hno => by
       refine hfree k ok hk hki ?_ hno
       by_cases hjk : j = k
       · subst hjk; exact hjun
       · rw [getD_set_ne true hjk] at hun; exact hun
     refine wpOp_mono (fun a' w' h3 => ?_) h2
     have hS' : (listed.setIfInBounds j true).getD e false = false → S w' := fun hq => h3.2.1 (by rw [Array.setIfInBounds_comm _ _ (Ne.symm hji), getD_set_ne false hei]; exact hq)
     refine ⟨hS', ih (listed.setIfInBounds j true) a' w' hfree' (ready_mono hr (Ne.symm hji)) h3.1 hS' ?_⟩
     rw [Array.setIfInBounds_comm _ _ hji]
     exact h3.2.2

theorem stepE_read (i f : Nat) (d : Option Tmp) {oi : Oper} {v : Value} {fuel : Nat} {listed : Array Bool} {a : Act} {w : World} (hS : S w) (hi : ops[i]? = some oi) (hd : oi.dst = d)
   (hs : Region.noSelect ops = true) (hf : Region.free md ops listed i = true) (hr : (Region.ready md ops listed).contains i = true)
   (hc : closedB md ops listed = true) (hre : (reach md ops f e i && decide (i ≠ e)) = true)
   (hQ : ∀ c a w, Q (.panic c) (a.put d v) w → Q (.panic c) a w) (hw : Region.wanted oi (yielded ops a.tmps) = true)
   (hy : ∀ W, S W → (execOp a.eval oi).run P W = .ok (.value v) W)
   (h : wpAnyE P md ops Q e S fuel (listed.setIfInBounds i true) (a.put d v) w) : wpAnyE P md ops Q e S (fuel + 1) listed a w := by
 subst hd
 simp only [Bool.and_eq_true, decide_eq_true_eq] at hre
 exact wpAnyE_first hi (Region.noSelect_spec hs) hQ hre.1 hre.2 fuel listed a w (closedB_spec hc) (Region.free_spec hi hf) (by simpa using hr) (.inl ⟨hw, hy⟩) hS h
theorem stepE_any (i : Nat) (d : Option Tmp) {oi : Oper} {v : Value} {fuel : Nat} {listed : Array Bool} {a : Act} {w : World} (hS : listed.getD e false = false → S w) (hi : ops[i]? = some oi) (hd : oi.dst = d)
   (hs : Region.noSelect ops = true) (hf : Region.free md ops listed i = true) (hr : (Region.ready md ops listed).contains i = true) (hei : decide (i ≠ e) = true)
   (hQ : ∀ c a w, Q (.panic c) (a.put d v) w → Q (.panic c) a w) (hw : Region.wanted oi (yielded ops a.tmps) = true)
   (hy : ∀ W, (execOp a.eval oi).run P W = .ok (.value v) W)
   (h : wpAnyE P md ops Q e S fuel (listed.setIfInBounds i true) (a.put d v) w) : wpAnyE P md ops Q e S (fuel + 1) listed a w := by
 subst hd
 exact wpAnyE_any hi (Region.noSelect_spec hs) hQ (of_decide_eq_true hei) fuel listed a w (Region.free_spec hi hf) (by simpa using hr) (.inl ⟨hw, fun W _ => hy W⟩) hS h
theorem stepE_skip (i : Nat) (d : Option Tmp) {oi : Oper} {fuel : Nat} {listed : Array Bool} {a : Act} {w : World} (hS : listed.getD e false = false → S w) (hi : ops[i]? = some oi) (hd : oi.dst = d)
   (hs : Region.noSelect ops = true) (hf : Region.free md ops listed i = true) (hr : (Region.ready md ops listed).contains i = true) (hei : decide (i ≠ e) = true)
   (hQ : ∀ c a w, Q (.panic c) (a.put d undef) w → Q (.panic c) a w) (hw : Region.wanted oi (yielded ops a.tmps) = false)
   (h : wpAnyE P md ops Q e S fuel (listed.setIfInBounds i true) (a.put d undef) w) : wpAnyE P md ops Q e S (fuel + 1) listed a w := by
 subst hd
 exact wpAnyE_any hi (Region.noSelect_spec hs) hQ (of_decide_eq_true hei) fuel listed a w (Region.free_spec hi hf) (by simpa using hr) (.inr ⟨hw, rfl⟩) hS h
theorem stepE_only (i : Nat) {o : Oper} {fuel : Nat} {listed : Array Bool} {a : Act} {w : World} (hi : ops[i]? = some o) (hr : Region.ready md ops listed = [i])
   (hw : Region.wanted o (yielded ops a.tmps) = true)
   (h : ∀ K' : Act → World → Prop, (∀ a' w', S w' → wpAnyE P md ops Q e S fuel (listed.setIfInBounds i true) a' w' → K' a' w') → Oper.wp P o a w K' Q) :
   wpAnyE P md ops Q e S (fuel + 1) listed a w := by
 refine ⟨fun h0 => absurd (hr ▸ h0) (by simp), fun j hj => ?_⟩
 rw [hr] at hj
 obtain rfl : j = i := by simpa using hj
 refine wpOp_step hi (fun K' hK => ?_)
 rw [if_pos hw]
 exact h K' (fun a' w' hb hn => hK a' w' ⟨fun _ => hb, hn⟩)
theorem stepE_end (i : Nat) {o : Oper} {fuel : Nat} {listed : Array Bool} {a : Act} {w : World} (hi : ops[i]? = some o) (hr : Region.ready md ops listed = [i])
   (hw : Region.wanted o (yielded ops a.tmps) = true) (hl : (listed.setIfInBounds i true).getD e false = true)
   (h : ∀ K' : Act → World → Prop, (∀ a' w', wpAnyE P md ops Q e S fuel (listed.setIfInBounds i true) a' w' → K' a' w') → Oper.wp P o a w K' Q) :
   wpAnyE P md ops Q e S (fuel + 1) listed a w := by
 refine ⟨fun h0 => absurd (hr ▸ h0) (by simp), fun j hj => ?_⟩
 rw [hr] at hj
 obtain rfl : j = i := by simpa using hj
 refine wpOp_step hi (fun K' hK => ?_)
 rw [if_pos hw]
 exact h K' (fun a' w' hn => hK a' w' ⟨(fun hf => by rw [hl] at hf; cases hf), hn⟩)
theorem wpAnyE_done {listed : Array Bool} {a : Act} {w : World} (hr : Region.ready md ops listed = []) (h : Q .normal a w) : ∀ fuel, wpAnyE P md ops Q e S fuel listed a w
 | 0 => ⟨hr, h⟩
 | _ + 1 => ⟨fun _ => h, by rw [hr]; simp⟩
theorem regionE_begin (e : Nat) (S : World → Prop) {id : Nat} {a : Act} {w : World} (hm : P.follows .mixedOrders = true)
   (h : wpAnyE P .any ops Q e S ops.size (Array.replicate ops.size false) a w.drew) : (Code.region id ops true).wp P Q a w :=
 wp_region_any hm (wpAny_of_stage _ _ _ _ h)
end
end Go.Proofs.YtogjhjiapinmcaaDoor.K
end
section
namespace Go.Proofs.YtogjhjiapinmcaaDoor.K
open Go.ChangeShapes Go.WideShapes Go.ChangeAt Go.RowKit
set_option linter.unusedVariables false

theorem Keep.trans' {bad bad' : Nat → Prop} {a b c : World} (h : Keep bad a b) (k : Keep bad' b c) (hb : ∀ i, i < a.heap.size → bad' i → bad i) : Keep bad a c :=
 ⟨k.1.trans h.1, k.2.1.trans h.2.1, k.2.2.1.trans h.2.2.1, Nat.le_trans h.2.2.2.1 k.2.2.2.1, fun i hi hn => (k.2.2.2.2 i (Nat.lt_of_lt_of_le hi h.2.2.2.1) (fun hh => hn (hb i hi hh))).trans (h.2.2.2.2 i hi hn)⟩
theorem Keep.drew (bad : Nat → Prop) (w : World) : Keep bad w w.drew := ⟨rfl, rfl, rfl, Nat.le_refl _, fun _ _ _ => rfl⟩

theorem run_append_where {P : Program} (w : World) (base : Nat) (t ty e : TypeId) (z : Value) (size bytes : Nat) (ht : P.underlying t = some (.slice e)) (hinf : (P.info? e).map (fun i => (i.zero, i.size, i.bytes)) = some (some z, size, bytes))
   (hzs : z.cells.size = size) (hsz : 0 < size) (v : Value) (n : Nat) (xs : List Value) (hown : w.ownsRow base e size v n xs)
   (a : Addr) (m c : Nat) (news : List Value) (hl : news.length = m * size) (hnews : ∀ j u, news[j]? = some u → w.cell? (a.add j) = some u) (h1 : ∀ u ∈ news, u.oneCell' = true)
   (h63 : n + m ≤ maxLen) (hbytes : (n + m) * bytes ≤ 140737488355328) (hbase : base ≤ w.heap.size) :
   ∃ v' w', (Builtin.append_ #[t, t] ty #[v, .slice (some a) m c]).run P w = .ok v' w' ∧ w'.ownsRow base e size v' (n + m) (xs ++ news) ∧ w.grownBy w' v.ownBlock ∧ (v'.ownBlock = v.ownBlock ∨ v'.ownBlock = some w.heap.size) := by
 obtain ⟨i, hi, hz, hsize, hby⟩ := info_parts hinf
 obtain ⟨v', w', hr, h2, h3, h4⟩ := run_append_own (P := P) w base t ty e i z size bytes ht hi hz hsize hby hzs hsz v n xs hown a m c news hl hnews h1 h63 hbytes hbase
 refine ⟨v', w', hr, h2, h3, ?_⟩
 clear hinf
 subst hsize
 subst hby
 have hsmall : n + m ≤ 9223372036854775807 := by simp only [maxLen] at h63; omega
 rcases hown.2 with ⟨rfl, rfl⟩ | ⟨g, cap, cur, rfl, hbg, hg, hnc, hcm, hcs, htake⟩
 · by_cases hm : m = 0
   · subst hm
     have : v' = .slice none 0 0 := h4.2 ⟨rfl, rfl⟩
     subst this
     exact .inl rfl
   · have h5 := run_append_nil (P := P) w t ty e i z ht hi hz a m c news hl hnews (by omega) (by omega) (by have hb := hbytes; simp only [Nat.zero_add] at hb; omega)
     rw [h5] at hr
     injection hr with e1 e2
     subst e1
     exact .inr rfl
 · by_cases hroom : n + m ≤ cap
   · have hfit : n * i.size + news.length ≤ cur.size := by rw [hl, hcs, ← Nat.add_mul]; exact Nat.mul_le_mul_right _ hroom
     have h5 := run_append_room (P := P) w t ty e i ht hi g n cap cur hg a m c news hl hnews h1 hroom hfit
     rw [h5] at hr
     injection hr with e1 e2
     subst e1
     exact .inl rfl
   · have holds : ∀ j u, xs[j]? = some u → w.cell? ((⟨g, 0, none⟩ : Addr).add j) = some u := hown.cells (g := g) rfl
     have h5 := run_append_grow (P := P) w t ty e i z ht hi hz ⟨g, 0, none⟩ n cap xs hown.1 holds a m c news hl hnews (by omega) (by omega) (growslice_fits (by omega) hbytes)
     rw [h5] at hr
     injection hr with e1 e2
     subst e1
     exact .inr rfl

theorem ownsRow_shape {w : World} {base : Nat} {e : TypeId} {size : Nat} {v : Value} {n : Nat} {xs : List Value} (h : w.ownsRow base e size v n xs) : ∃ p c, v = .slice p n c := by
 rcases h.2 with ⟨rfl, rfl⟩ | ⟨g, cap, cur, rfl, _⟩
 · exact ⟨_, _, rfl⟩
 · exact ⟨_, _, rfl⟩
theorem run_buildSlice1 {P : Program} (w : World) (t e : TypeId) (xs : List Value) (z : Value) (bytes : Nat) (hu : P.underlying t = some (.slice e)) (hi : (P.info? e).map (fun i => (i.zero, i.size, i.bytes)) = some (some z, xs.length, bytes)) (h0 : 0 < xs.length) (h1 : xs.length ≤ 16777216) :
   (Instr.buildSlice t 1 #[(0, .agg xs.toArray)]).run P w = .ok (.slice (some ⟨w.heap.size, 0, none⟩) 1 1) (w.alloc (.cells xs.toArray e)) := by
 obtain ⟨ie, hie, hz, hs, _⟩ := info_parts hi
 refine run_buildSlice w t e 1 _ xs.toArray ie z hu hie hz (by rw [hs]; omega) (by rw [hs]; omega) ?_
 rw [hs]
 have hsz : ((Array.range (1 * xs.length)).map (z.cells[· % z.cells.size]!)).toList.length = xs.length := by simp
 have := fill_agg (fun i => some (i * xs.length, xs.length)) ((Array.range (1 * xs.length)).map (z.cells[· % z.cells.size]!)).toList 0 0 xs [] (by simp) (by rw [hsz]; omega)
 rw [Array.toArray_toList] at this
 rw [show (#[(0, Value.agg xs.toArray)] : Array (Nat × Value)).toList = [(0, Value.agg xs.toArray)] from rfl, this, Instr.fill, List.take_zero, List.drop_of_length_le (by rw [hsz]; omega)]
 simp

theorem exec_load {P : Program} {ev : Operand → Value} {o : Oper} {W : World} (ty : TypeId) (x : Operand) (ho : o.op = .load ty x) (b off : Nat) (hx : ev x = .pointer (some ⟨b, off, none⟩)) (cs : List Value) (td : TypeDesc) (hc : W.rangeAt b off cs)
   (hu : P.underlying ty = some td) (hd : td.isRow = true) (hi : (P.info? ty).map (·.size) = some cs.length) : (execOp ev o).run P W = .ok (.value (.agg cs.toArray)) W := by
 unfold execOp
 simp only [ho, hx, Instr.loadAt, Instr.sureAddr, Sem.run_bind, Sem.run_pure, Result.andThen_ok, run_loadVar_mid W b off ty cs td hc hu hd hi]

section
variable {P : Program} {ops : Array Oper} {rest : List Oper} {a : Act} {w : World} {Q : Exit → Act → World → Prop} {K : Act → World → Prop}
theorem wp_buildS1 {o : Oper} (t e : TypeId) (x : Operand) (ho : o.op = .buildSlice t 1 #[(0, x)]) (xs : List Value) (z : Value) (bytes : Nat) (hu : P.underlying t = some (.slice e)) (hi : (P.info? e).map (fun i => (i.zero, i.size, i.bytes)) = some (some z, xs.length, bytes)) (h0 : 0 < xs.length) (h1 : xs.length ≤ 16777216)
   (hx : a.eval x = .agg xs.toArray) (h : K (a.put o.dst (.slice (some ⟨w.heap.size, 0, none⟩) 1 1)) (w.alloc (.cells xs.toArray e))) : o.wp P a w K Q := by
 unfold Oper.wp execOp
 have hp : ((#[(0, x)] : Array (Nat × Operand)).map fun (i, x) => (i, a.eval x)) = #[(0, .agg xs.toArray)] := by simp [hx]
 simp only [ho, hp, Sem.run_bind, run_buildSlice1 w t e xs z bytes hu hi h0 h1, Result.andThen_ok]
 exact h
theorem wp_appW {o : Oper} (s x : Operand) (t : TypeId) (ho : o.op = .call { callee := .builtin .append, args := #[s, x], argTypes := #[t, t] })
   (base : Nat) (e : TypeId) (z : Value) (size bytes : Nat) (ht : P.underlying t = some (.slice e)) (hi : (P.info? e).map (fun i => (i.zero, i.size, i.bytes)) = some (some z, size, bytes)) (hzs : z.cells.size = size) (hsz : 0 < size)
   (v : Value) (n : Nat) (xs : List Value) (hown : w.ownsRow base e size v n xs) (ad : Addr) (m c : Nat) (news : List Value) (hl : news.length = m * size) (hnews : ∀ j u, news[j]? = some u → w.cell? (ad.add j) = some u) (h1 : ∀ u ∈ news, u.oneCell' = true)
   (h63 : n + m ≤ maxLen) (hbytes : (n + m) * bytes ≤ 140737488355328) (hbase : base ≤ w.heap.size) (hs : a.eval s = v) (hx : a.eval x = .slice (some ad) m c)
   (h : ∀ v' w', w'.ownsRow base e size v' (n + m) (xs ++ news) → w.grownBy w' v.ownBlock → (v'.ownBlock = v.ownBlock ∨ v'.ownBlock = some w.heap.size) → K (a.put o.dst v') w') : o.wp P a w K Q := by
 obtain ⟨v', w', hr, h2, h3, h4⟩ := run_append_where (P := P) w base t o.type e z size bytes ht hi hzs hsz v n xs hown ad m c news hl hnews h1 h63 hbytes hbase
 unfold Oper.wp execOp
 simp only [ho, resolve, invoke, builtin, Sem.run_bind, Sem.run_pure, Result.andThen_ok, List.map_toArray, List.map_cons, List.map_nil, hs, hx, hr]
 exact h v' w' h2 h3 h4
theorem wpList_buildS1 {d : Option Tmp} {tt : TypeId} {pos : String} {af : Array Edge} (t e : TypeId) (x : Operand) (xs : List Value) (z : Value) (bytes : Nat) (hu : P.underlying t = some (.slice e)) (hi : (P.info? e).map (fun i => (i.zero, i.size, i.bytes)) = some (some z, xs.length, bytes)) (h0 : 0 < xs.length) (h1 : xs.length ≤ 16777216)
   (hx : a.eval x = .agg xs.toArray) (h : wpList P ops Q rest (a.put d (.slice (some ⟨w.heap.size, 0, none⟩) 1 1)) (w.alloc (.cells xs.toArray e))) : wpList P ops Q (⟨d, .buildSlice t 1 #[(0, x)], tt, pos, af, none⟩ :: rest) a w :=
 wpList_plain rfl fun _ hK => wp_buildS1 t e x rfl xs z bytes hu hi h0 h1 hx (hK _ _ h)
theorem wpList_appW {d : Option Tmp} {tt : TypeId} {pos : String} {af : Array Edge} (s x : Operand) (t : TypeId)
   (base : Nat) (e : TypeId) (z : Value) (size bytes : Nat) (ht : P.underlying t = some (.slice e)) (hi : (P.info? e).map (fun i => (i.zero, i.size, i.bytes)) = some (some z, size, bytes)) (hzs : z.cells.size = size) (hsz : 0 < size)
   (v : Value) (n : Nat) (xs : List Value) (hown : w.ownsRow base e size v n xs) (ad : Addr) (m c : Nat) (news : List Value) (hl : news.length = m * size) (hnews : ∀ j u, news[j]? = some u → w.cell? (ad.add j) = some u) (h1 : ∀ u ∈ news, u.oneCell' = true)
   (h63 : n + m ≤ maxLen) (hbytes : (n + m) * bytes ≤ 140737488355328) (hbase : base ≤ w.heap.size) (hs : a.eval s = v) (hx : a.eval x = .slice (some ad) m c)
   (h : ∀ v' w', w'.ownsRow base e size v' (n + m) (xs ++ news) → w.grownBy w' v.ownBlock → (v'.ownBlock = v.ownBlock ∨ v'.ownBlock = some w.heap.size) → wpList P ops Q rest (a.put d v') w') :
   wpList P ops Q (⟨d, .call { callee := .builtin .append, args := #[s, x], argTypes := #[t, t] }, tt, pos, af, none⟩ :: rest) a w :=
 wpList_plain rfl fun _ hK => wp_appW s x t rfl base e z size bytes ht hi hzs hsz v n xs hown ad m c news hl hnews h1 h63 hbytes hbase hs hx (fun v' w' h1 h2 h3 => hK _ _ (h v' w' h1 h2 h3))
end
end Go.Proofs.YtogjhjiapinmcaaDoor.K
end
section
namespace Go.Proofs.YtogjhjiapinmcaaDoor.K
open Go.ChangeShapes Go.WideShapes Go.ChangeAt Go.RowKit
set_option linter.unusedVariables false

def pad (b : List Int) : List Int := b ++ List.replicate (64 - b.length) 0
theorem pad_ok {b : List Int} (hb : b.length ≤ 64) (h : ∀ x ∈ b, 0 ≤ x ∧ x ≤ 255) : Sec (pad b) := by
 refine ⟨by unfold pad; rw [List.length_append, List.length_replicate]; omega, fun x hx => ?_⟩
 unfold pad at hx
 rcases List.mem_append.1 hx with hx | hx
 · exact h x hx
 · rw [List.eq_of_mem_replicate hx]; omega

def zeroWrite : List Value := .int .i64 0 :: (B8 zeros ++ B8 zeros)
theorem built_write (parts : List (Nat × Value)) : Tryd.prog.built 75 parts = Instr.fill (fun k => (#[(0, 1), (1, 64), (65, 64)] : Array (Nat × Nat))[k]?) zeroWrite.toArray parts := by kernel_rfl
theorem infoWrite : (Tryd.prog.info? 75).map (fun i => (i.zero, i.size, i.bytes)) = some (some (.agg zeroWrite.toArray), 129, 136) := by kernel_rfl
theorem zeroWr : (Tryd.prog.info? 75).bind (·.zero) = some (.agg zeroWrite.toArray) := by kernel_rfl
theorem infoWr : (Tryd.prog.info? 75).map (·.size) = some 129 := by kernel_rfl
theorem fill_int (place : Nat → Option (Nat × Nat)) (cells : List Value) (i off : Nat) (v : Value) (hv : v.cells = #[v]) (rest : List (Nat × Value)) (hp : place i = some (off, 1)) (hf : off < cells.length) :
   Instr.fill place cells.toArray ((i, v) :: rest) = Instr.fill place (cells.set off v).toArray rest := by
 have n1 : ¬ cells.length < off + 1 := by omega
 rw [Instr.fill, hp, hv]
 simp [n1]
theorem write_cells (i : Nat) (s : List Int) (hs : s.length = 64) : Tryd.prog.built 75 [(0, .int .i64 i), (1, .agg (B8 s).toArray)] = some (Un.cells ⟨i, s, zeros⟩).toArray := by
 rw [built_write, fill_int _ _ 0 0 _ rfl _ rfl (by simp [zeroWrite]), fill_agg _ _ 1 1 (B8 s) [] (by rw [B8_len, hs]; rfl) (by simp [zeroWrite, hs, zeros]), Instr.fill, B8_len, hs]
 simp only [zeroWrite, List.set_cons_zero, List.take_succ_cons, List.take_zero, Un.cells, List.drop_succ_cons]
 have : (B8 zeros ++ B8 zeros).drop 64 = B8 zeros := by
   have := List.drop_left (l₁ := B8 zeros) (l₂ := B8 zeros)
   rwa [show (B8 zeros).length = 64 from rfl] at this
 show some ([Value.int .i64 (i : Int)] ++ B8 s ++ (B8 zeros ++ B8 zeros).drop 64).toArray = _
 rw [this]
 rfl
theorem un_copy (i : Nat) (s b : List Int) (hs : s.length = 64) (hb : b.length ≤ 64) : (Un.cells ⟨i, s, zeros⟩).take 65 ++ B8 b ++ (Un.cells ⟨i, s, zeros⟩).drop (65 + b.length) = Un.cells ⟨i, s, pad b⟩ := by
 have h1 : (Un.cells ⟨i, s, zeros⟩) = (Value.int .i64 i :: B8 s) ++ B8 zeros := rfl
 have hl : (Value.int .i64 i :: B8 s).length = 65 := by rw [List.length_cons, B8_len, hs]
 rw [h1, ← hl, List.take_left, List.drop_length_add_append]
 have h2 : (B8 zeros).drop b.length = B8 (List.replicate (64 - b.length) 0) := by
   rw [← B8_drop]; unfold zeros; rw [List.drop_replicate]
 rw [h2]
 unfold Un.cells pad
 rw [B8_append]
 simp

set_option maxRecDepth 100000 in
set_option maxHeartbeats 1000000 in
theorem write_live {w : World} {B S : Nat} {vu : Value} {secs : List (List Int)} {uns : List Un} {l : Int} (h : IsDisk w B S vu secs uns l) (i : Nat) (hi : i < secs.length) (u : Value) (b : List Int)
   (hu : NumsOff (Mine B S vu) w u b) (hb : b.length ≤ 64) (hby : ∀ x ∈ b, 0 ≤ x ∧ x ≤ 255) (hl : (l != 0) = true) (hn : uns.length ≤ 1000000000) :
   Calls Tryd.prog 18 #[.pointer (some ⟨B, 0, none⟩), .int .i64 i, u] w fun e w' => e = .returned (.int .i64 0) ∧ ∃ vu', IsDisk w' B S vu' (secs.set i (pad b)) (uns ++ [⟨i, secs.getD i [], pad b⟩]) (less l) ∧ Keep (Mine B S vu) w w' ∧ (vu'.ownBlock = vu.ownBlock ∨ ∀ k, vu'.ownBlock = some k → w.heap.size ≤ k) := by
 have hs := sec_get h.secs_ok hi
 have hm := h.many
 have hi0 : (0 : Int) ≤ i := by omega
 have hi1 : (i : Int) < secs.length := by omega
 have hb1 : ¬ (64 : Int) < b.length := by omega
 obtain ⟨p, c, rfl, hp⟩ := id hu
 have HU0 := Lib.hid hu
 have HS := Lib.hid hs
 have HB := Lib.hid hb
 have HBY := Lib.hid hby
 have HH := Lib.hid h
 clear hs hb hby hp hu
 have HL := Lib.hid hl
 clear hl
 go_enter Tryd.func18, Tryd.ntmps18
 go_wp2_with fail
 refine (diskhas_any B _ secs.length secs.length vu l i w HH.out.head).mono ?_
 rintro e w' ⟨rfl, rfl⟩
 go_wp2_with fail
 refine (spend_disk HH.out).mono ?_
 rintro e w1 ⟨rfl, h1, hk1⟩
 rw [HL.out]
 have hr := h1.range hi
 have HR := Lib.hid hr
 clear hr
 generalize hsi : secs.getD i [] = s at HR HS
 have HSI := Lib.hid hsi
 clear hsi
 have hi9 : (Tryd.prog.info? 73).map (·.size) = some (B8 s).length := by rw [B8_len, HS.out.1]; exact infoSec
 have HI := Lib.hid hi9
 clear hi9
 have h10 := h1.head.1
 have H1 := Lib.hid h1
 have HK1 := Lib.hid hk1
 clear h1 hk1
 have hBW : B < w1.heap.size := H1.out.head.lt
 have hSW : S < w1.heap.size := H1.out.sec.lt
 have nu1 : IsNums .u8 w1 (.slice p b.length c) b := (HU0.out.keep HK1.out (fun k e => .inl e)).nums
 have NU1 := Lib.hid nu1
 clear nu1
 have hnew : (Un.cells ⟨i, s, zeros⟩).length = 129 := by unfold Un.cells; rw [List.length_cons, List.length_append, B8_len, B8_len, HS.out.1]; rfl
 have hnewi : (Tryd.prog.info? 75).map (·.size) = some (Un.cells ⟨i, s, zeros⟩).length := by rw [hnew]; exact infoWr
 have hwc := write_cells i s HS.out.1
 have HWC := Lib.hid hwc
 clear hwc
 have HN := Lib.hid hnew
 have HNI := Lib.hid hnewi
 clear hnew hnewi
 go_wp2_with (first | ((with_reducible refine wpList_loadM (.tmp 24) S (i * 64) (B8 s) _ HR.out Tryd.underlying73 rfl ?_ ?_ ?_); exact HI.out; exact rfl) | ((with_reducible refine wpList_buildM _ (Un.cells ⟨i, s, zeros⟩) _ HWC.out ?_ ?_); exact rfl) | ((with_reducible refine wpList_allocM zeroWrite ?_ ?_); exact zeroWr) | ((with_reducible refine wpList_storeN (.tmp 7) (.tmp 26) (Un.cells ⟨i, s, zeros⟩) (Un.cells_one _) ?_ ?_ ?_ ?_ ?_); exact HNI.out; exact rfl; exact rfl; exact HN.out; intro w2 hb2 hbl2 hz2; have HZ2 := Lib.hid hz2; have HB2 := Lib.hid hb2; have HBL2 := Lib.hid hbl2; clear hz2 hb2 hbl2; have nu2 := NU1.out.below HBL2.out (Nat.le_refl _); have NU2 := Lib.hid nu2; clear nu2) | ((with_reducible refine wpList_copyB HB2.out _ _ _ _ 65 64 64 _ b NU2.out HB.out ?_ 5 Tryd.underlying24 ?_ ?_ ?_ ?_); have := HB.out; rw [HN.out]; omega; kernel_rfl; exact rfl; exact rfl; intro w3 hb3 hk3; rw [un_copy i s b HS.out.1 HB.out] at hb3; have HB3 := Lib.hid hb3; have HK3 := Lib.hid (hk3 (fun k => k = w1.heap.size) rfl); clear hb3 hk3))
 try simp only [Act.put, List.setIfInBounds_toArray, List.set_cons_zero, List.set_cons_succ]
 have hd3 : IsDisk w3 B S vu secs uns (less l) := (H1.out.later HBL2.out).keep HK3.out (fun k hk e => by have := H1.out.mine_lt k hk; omega)
 have hpad : Sec (pad b) := pad_ok HB.out HBY.out
 have HPAD := Lib.hid hpad
 clear hpad
 have hpl : (pad b).length = 64 := HPAD.out.1
 have hl10 : (Un.cells ⟨i, s, pad b⟩).length = 129 := by unfold Un.cells; rw [List.length_cons, List.length_append, B8_len, B8_len, HS.out.1, hpl]
 have HL10 := Lib.hid hl10
 clear hl10
 have hi9 : (Tryd.prog.info? 73).map (·.size) = some (B8 (pad b)).length := by rw [B8_len, hpl]; exact infoSec
 have HI9 := Lib.hid hi9
 clear hi9
 have hf9 : i * 64 + (B8 (pad b)).length ≤ (flat secs).length := by
   have := parts_len B8 64 secs (fun s hs => by rw [B8_len]; exact (H1.out.secs_ok s hs).1)
   unfold flat
   rw [this, B8_len, hpl]
   have : (i + 1) * 64 ≤ secs.length * 64 := Nat.mul_le_mul_right _ hi
   omega
 have HF9 := Lib.hid hf9
 clear hf9
 have hi10 : (Tryd.prog.info? 75).map (·.size) = some (Un.cells ⟨i, s, pad b⟩).length := by rw [HL10.out]; exact infoWr
 have HI10 := Lib.hid hi10
 clear hi10
 have hi11 : (Tryd.prog.info? 75).map (fun i => (i.zero, i.size, i.bytes)) = some (some (.agg zeroWrite.toArray), (Un.cells ⟨i, s, pad b⟩).length, 136) := by rw [HL10.out]; exact infoWrite
 have HI11 := Lib.hid hi11
 clear hi11
 have hr9 : ∀ W, Keep (fun _ => False) w3.drew W → W.rangeAt w1.heap.size 65 (B8 (pad b)) := fun W hW => by
   have hb : Blk W w1.heap.size 75 (Un.cells ⟨i, s, pad b⟩) := Blk.keep (w := w3.drew) HB3.out hW (fun h => h)
   refine hb.range 65 _ (fun j hj => ?_)
   rw [show 65 + j = (64 + j) + 1 by omega]
   show (B8 s ++ B8 (pad b))[64 + j]? = _
   rw [List.getElem?_append_right (by rw [B8_len, HS.out.1]; omega), B8_len, HS.out.1, Nat.add_sub_cancel_left]
 have HR9 := Lib.hid hr9
 clear hr9 hpl
 have HD3 : Hid (IsDisk w3.drew B S vu secs uns (less l)) := Lib.hid (hd3.keep (Keep.drew (fun _ => False) w3) (fun _ _ h => h))
 have hk3 : Keep (fun k => k = B) w w3.drew := (((HK1.out.trans' (Keep.ofBelow (bad := fun _ => False) HBL2.out) (fun _ _ h => h.elim)).trans' HK3.out (fun k hk e => by have := HK1.out.size; omega))).trans (Keep.drew _ _)
 have HKK := Lib.hid hk3
 have hz3 : w1.heap.size < w3.heap.size := HB3.out.lt
 clear hd3 hk3
 refine regionE_begin 8 (fun W => Keep (fun _ => False) w3.drew W) (by kernel_rfl) ?_
 refine stepE_any 0 (some 31) (v := ?va0) (fun _ => Keep.refl _ _) rfl (by rfl) (by kernel_rfl) (by kernel_rfl) (by kernel_rfl) (by decide) (fun _ _ _ h => h) (by rfl) ?ya0 ?na0
 case ya0 => intro W; go_simp; try with_reducible rfl
 try simp only [Act.put, List.setIfInBounds_toArray, List.set_cons_zero, List.set_cons_succ]
 refine stepE_any 1 (some 32) (v := ?va1) (fun _ => Keep.refl _ _) rfl (by rfl) (by kernel_rfl) (by kernel_rfl) (by kernel_rfl) (by decide) (fun _ _ _ h => h) (by rfl) ?ya1 ?na1
 case ya1 => intro W; go_simp; try with_reducible rfl
 try simp only [Act.put, List.setIfInBounds_toArray, List.set_cons_zero, List.set_cons_succ]
 refine stepE_any 2 (some 33) (v := ?va2) (fun _ => Keep.refl _ _) rfl (by rfl) (by kernel_rfl) (by kernel_rfl) (by kernel_rfl) (by decide) (fun _ _ _ h => h) (by rfl) ?ya2 ?na2
 case ya2 => intro W; go_simp; try with_reducible rfl
 try simp only [Act.put, List.setIfInBounds_toArray, List.set_cons_zero, List.set_cons_succ]
 refine stepE_read 3 12 (some 34) (v := ?va3) (Keep.refl _ _) rfl (by rfl) (by kernel_rfl) (by kernel_rfl) (by kernel_rfl) (by kernel_rfl) (by kernel_rfl) (fun _ _ _ h => h) (by rfl) ?ya3 ?na3
 case ya3 => intro W hW; have q := (HD3.out.head.keep hW (fun h => h)).1; go_simp; try with_reducible rfl
 try simp only [Act.put, List.setIfInBounds_toArray, List.set_cons_zero, List.set_cons_succ]
 refine stepE_any 4 (some 35) (v := ?va4) (fun _ => Keep.refl _ _) rfl (by rfl) (by kernel_rfl) (by kernel_rfl) (by kernel_rfl) (by decide) (fun _ _ _ h => h) (by rfl) ?ya4 ?na4
 case ya4 => intro W; go_simp; try with_reducible rfl
 try simp only [Act.put, List.setIfInBounds_toArray, List.set_cons_zero, List.set_cons_succ]
 refine stepE_any 5 (some 36) (v := ?va5) (fun _ => Keep.refl _ _) rfl (by rfl) (by kernel_rfl) (by kernel_rfl) (by kernel_rfl) (by decide) (fun _ _ _ h => h) (by rfl) ?ya5 ?na5
 case ya5 => intro W; go_simp; try with_reducible rfl
 try simp only [Act.put, List.setIfInBounds_toArray, List.set_cons_zero, List.set_cons_succ]
 refine stepE_read 6 12 (some 37) (v := ?va6) (Keep.refl _ _) rfl (by rfl) (by kernel_rfl) (by kernel_rfl) (by kernel_rfl) (by kernel_rfl) (by kernel_rfl) (fun _ _ _ h => h) (by rfl) ?ya6 ?na6
 case ya6 => intro W hW; ((refine exec_load 73 (.tmp 36) ?_ w1.heap.size 65 ?_ (B8 (pad b)) _ (HR9.out W hW) Tryd.underlying73 rfl HI9.out); rfl; rfl)
 try simp only [Act.put, List.setIfInBounds_toArray, List.set_cons_zero, List.set_cons_succ]
 refine stepE_any 7 (some 38) (v := ?va7) (fun _ => Keep.refl _ _) rfl (by rfl) (by kernel_rfl) (by kernel_rfl) (by kernel_rfl) (by decide) (fun _ _ _ h => h) (by rfl) ?ya7 ?na7
 case ya7 => intro W; go_simp; try with_reducible rfl
 try simp only [Act.put, List.setIfInBounds_toArray, List.set_cons_zero, List.set_cons_succ]
 -- 8: store -> None
 refine stepE_end 8 rfl (by kernel_rfl) (by rfl) (by rfl) (fun K' hK => ?_)
 refine wp_store_blk HD3.out.sec 73 (.tmp 38) (.tmp 37) rfl (i * 64) (B8 (pad b)) (by rfl) (by rfl) HF9.out HI9.out (B8_one _) (fun w4 hb4 hk4 => hK _ _ ?_)
 clear hK K'
 try simp only [Act.put, List.setIfInBounds_toArray, List.set_cons_zero, List.set_cons_succ]
 refine wpAnyE_done (by kernel_rfl) ?_ _
 try simp only [Act.put, List.setIfInBounds_toArray, List.set_cons_zero, List.set_cons_succ]
 have hk4' : Keep (fun k => k = S) w3.drew w4 := hk4 _ rfl
 have hd4 : IsDisk w3.drew B S vu secs uns (less l) := HD3.out
 have hb4' : Blk w4 S 73 (flat (secs.set i (pad b))) := by
   have e := flat_head secs i (pad b) s 64 (fun s hs => (HD3.out.secs_ok s hs).1) (by rw [HPAD.out.1]; omega) hi HSI.out
   rw [HPAD.out.1] at e
   rw [B8_len, HPAD.out.1, e] at hb4
   have e2 : pad b ++ List.drop 64 s = pad b := by rw [List.drop_of_length_le (by rw [HS.out.1]; omega), List.append_nil]
   rw [e2] at hb4
   exact hb4
 have hSB := hd4.lt
 have hap := hd4.apart
 have hh4 : Head w4.drew B (.slice (some ⟨S, 0, none⟩) secs.length secs.length) vu (less l) := (hd4.head.keep hk4' (by omega)).keep (Keep.drew (fun _ => False) w4) (fun h => h)
 have HD4 := Lib.hid hh4
 have hrw : (w4.drew.alloc (.cells (Un.cells ⟨i, s, pad b⟩).toArray 75)).ownsRow (B + 1) 75 129 vu uns.length (uns.flatMap Un.cells) :=
   ownsRow_keep (ownsRow_keep (ownsRow_keep hd4.row hk4' (fun k e1 e2 => hap.2 (by rw [e1, e2]))) (Keep.drew (fun _ => False) w4) (fun _ _ h => h)) (Keep.alloc (fun _ => False) _ _) (fun _ _ h => h)
 have HRW := Lib.hid hrw
 have hcw : ∀ j u, (Un.cells ⟨i, s, pad b⟩)[j]? = some u → (w4.drew.alloc (.cells (Un.cells ⟨i, s, pad b⟩).toArray 75)).cell? ((⟨w4.drew.heap.size, 0, none⟩ : Addr).add j) = some u := fun j u hj => by
   rw [Addr.add_lit, Nat.zero_add, (Blk.alloc w4.drew 75 (Un.cells ⟨i, s, pad b⟩).toArray).cell]
   simpa using hj
 have HCW := Lib.hid hcw
 have hb410 : Blk w4 w1.heap.size 75 (Un.cells ⟨i, s, pad b⟩) := Blk.keep (w := w3.drew) HB3.out hk4' (fun e => by omega)
 have hr10 : ∀ W, Keep (fun _ => False) w4.drew W → W.rangeAt w1.heap.size 0 (Un.cells ⟨i, s, pad b⟩) := fun W hW => by
   have hb : Blk W w1.heap.size 75 (Un.cells ⟨i, s, pad b⟩) := Blk.keep (w := w4.drew) hb410 hW (fun h => h)
   exact hb.range 0 _ (fun j hj => by rw [Nat.zero_add])
 have HR10 := Lib.hid hr10
 have hbz : B + 1 ≤ w4.heap.size := by have := hk4'.size; have h2 : w3.drew.heap.size = w3.heap.size := rfl; omega
 have HBZ := Lib.hid hbz
 have hh6 : ∀ w6, (w4.drew.alloc (.cells (Un.cells ⟨i, s, pad b⟩).toArray 75)).grownBy w6 vu.ownBlock → Head w6 B (.slice (some ⟨S, 0, none⟩) secs.length secs.length) vu (less l) := fun w6 hg => by
   refine (hh4.keep (Keep.alloc (fun _ => False) _ _) (fun h => h)).keep (bad := fun k => vu.ownBlock = some k) ⟨hg.os, hg.tape, hg.output, hg.size, fun k hk hn => hg.block k hk (fun e => hn e.symm)⟩ hap.1
 have HH6 := Lib.hid hh6
 have HB4 := Lib.hid hb4'
 have HK4 := Lib.hid hk4'
 have HAP := Lib.hid hap
 clear hh6 hbz hr10 hb410 hcw hrw hh4 hd4 hb4 hb4' hk4 hk4' hap
 go_wp2_with fail
 refine regionE_begin 7 (fun W => Keep (fun _ => False) w4.drew W) (by kernel_rfl) ?_
 refine stepE_any 0 (some 39) (v := ?vb0) (fun _ => Keep.refl _ _) rfl (by rfl) (by kernel_rfl) (by kernel_rfl) (by kernel_rfl) (by decide) (fun _ _ _ h => h) (by rfl) ?yb0 ?nb0
 case yb0 => intro W; go_simp; try with_reducible rfl
 try simp only [Act.put, List.setIfInBounds_toArray, List.set_cons_zero, List.set_cons_succ]
 refine stepE_any 1 (some 40) (v := ?vb1) (fun _ => Keep.refl _ _) rfl (by rfl) (by kernel_rfl) (by kernel_rfl) (by kernel_rfl) (by decide) (fun _ _ _ h => h) (by rfl) ?yb1 ?nb1
 case yb1 => intro W; go_simp; try with_reducible rfl
 try simp only [Act.put, List.setIfInBounds_toArray, List.set_cons_zero, List.set_cons_succ]
 refine stepE_any 2 (some 41) (v := ?vb2) (fun _ => Keep.refl _ _) rfl (by rfl) (by kernel_rfl) (by kernel_rfl) (by kernel_rfl) (by decide) (fun _ _ _ h => h) (by rfl) ?yb2 ?nb2
 case yb2 => intro W; go_simp; try with_reducible rfl
 try simp only [Act.put, List.setIfInBounds_toArray, List.set_cons_zero, List.set_cons_succ]
 refine stepE_any 3 (some 42) (v := ?vb3) (fun _ => Keep.refl _ _) rfl (by rfl) (by kernel_rfl) (by kernel_rfl) (by kernel_rfl) (by decide) (fun _ _ _ h => h) (by rfl) ?yb3 ?nb3
 case yb3 => intro W; go_simp; try with_reducible rfl
 try simp only [Act.put, List.setIfInBounds_toArray, List.set_cons_zero, List.set_cons_succ]
 refine stepE_read 4 12 (some 43) (v := ?vb4) (Keep.refl _ _) rfl (by rfl) (by kernel_rfl) (by kernel_rfl) (by kernel_rfl) (by kernel_rfl) (by kernel_rfl) (fun _ _ _ h => h) (by rfl) ?yb4 ?nb4
 case yb4 => intro W hW; have q := (HD4.out.keep hW (fun h => h)).2.1; go_simp; try with_reducible rfl
 try simp only [Act.put, List.setIfInBounds_toArray, List.set_cons_zero, List.set_cons_succ]
 refine stepE_read 5 12 (some 44) (v := ?vb5) (Keep.refl _ _) rfl (by rfl) (by kernel_rfl) (by kernel_rfl) (by kernel_rfl) (by kernel_rfl) (by kernel_rfl) (fun _ _ _ h => h) (by rfl) ?yb5 ?nb5
 case yb5 => intro W hW; ((refine exec_load 75 (.tmp 7) ?_ w1.heap.size 0 ?_ (Un.cells ⟨i, s, pad b⟩) _ (HR10.out W hW) Tryd.underlying75 rfl HI10.out); rfl; rfl)
 try simp only [Act.put, List.setIfInBounds_toArray, List.set_cons_zero, List.set_cons_succ]
 -- 6: buildSlice -> 45
 refine stepE_only 6 rfl (by kernel_rfl) (by rfl) (fun K' hK => ?_)
 refine wp_buildS1 55 75 (.tmp 44) rfl (Un.cells ⟨i, s, pad b⟩) _ 136 Tryd.underlying55 HI11.out (by rw [HL10.out]; omega) (by rw [HL10.out]; omega) (by rfl) (hK _ _ (Keep.alloc _ _ _) ?_)
 clear hK K'
 try simp only [Act.put, List.setIfInBounds_toArray, List.set_cons_zero, List.set_cons_succ]
 -- 7: builtin:append -> 46
 refine stepE_end 7 rfl (by kernel_rfl) (by rfl) (by rfl) (fun K' hK => ?_)
 refine wp_appW (.tmp 43) (.tmp 45) 55 rfl (B + 1) 75 _ 129 136 Tryd.underlying55 infoWrite rfl (by omega) vu uns.length (uns.flatMap Un.cells) HRW.out ⟨w4.drew.heap.size, 0, none⟩ 1 1 (Un.cells ⟨i, s, pad b⟩) (by rw [HL10.out]) HCW.out (Un.cells_one _) (by unfold maxLen; omega) (by omega) (by have := HBZ.out; simp; omega) (by rfl) (by rfl) (fun v' w6 hown6 hg6 hv6 => hK _ _ ?_)
 have hh6 := HH6.out w6 hg6
 obtain ⟨p6, c6, rfl⟩ := ownsRow_shape hown6
 obtain ⟨-, h61, -, -, h64, -⟩ := id hh6
 have HH7 := Lib.hid hh6
 have HO6 := Lib.hid hown6
 have HG6 := Lib.hid hg6
 have HV6 := Lib.hid hv6
 clear hh6 hown6 hg6 hv6
 clear hK K'
 try simp only [Act.put, List.setIfInBounds_toArray, List.set_cons_zero, List.set_cons_succ]
 refine stepE_any 8 (some 47) (v := ?vb8) (fun h => (Bool.false_ne_true (h.symm.trans (by rfl))).elim) rfl (by rfl) (by kernel_rfl) (by kernel_rfl) (by kernel_rfl) (by decide) (fun _ _ _ h => h) (by rfl) ?yb8 ?nb8
 case yb8 => intro W; go_simp; try with_reducible rfl
 try simp only [Act.put, List.setIfInBounds_toArray, List.set_cons_zero, List.set_cons_succ]
 refine stepE_any 9 (some 48) (v := ?vb9) (fun h => (Bool.false_ne_true (h.symm.trans (by rfl))).elim) rfl (by rfl) (by kernel_rfl) (by kernel_rfl) (by kernel_rfl) (by decide) (fun _ _ _ h => h) (by rfl) ?yb9 ?nb9
 case yb9 => intro W; go_simp; try with_reducible rfl
 try simp only [Act.put, List.setIfInBounds_toArray, List.set_cons_zero, List.set_cons_succ]
 -- 10: store -> None
 refine stepE_end 10 rfl (by kernel_rfl) (by rfl) (by rfl) (fun K' hK => ?_)
 go_simp
 refine hK _ _ ?_
 clear hK K'
 try simp only [Act.put, List.setIfInBounds_toArray, List.set_cons_zero, List.set_cons_succ]
 refine wpAnyE_done (by kernel_rfl) ?_ _
 go_wp2
 go_ret
 have hg6 := HG6.out
 have k56 : Keep (fun k => vu.ownBlock = some k) w4.drew w6 := (Keep.alloc (fun k => vu.ownBlock = some k) w4.drew (.cells (Un.cells ⟨i, s, pad b⟩).toArray 75)).trans ⟨hg6.os, hg6.tape, hg6.output, hg6.size, fun k hk hn => hg6.block k hk (fun e => hn e.symm)⟩
 have k67 : Keep (fun k => k = B) w6 (w6.setCell ⟨B, 1, none⟩ (.slice p6 (uns.length + 1) c6)) := Keep.setCell (bad := fun k => k = B) rfl _
 have hSB := H1.out.lt
 have hap := HAP.out
 have hsz : w.heap.size ≤ w4.drew.heap.size := Nat.le_trans HKK.out.size HK4.out.size
 have hsi : secs.getD i [] = s := HSI.out
 rw [hsi]
 refine ⟨rfl, _, ⟨by rw [List.length_set]; exact HH7.out.setUns _, ?_, ?_, H1.out.lt, ?_, ?_, by rw [List.length_set]; exact hm, H1.out.left0, H1.out.left1⟩, ?_, ?_⟩
 · exact ((Blk.keep (w := w4.drew) HB4.out k56 hap.2).keep k67 (by omega))
 · have h6 := HO6.out
   rw [show (uns ++ [(⟨i, s, pad b⟩ : Un)]).length = uns.length + 1 by simp, show (uns ++ [(⟨i, s, pad b⟩ : Un)]).flatMap Un.cells = uns.flatMap Un.cells ++ Un.cells ⟨i, s, pad b⟩ by simp]
   exact ownsRow_setCell_below h6 (Nat.lt_succ_self B) _
 · intro x hx
   rcases List.mem_or_eq_of_mem_set hx with hx | rfl
   · exact H1.out.secs_ok x hx
   · exact HPAD.out
 · intro x hx
   rw [List.length_set]
   rcases List.mem_append.1 hx with hx | hx
   · exact H1.out.uns_ok x hx
   · obtain rfl : x = ⟨i, s, pad b⟩ := by simpa using hx
     exact ⟨hi, HS.out, HPAD.out⟩
 · refine (((HKK.out.mono (fun k e => .inl e)).trans' (HK4.out.trans (Keep.drew _ _)) (fun k _ e => .inr (.inl e))).trans' k56 (fun k _ e => .inr (.inr e))).trans' k67 (fun k _ e => .inl e)
 · rcases HV6.out with e | e
   · exact .inl e
   · right
     intro k hk
     rw [e] at hk
     injection hk with hk
     have h2 : (w4.drew.alloc (.cells (Un.cells ⟨i, s, pad b⟩).toArray 75)).heap.size = w4.drew.heap.size + 1 := by simp
     omega
end Go.Proofs.YtogjhjiapinmcaaDoor.K
end
section
namespace Go.Proofs.YtogjhjiapinmcaaDoor.K
open Go.ChangeShapes Go.WideShapes Go.ChangeAt Go.RowKit
set_option linter.unusedVariables false

def bit (mask : Int) (k : Nat) : Bool := mask / 2 ^ k % 2 == 1
def keptN (uns : List Un) (mask : Int) : Nat → List Un
 | 0 => []
 | k + 1 => keptN uns mask k ++ if bit mask k then [uns.getD k ⟨0, [], []⟩] else []
theorem keptN_len (uns : List Un) (mask : Int) : ∀ k, (keptN uns mask k).length ≤ k
 | 0 => by simp [keptN]
 | k + 1 => by
   have := keptN_len uns mask k
   rw [keptN, List.length_append]
   split <;> simp <;> omega
theorem keptN_good {uns : List Un} {n : Nat} (h : ∀ u ∈ uns, u.Good n) (mask : Int) : ∀ k, k ≤ uns.length → ∀ u ∈ keptN uns mask k, u.Good n
 | 0, _, u, hu => by simp [keptN] at hu
 | k + 1, hk, u, hu => by
   rw [keptN, List.mem_append] at hu
   rcases hu with hu | hu
   · exact keptN_good h mask k (by omega) u hu
   · split at hu
     · obtain rfl : u = uns.getD k ⟨0, [], []⟩ := by simpa using hu
       have : uns.getD k ⟨0, [], []⟩ = uns[k] := by simp [List.getD, show k < uns.length by omega]
       rw [this]; exact h _ (List.getElem_mem _)
     · simp at hu

theorem u64_and1 (x : Int) (h₀ : 0 ≤ x) (h₁ : x < 18446744073709551616) : bits .and .u64 x 1 = x % 2 := bits_mask .u64 64 (by decide) (fun n h0 h1 => by rw [IntKind.wrap_u64]; omega) 1 (by decide) x h₀ h₁
def KeepPost (w : World) (uns : List Un) (mask : Int) (m : Nat) (e : Ending) (w' : World) : Prop :=
 ∃ v, e = .returned v ∧ w'.ownsRow w.heap.size 75 129 v (keptN uns mask m).length ((keptN uns mask m).flatMap Un.cells) ∧ Below w.heap.size w w'

set_option maxRecDepth 100000 in
set_option maxHeartbeats 1000000 in
theorem keep_any {w : World} {base N : Nat} {vu : Value} {uns : List Un} (hown : w.ownsRow base 75 129 vu uns.length (uns.flatMap Un.cells)) (hg : ∀ u ∈ uns, u.Good N) (mask : Int) (m0 : 0 ≤ mask) (m1 : mask ≤ 18446744073709551615) (hn : uns.length ≤ 1000000000) (m : Nat) (hm : m = min uns.length 64) :
   Calls Tryd.prog 36 #[vu, .int .u64 mask] w (KeepPost w uns mask m) := by
 rcases hown.2 with ⟨rfl, h0⟩ | ⟨g, cap, cur, rfl, hbg, hgg, hle, hcm, hsz, htk⟩
 · obtain rfl := List.length_eq_zero_iff.1 h0
   obtain rfl : m = 0 := by rw [hm]; rfl
   clear hown hg hm
   go_enter Tryd.func36, Tryd.ntmps36
   go_wp2
   go_loopw [5, 14] (fun u i wr => i = .int .i64 0 ∧ u = .slice none 0 0 ∧ Below w.heap.size w wr) (fun _ i _ => 0)
   case atStart => exact ⟨rfl, rfl, Below.refl _ _⟩
   case round =>
     obtain ⟨rfl, rfl, hbel⟩ := hrel
     go_wp2
     go_ret
     exact ⟨_, rfl, World.ownsRow_nil _ _ _ _, hbel⟩
 · have hglt : g < w.heap.size := (Array.getElem?_eq_some_iff.1 hgg).1
   have hrange : ∀ k, k < uns.length → w.rangeAt g (k * 129) (Un.cells (uns.getD k ⟨0, [], []⟩)) := fun k hk j v hv => by
     have hj : j < 129 := by
       have hl := (List.getElem?_eq_some_iff.1 hv).1
       have : (uns.getD k ⟨0, [], []⟩) = uns[k] := by simp [List.getD, hk]
       rw [this, (hg _ (List.getElem_mem hk)).len] at hl
       exact hl
     have := hown.cells (g := g) rfl (k * 129 + j) v (by rw [parts_at Un.cells 129 uns k j ⟨0, [], []⟩ (fun s hs => (hg s hs).len) hk hj]; exact hv)
     rwa [Addr.add_lit, Nat.zero_add] at this
   have HR := Lib.hid hrange
   have HG := Lib.hid hg
   have HRNG := Lib.hid hrange
   clear hown hgg hsz htk hrange hg
   unfold maxLen at hcm
   have hcap : (uns.length : Int) ≤ cap := by omega
   by_cases h64 : uns.length ≤ 64
   · obtain rfl : m = uns.length := by omega
     clear hm
     go_enter Tryd.func36, Tryd.ntmps36
     go_wp2
     go_loopw [5, 14] (fun u i wr => ∃ k : Nat, k ≤ uns.length ∧ i = .int .i64 k ∧ wr.ownsRow w.heap.size 75 129 u (keptN uns mask k).length ((keptN uns mask k).flatMap Un.cells) ∧ Below w.heap.size w wr) (fun _ i _ => uns.length - (intOf i).toNat)
     case atStart => exact ⟨0, Nat.zero_le _, rfl, World.ownsRow_nil _ _ _ _, Below.refl _ _⟩
     case round =>
       obtain ⟨k, hk, rfl, hown, hbel⟩ := hrel
       by_cases hlt : k < uns.length
       · have hrk : wr.rangeAt g (k * 129) (Un.cells (uns.getD k ⟨0, [], []⟩)) := fun j v hv => by
           rw [hbel.cell (by exact hglt)]; exact HR.out k (by omega) j v hv
         have hgk : (uns.getD k ⟨0, [], []⟩).Good N := by
           have : uns.getD k ⟨0, [], []⟩ = uns[k] := by simp [List.getD, show k < uns.length by omega]
           rw [this]; exact HG.out _ (List.getElem_mem _)
         have hst : keptN uns mask (k + 1) = keptN uns mask k ++ if bit mask k then [uns.getD k ⟨0, [], []⟩] else [] := rfl
         have HST := Lib.hid hst
         clear hst
         generalize uns.getD k ⟨0, [], []⟩ = u9 at hrk hgk HST
         have hl9 := hgk.len
         have hi9 : (Tryd.prog.info? 75).map (·.size) = some (Un.cells u9).length := by rw [hl9]; exact infoWr
         have hi8 : (Tryd.prog.info? 75).map (fun i => (i.zero, i.size, i.bytes)) = some (some (.agg zeroWrite.toArray), (Un.cells u9).length, 136) := by rw [hl9]; exact infoWrite
         have HRK := Lib.hid hrk
         have HI9 := Lib.hid hi9
         have HI8 := Lib.hid hi8
         have HL9 := Lib.hid hl9
         have hkl := keptN_len uns mask k
         have hz := hbel.size
         have HO := Lib.hid hown
         have HBL := Lib.hid hbel
         clear hrk hi9 hi8 hl9 hgk hown hbel
         generalize hkk : (keptN uns mask k).length = L9 at HO hkl
         have HKK := Lib.hid hkk
         clear hkk
         have hq0 : 0 ≤ mask / 2 ^ k := Int.ediv_nonneg m0 (by exact Int.le_of_lt (Int.pow_pos (by omega)))
         have hq1 : mask / 2 ^ k < 18446744073709551616 := by
           have h1 : mask / 2 ^ k ≤ mask := Int.ediv_le_self _ m0
           omega
         have hand := u64_and1 (mask / 2 ^ k) hq0 hq1
         have hk64 : (k : Int) ≤ 64 := by omega
         clear hq0 hq1
         cases hb : bit mask k with
         | true =>
           have hc1 : bits .and .u64 (mask / 2 ^ k) 1 = 1 := by rw [hand]; simpa [bit] using hb
           have HBT := Lib.hid hb
           clear hb hand
           go_wp2_with (first | ((with_reducible refine wpList_loadM (.tmp 17) g (k * 129) (Un.cells u9) _ HRK.out Tryd.underlying75 rfl ?_ ?_ ?_); exact HI9.out; exact rfl) | ((with_reducible refine wpList_allocM zeroWrite ?_ ?_); exact zeroWr) | ((with_reducible refine wpList_storeN (.tmp 7) (.tmp 18) (Un.cells u9) (Un.cells_one _) ?_ ?_ ?_ ?_ ?_); exact HI9.out; exact rfl; exact rfl; exact HL9.out; intro w2 hb2 hbl2 hz2; have HZ2 := Lib.hid hz2; have HB2 := Lib.hid hb2; have HBL2 := Lib.hid hbl2; clear hz2 hb2 hbl2; have hr2 := HB2.out.range 0 (Un.cells u9) (fun j hj => by rw [Nat.zero_add]); have HR2 := Lib.hid hr2; clear hr2) | ((with_reducible refine wpList_loadM (.tmp 7) wr.heap.size 0 (Un.cells u9) _ HR2.out Tryd.underlying75 rfl ?_ ?_ ?_); exact HI9.out; exact rfl) | ((with_reducible refine wpList_buildS1 55 75 (.tmp 25) (Un.cells u9) _ 136 Tryd.underlying55 HI8.out ?_ ?_ ?_ ?_); (rw [HL9.out]; omega); (rw [HL9.out]; omega); exact rfl; have how : (w2.alloc (.cells (Un.cells u9).toArray 75)).ownsRow w.heap.size 75 129 u5 L9 ((keptN uns mask k).flatMap Un.cells) := ownsRow_keep (ownsRow_keep HO.out (Keep.ofBelow (bad := fun _ => False) HBL2.out) (fun _ _ h => h)) (Keep.alloc (fun _ => False) _ _) (fun _ _ h => h); have HOW := Lib.hid how; clear how; have hcw : ∀ j u, (Un.cells u9)[j]? = some u → (w2.alloc (.cells (Un.cells u9).toArray 75)).cell? ((⟨w2.heap.size, 0, none⟩ : Addr).add j) = some u := (fun j u hj => by rw [Addr.add_lit, Nat.zero_add, (Blk.alloc w2 75 (Un.cells u9).toArray).cell]; simpa using hj); have HCW := Lib.hid hcw; clear hcw) | ((with_reducible refine wpList_appW (.tmp 24) (.tmp 26) 55 w.heap.size 75 _ 129 136 Tryd.underlying55 infoWrite rfl ?_ u5 L9 _ HOW.out ⟨w2.heap.size, 0, none⟩ 1 1 (Un.cells u9) ?_ HCW.out (Un.cells_one _) ?_ ?_ ?_ ?_ ?_ ?_); omega; exact HL9.out; (unfold maxLen; omega); omega; (have := HZ2.out; simp; omega); exact rfl; exact rfl; intro v6 w6 hown6 hg6 hv6; have HO6 := Lib.hid hown6; have HG6 := Lib.hid hg6; clear hown6 hg6 hv6))
           go_roundw
           case rel =>
             have hst := HST.out
             rw [HBT.out, if_pos rfl] at hst
             refine ⟨k + 1, by omega, by go_num, ?_, ?_⟩
             · rw [hst, List.length_append, HKK.out, List.flatMap_append]
               simpa using HO6.out
             · exact (HBL.out.trans ((HBL2.out.trans ((Below.refl _ w2).alloc (by have := HZ2.out; omega) _)).mono hz)).grown HG6.out (by have := HZ2.out; simp; omega) (fun j hj => (HOW.out.lt j hj).1)
           case measure => simp [intOf]; omega
         | false =>
           have hc1 : bits .and .u64 (mask / 2 ^ k) 1 = 0 := by
             rw [hand]
             have : mask / 2 ^ k % 2 ≠ 1 := by simpa [bit] using hb
             omega
           have HBT := Lib.hid hb
           clear hb hand
           go_wp2_with (first | ((with_reducible refine wpList_loadM (.tmp 17) g (k * 129) (Un.cells u9) _ HRK.out Tryd.underlying75 rfl ?_ ?_ ?_); exact HI9.out; exact rfl) | ((with_reducible refine wpList_allocM zeroWrite ?_ ?_); exact zeroWr) | ((with_reducible refine wpList_storeN (.tmp 7) (.tmp 18) (Un.cells u9) (Un.cells_one _) ?_ ?_ ?_ ?_ ?_); exact HI9.out; exact rfl; exact rfl; exact HL9.out; intro w2 hb2 hbl2 hz2; have HZ2 := Lib.hid hz2; have HB2 := Lib.hid hb2; have HBL2 := Lib.hid hbl2; clear hz2 hb2 hbl2))
           go_roundw
           case rel =>
             have hst := HST.out
             rw [HBT.out] at hst
             refine ⟨k + 1, by omega, by go_num, ?_, HBL.out.trans (HBL2.out.mono hz)⟩
             rw [hst]
             simpa [HKK.out] using ownsRow_keep HO.out (Keep.ofBelow (bad := fun _ => False) HBL2.out) (fun _ _ h => h)
           case measure => simp [intOf]; omega
       · obtain rfl : k = uns.length := by omega
         go_wp2
         go_ret
         exact ⟨_, rfl, hown, hbel⟩
   · obtain rfl : m = 64 := by omega
     clear hm
     have h65 : ¬ (uns.length : Int) < 64 := by omega
     go_enter Tryd.func36, Tryd.ntmps36
     go_wp2
     go_loopw [5, 14] (fun u i wr => ∃ k : Nat, k ≤ 64 ∧ i = .int .i64 k ∧ wr.ownsRow w.heap.size 75 129 u (keptN uns mask k).length ((keptN uns mask k).flatMap Un.cells) ∧ Below w.heap.size w wr) (fun _ i _ => 64 - (intOf i).toNat)
     case atStart => exact ⟨0, Nat.zero_le _, rfl, World.ownsRow_nil _ _ _ _, Below.refl _ _⟩
     case round =>
       obtain ⟨k, hk, rfl, hown, hbel⟩ := hrel
       by_cases hlt : k < 64
       · have hrk : wr.rangeAt g (k * 129) (Un.cells (uns.getD k ⟨0, [], []⟩)) := fun j v hv => by
           rw [hbel.cell (by exact hglt)]; exact HR.out k (by omega) j v hv
         have hgk : (uns.getD k ⟨0, [], []⟩).Good N := by
           have : uns.getD k ⟨0, [], []⟩ = uns[k] := by simp [List.getD, show k < uns.length by omega]
           rw [this]; exact HG.out _ (List.getElem_mem _)
         have hst : keptN uns mask (k + 1) = keptN uns mask k ++ if bit mask k then [uns.getD k ⟨0, [], []⟩] else [] := rfl
         have HST := Lib.hid hst
         clear hst
         generalize uns.getD k ⟨0, [], []⟩ = u9 at hrk hgk HST
         have hl9 := hgk.len
         have hi9 : (Tryd.prog.info? 75).map (·.size) = some (Un.cells u9).length := by rw [hl9]; exact infoWr
         have hi8 : (Tryd.prog.info? 75).map (fun i => (i.zero, i.size, i.bytes)) = some (some (.agg zeroWrite.toArray), (Un.cells u9).length, 136) := by rw [hl9]; exact infoWrite
         have HRK := Lib.hid hrk
         have HI9 := Lib.hid hi9
         have HI8 := Lib.hid hi8
         have HL9 := Lib.hid hl9
         have hkl := keptN_len uns mask k
         have hz := hbel.size
         have HO := Lib.hid hown
         have HBL := Lib.hid hbel
         clear hrk hi9 hi8 hl9 hgk hown hbel
         generalize hkk : (keptN uns mask k).length = L9 at HO hkl
         have HKK := Lib.hid hkk
         clear hkk
         have hq0 : 0 ≤ mask / 2 ^ k := Int.ediv_nonneg m0 (by exact Int.le_of_lt (Int.pow_pos (by omega)))
         have hq1 : mask / 2 ^ k < 18446744073709551616 := by
           have h1 : mask / 2 ^ k ≤ mask := Int.ediv_le_self _ m0
           omega
         have hand := u64_and1 (mask / 2 ^ k) hq0 hq1
         have hk64 : (k : Int) ≤ 64 := by omega
         clear hq0 hq1
         cases hb : bit mask k with
         | true =>
           have hc1 : bits .and .u64 (mask / 2 ^ k) 1 = 1 := by rw [hand]; simpa [bit] using hb
           have HBT := Lib.hid hb
           clear hb hand
           go_wp2_with (first | ((with_reducible refine wpList_loadM (.tmp 17) g (k * 129) (Un.cells u9) _ HRK.out Tryd.underlying75 rfl ?_ ?_ ?_); exact HI9.out; exact rfl) | ((with_reducible refine wpList_allocM zeroWrite ?_ ?_); exact zeroWr) | ((with_reducible refine wpList_storeN (.tmp 7) (.tmp 18) (Un.cells u9) (Un.cells_one _) ?_ ?_ ?_ ?_ ?_); exact HI9.out; exact rfl; exact rfl; exact HL9.out; intro w2 hb2 hbl2 hz2; have HZ2 := Lib.hid hz2; have HB2 := Lib.hid hb2; have HBL2 := Lib.hid hbl2; clear hz2 hb2 hbl2; have hr2 := HB2.out.range 0 (Un.cells u9) (fun j hj => by rw [Nat.zero_add]); have HR2 := Lib.hid hr2; clear hr2) | ((with_reducible refine wpList_loadM (.tmp 7) wr.heap.size 0 (Un.cells u9) _ HR2.out Tryd.underlying75 rfl ?_ ?_ ?_); exact HI9.out; exact rfl) | ((with_reducible refine wpList_buildS1 55 75 (.tmp 25) (Un.cells u9) _ 136 Tryd.underlying55 HI8.out ?_ ?_ ?_ ?_); (rw [HL9.out]; omega); (rw [HL9.out]; omega); exact rfl; have how : (w2.alloc (.cells (Un.cells u9).toArray 75)).ownsRow w.heap.size 75 129 u5 L9 ((keptN uns mask k).flatMap Un.cells) := ownsRow_keep (ownsRow_keep HO.out (Keep.ofBelow (bad := fun _ => False) HBL2.out) (fun _ _ h => h)) (Keep.alloc (fun _ => False) _ _) (fun _ _ h => h); have HOW := Lib.hid how; clear how; have hcw : ∀ j u, (Un.cells u9)[j]? = some u → (w2.alloc (.cells (Un.cells u9).toArray 75)).cell? ((⟨w2.heap.size, 0, none⟩ : Addr).add j) = some u := (fun j u hj => by rw [Addr.add_lit, Nat.zero_add, (Blk.alloc w2 75 (Un.cells u9).toArray).cell]; simpa using hj); have HCW := Lib.hid hcw; clear hcw) | ((with_reducible refine wpList_appW (.tmp 24) (.tmp 26) 55 w.heap.size 75 _ 129 136 Tryd.underlying55 infoWrite rfl ?_ u5 L9 _ HOW.out ⟨w2.heap.size, 0, none⟩ 1 1 (Un.cells u9) ?_ HCW.out (Un.cells_one _) ?_ ?_ ?_ ?_ ?_ ?_); omega; exact HL9.out; (unfold maxLen; omega); omega; (have := HZ2.out; simp; omega); exact rfl; exact rfl; intro v6 w6 hown6 hg6 hv6; have HO6 := Lib.hid hown6; have HG6 := Lib.hid hg6; clear hown6 hg6 hv6))
           go_roundw
           case rel =>
             have hst := HST.out
             rw [HBT.out, if_pos rfl] at hst
             refine ⟨k + 1, by omega, by go_num, ?_, ?_⟩
             · rw [hst, List.length_append, HKK.out, List.flatMap_append]
               simpa using HO6.out
             · exact (HBL.out.trans ((HBL2.out.trans ((Below.refl _ w2).alloc (by have := HZ2.out; omega) _)).mono hz)).grown HG6.out (by have := HZ2.out; simp; omega) (fun j hj => (HOW.out.lt j hj).1)
           case measure => simp [intOf]; omega
         | false =>
           have hc1 : bits .and .u64 (mask / 2 ^ k) 1 = 0 := by
             rw [hand]
             have : mask / 2 ^ k % 2 ≠ 1 := by simpa [bit] using hb
             omega
           have HBT := Lib.hid hb
           clear hb hand
           go_wp2_with (first | ((with_reducible refine wpList_loadM (.tmp 17) g (k * 129) (Un.cells u9) _ HRK.out Tryd.underlying75 rfl ?_ ?_ ?_); exact HI9.out; exact rfl) | ((with_reducible refine wpList_allocM zeroWrite ?_ ?_); exact zeroWr) | ((with_reducible refine wpList_storeN (.tmp 7) (.tmp 18) (Un.cells u9) (Un.cells_one _) ?_ ?_ ?_ ?_ ?_); exact HI9.out; exact rfl; exact rfl; exact HL9.out; intro w2 hb2 hbl2 hz2; have HZ2 := Lib.hid hz2; have HB2 := Lib.hid hb2; have HBL2 := Lib.hid hbl2; clear hz2 hb2 hbl2))
           go_roundw
           case rel =>
             have hst := HST.out
             rw [HBT.out] at hst
             refine ⟨k + 1, by omega, by go_num, ?_, HBL.out.trans (HBL2.out.mono hz)⟩
             rw [hst]
             simpa [HKK.out] using ownsRow_keep HO.out (Keep.ofBelow (bad := fun _ => False) HBL2.out) (fun _ _ h => h)
           case measure => simp [intOf]; omega
       · obtain rfl : k = 64 := by omega
         go_wp2
         go_ret
         exact ⟨_, rfl, hown, hbel⟩
end Go.Proofs.YtogjhjiapinmcaaDoor.K
end
section
namespace Go.Proofs.YtogjhjiapinmcaaDoor.K
open Go.ChangeShapes Go.WideShapes Go.ChangeAt Go.RowKit
set_option linter.unusedVariables false

def undo : List Un → List (List Int) → List (List Int)
 | [], s => s
 | u :: r, s => (undo r s).set u.pos u.was
theorem undo_len : ∀ (l : List Un) (s : List (List Int)), (undo l s).length = s.length
 | [], _ => rfl
 | u :: r, s => by rw [undo, List.length_set, undo_len r s]
theorem undo_drop (l : List Un) (s : List (List Int)) (k : Nat) (hk : k < l.length) : undo (l.drop k) s = (undo (l.drop (k + 1)) s).set (l.getD k ⟨0, [], []⟩).pos (l.getD k ⟨0, [], []⟩).was := by
 rw [List.drop_eq_getElem_cons hk, undo]
 simp [List.getD, hk]
def newN (kept : List Un) (torn : Int) (k : Nat) : Nat := if k + 1 = kept.length ∧ 0 ≤ torn ∧ torn < 64 then torn.toNat else 64
def redoN (kept : List Un) (torn : Int) (s : List (List Int)) : Nat → List (List Int)
 | 0 => s
 | k + 1 => (redoN kept torn s k).set (kept.getD k ⟨0, [], []⟩).pos ((kept.getD k ⟨0, [], []⟩).new.take (newN kept torn k) ++ ((redoN kept torn s k).getD (kept.getD k ⟨0, [], []⟩).pos []).drop (newN kept torn k))
theorem redoN_len (kept : List Un) (torn : Int) (s : List (List Int)) : ∀ k, (redoN kept torn s k).length = s.length
 | 0 => rfl
 | k + 1 => by rw [redoN, List.length_set, redoN_len kept torn s k]
theorem torn_ok {a b : List Int} (ha : Sec a) (hb : Sec b) (n : Nat) : Sec (a.take n ++ b.drop n) := by
 refine ⟨by rw [List.length_append, List.length_take, List.length_drop, ha.1, hb.1]; omega, fun x hx => ?_⟩
 rcases List.mem_append.1 hx with hx | hx
 · exact ha.2 x (List.mem_of_mem_take hx)
 · exact hb.2 x (List.mem_of_mem_drop hx)
def crashed (secs : List (List Int)) (uns : List Un) (mask torn : Int) : List (List Int) :=
 redoN (keptN uns mask (min uns.length 64)) torn (undo uns secs) (keptN uns mask (min uns.length 64)).length

def CrashPost (w : World) (B S : Nat) (vu : Value) (secs : List (List Int)) (uns : List Un) (mask torn : Int) (e : Ending) (w' : World) : Prop :=
 e = .returned (.tuple #[]) ∧ IsDisk w' B S (.slice none 0 0) (crashed secs uns mask torn) [] (-1) ∧ Keep (Mine B S vu) w w'

theorem un_at {us : List Un} {n : Nat} (hg : ∀ u ∈ us, u.Good n) {k : Nat} (hk : k < us.length) : (us.getD k ⟨0, [], []⟩).Good n := by
 have : us.getD k ⟨0, [], []⟩ = us[k] := by simp [List.getD, hk]
 rw [this]; exact hg _ (List.getElem_mem hk)
theorem row_at {w : World} {base N : Nat} {us : List Un} {p : Option Addr} {c : Nat} (h : w.ownsRow base 75 129 (.slice p us.length c) us.length (us.flatMap Un.cells)) (hg : ∀ u ∈ us, u.Good N) (h0 : 0 < us.length) :
   ∃ g, p = some ⟨g, 0, none⟩ ∧ base ≤ g ∧ g < w.heap.size ∧ us.length ≤ c ∧ c ≤ maxLen ∧ ∀ k, k < us.length → w.rangeAt g (k * 129) (Un.cells (us.getD k ⟨0, [], []⟩)) := by
 rcases h.2 with ⟨_, h1⟩ | ⟨g, cap, cur, hv, hbg, hgg, hle, hcm, hsz, htk⟩
 · omega
 · injection hv with e1 e2 e3
   subst e1 e3
   refine ⟨g, rfl, hbg, (Array.getElem?_eq_some_iff.1 hgg).1, hle, hcm, fun k hk j v hv => ?_⟩
   have hj : j < 129 := by
     have hl := (List.getElem?_eq_some_iff.1 hv).1
     rw [(un_at hg hk).len] at hl
     exact hl
   have := h.cells (g := g) rfl (k * 129 + j) v (by rw [parts_at Un.cells 129 us k j ⟨0, [], []⟩ (fun s hs => (hg s hs).len) hk hj]; exact hv)
   rwa [Addr.add_lit, Nat.zero_add] at this
theorem IsDisk.setSec {w W : World} {B S : Nat} {vu : Value} {secs : List (List Int)} {uns : List Un} {l : Int} (h : IsDisk w B S vu secs uns l) (hk : Keep (fun k => k = S) w W) {i : Nat} {s : List Int} (hs : Sec s) (hb : Blk W S 73 (flat (secs.set i s))) : IsDisk W B S vu (secs.set i s) uns l := by
 have hlt := h.lt
 have hap := h.apart
 refine ⟨by rw [List.length_set]; exact h.head.keep hk (by omega), hb, ownsRow_keep h.row hk (fun k e1 e2 => hap.2 (by rw [e1, e2])), h.lt, ?_, by rw [List.length_set]; exact h.uns_ok, by rw [List.length_set]; exact h.many, h.left0, h.left1⟩
 intro x hx
 rcases List.mem_or_eq_of_mem_set hx with hx | rfl
 · exact h.secs_ok x hx
 · exact hs

def Undone (w : World) (B S : Nat) (vu : Value) (secs : List (List Int)) (uns : List Un) (l : Int) (k : Nat) (wr : World) : Prop :=
 IsDisk wr B S vu (undo (uns.drop k) secs) uns l ∧ Keep (fun j => j = S) w wr

set_option maxRecDepth 100000 in
set_option maxHeartbeats 2000000 in
theorem crash_any {w : World} {B S : Nat} {vu : Value} {secs : List (List Int)} {uns : List Un} {l : Int} (h : IsDisk w B S vu secs uns l) (mask torn : Int) (m0 : 0 ≤ mask) (m1 : mask ≤ 18446744073709551615) (t0 : -9223372036854775808 ≤ torn) (t1 : torn ≤ 9223372036854775807) (hn : uns.length ≤ 1000000000) :
   Calls Tryd.prog 21 #[.pointer (some ⟨B, 0, none⟩), .int .u64 mask, .int .i64 torn] w (CrashPost w B S vu secs uns mask torn) := by
 obtain ⟨p, c, rfl⟩ : ∃ p c, vu = .slice p uns.length c := by
   rcases h.row.2 with ⟨e1, e2⟩ | ⟨g, cap, cur, e1, _⟩
   · exact ⟨none, 0, by rw [e1, e2]⟩
   · exact ⟨_, _, e1⟩
 have hh1 := h.head.2.1
 have HH := Lib.hid h
 clear h
 go_enter Tryd.func21, Tryd.ntmps21
 go_wp2
 clear hh1
 go_loopw [6] (fun i wr => ∃ k : Nat, k ≤ uns.length ∧ i = .int .i64 ((k : Int) - 1) ∧ Undone w B S (.slice p uns.length c) secs uns l k wr) (fun i _ => (intOf i + 1).toNat)
 case atStart =>
   refine ⟨uns.length, Nat.le_refl _, rfl, ?_, Keep.refl _ _⟩
   rw [List.drop_length]
   exact HH.out
 case round =>
   obtain ⟨k1, hk, rfl, hd, hkp⟩ := hrel
   rcases k1 with _ | k
   · rw [List.drop_zero] at hd
     obtain ⟨-, hB1, -, -, -, -⟩ := id hd.head
     have hrow := hd.row
     have HD := Lib.hid hd
     have HKP := Lib.hid hkp
     have hun := hd.uns_ok
     have HUN := Lib.hid hun
     clear hd hkp hun
     go_wp2_with fail
     refine (keep_any hrow HUN.out mask m0 m1 hn _ rfl).mono ?_
     rintro e w1 ⟨vk, rfl, hkr, hbl⟩
     clear hB1 hrow
     obtain ⟨pK, cK, rfl⟩ := ownsRow_shape hkr
     obtain ⟨w0, hw0⟩ : ∃ w0, w0 = wr := ⟨_, rfl⟩
     have hd1 : IsDisk w1 B S (.slice p uns.length c) (undo uns secs) uns l := HD.out.later hbl
     have hk1 : Keep (fun j => j = S) w w1 := HKP.out.trans' (Keep.ofBelow (bad := fun _ => False) hbl) (fun _ _ h => h.elim)
     rw [← hw0] at hkr
     have hSw0 : S < w0.heap.size := by rw [hw0]; exact HD.out.sec.lt
     have hkg := keptN_good HUN.out mask (min uns.length 64) (by omega)
     have hkl := keptN_len uns mask (min uns.length 64)
     have hcr : crashed secs uns mask torn = redoN (keptN uns mask (min uns.length 64)) torn (undo uns secs) (keptN uns mask (min uns.length 64)).length := rfl
     generalize keptN uns mask (min uns.length 64) = KN at hkr hkg hkl hcr
     have hkl64 : KN.length ≤ 64 := by omega
     have HKG := Lib.hid hkg
     have HCR := Lib.hid hcr
     have HD1 := Lib.hid hd1
     have HK1 := Lib.hid hk1
     have HR1 := Lib.hid hkr
     clear hw0 hkr hkg hcr hd1 hk1 HD HKP hbl hkl
     go_wp2
     go_loopw [50] (fun i wr => ∃ k : Nat, k ≤ KN.length ∧ i = .int .i64 k ∧ IsDisk wr B S (.slice p uns.length c) (redoN KN torn (undo uns secs) k) uns l ∧ Keep (fun j => j = S) w wr ∧ wr.ownsRow w0.heap.size 75 129 (.slice pK KN.length cK) KN.length (KN.flatMap Un.cells)) (fun i _ => KN.length - (intOf i).toNat)
     case atStart => exact ⟨0, Nat.zero_le _, rfl, HD1.out, HK1.out, HR1.out⟩
     case round =>
       obtain ⟨k, hk, rfl, hd, hkp, hrk⟩ := hrel
       by_cases hlt : k < KN.length
       · obtain ⟨g, rfl, hbg, hgl, hlc, hcm, hrow⟩ := row_at hrk HKG.out (by omega)
         have hgk := un_at HKG.out hlt
         have hr9 := hrow k hlt
         obtain ⟨u9, huk⟩ : ∃ u, KN.getD k ⟨0, [], []⟩ = u := ⟨_, rfl⟩
         rw [huk] at hgk hr9
         generalize hsk : redoN KN torn (undo uns secs) k = SK at hd
         unfold maxLen at hcm
         have hmany := hd.many
         have hpos : u9.pos < SK.length := by
           have h1 := hgk.1
           have h2 : SK.length = (undo uns secs).length := by rw [← hsk, redoN_len]
           omega
         have hi9 : (Tryd.prog.info? 75).map (·.size) = some (Un.cells u9).length := by rw [hgk.len]; exact infoWr
         have HI9 := Lib.hid hi9
         have HGK := Lib.hid hgk
         have HL9 := Lib.hid hgk.len
         have HR9 := Lib.hid hr9
         have HUK := Lib.hid huk
         have HSK := Lib.hid hsk
         have HKP := Lib.hid hkp
         have HRK := Lib.hid hrk
         have HDK := Lib.hid hd
         have hkI : (k : Int) + 1 ≤ KN.length := by omega
         have hposI : (u9.pos : Int) < SK.length := by omega
         clear hi9 hgk hr9 huk hsk hkp hrk hd hrow
         have arm : True := trivial
         by_cases hlast : k + 1 = KN.length
         · have e1 : ((k : Int) == (KN.length : Int) - 1) = true := by simp; omega
           by_cases ht0 : 0 ≤ torn
           · by_cases ht1 : torn < 64
             · obtain ⟨tn, rfl⟩ : ∃ tn : Nat, torn = (tn : Int) := ⟨torn.toNat, by omega⟩
               have htn : tn < 64 := by omega
               go_wp2_with (first | ((with_reducible refine wpList_loadM (.tmp 53) g (k * 129) (Un.cells u9) _ HR9.out Tryd.underlying75 rfl ?_ ?_ ?_); exact HI9.out; exact rfl) | ((with_reducible refine wpList_allocM zeroWrite ?_ ?_); exact zeroWr) | ((with_reducible refine wpList_storeN (.tmp 9) (.tmp 54) (Un.cells u9) (Un.cells_one _) ?_ ?_ ?_ ?_ ?_); exact HI9.out; exact rfl; exact rfl; exact HL9.out; intro w2 hb2 hbl2 hz2; have HZ2 := Lib.hid hz2; have HB2 := Lib.hid hb2; have HBL2 := Lib.hid hbl2; have HD2 := Lib.hid (HDK.out.later hbl2); have hc2 : ∀ W, Keep (fun _ => False) w2.drew W → W.cell? ⟨wr.heap.size, 0, none⟩ = some (.int .i64 u9.pos) := (fun W hW => by rw [hW.cell (fun h => h) (show wr.heap.size < w2.drew.heap.size from hb2.lt)]; exact hb2.cell 0); have HC2 := Lib.hid hc2; clear hz2 hb2 hbl2 hc2))
               have hnu : NumsOff (fun _ => False) w2.drew (.slice (some ⟨wr.heap.size, 65, none⟩) (tn) 64) (u9.new.take (tn)) := by
                 refine NumsOff.of (Blk.nums (w := w2.drew) HB2.out 65 64 _ _ ?_ (fun j hj => ?_)) (fun _ _ h => h)
                 · rw [List.length_take, HGK.out.2.2.1]; omega
                 · rw [List.length_take, HGK.out.2.2.1] at hj
                   show (Un.cells u9)[65 + j]? = _
                   rw [show 65 + j = (64 + j) + 1 by omega]
                   show (B8 u9.was ++ B8 u9.new)[64 + j]? = _
                   rw [List.getElem?_append_right (by rw [B8_len, HGK.out.2.1.1]; omega), B8_len, HGK.out.2.1.1, Nat.add_sub_cancel_left, B8_take, List.getElem?_take, if_pos (by omega)]
               have hnl : (u9.new.take (tn)).length = tn := by rw [List.length_take, HGK.out.2.2.1]; omega
               have hf9 : u9.pos * 64 + (u9.new.take (tn)).length ≤ (flat SK).length := by
                 have := parts_len B8 64 SK (fun s hs => by rw [B8_len]; exact (HD2.out.secs_ok s hs).1)
                 unfold flat
                 rw [this, hnl]
                 have : (u9.pos + 1) * 64 ≤ SK.length * 64 := Nat.mul_le_mul_right _ hpos
                 omega
               have HNU := Lib.hid hnu.nums
               have HNL := Lib.hid hnl
               have HF9 := Lib.hid hf9
               have hnnI : ((tn : Nat) : Int) ≤ 64 := by omega
               have hnn0 : (0 : Int) ≤ ((tn : Nat) : Int) := by omega
               clear hnu hnl hf9
               go_wp2_with fail
               refine regionE_begin 12 (fun W => Keep (fun _ => False) w2.drew W) (by kernel_rfl) ?_
               refine stepE_any 0 (some 70) (v := ?vba0) (fun _ => Keep.refl _ _) rfl (by rfl) (by kernel_rfl) (by kernel_rfl) (by kernel_rfl) (by decide) (fun _ _ _ h => h) (by rfl) ?yba0 ?nba0
               case yba0 => intro W; go_simp; try with_reducible rfl
               try simp only [Act.put, List.setIfInBounds_toArray, List.set_cons_zero, List.set_cons_succ]
               refine stepE_any 1 (some 71) (v := ?vba1) (fun _ => Keep.refl _ _) rfl (by rfl) (by kernel_rfl) (by kernel_rfl) (by kernel_rfl) (by decide) (fun _ _ _ h => h) (by rfl) ?yba1 ?nba1
               case yba1 => intro W; go_simp; try with_reducible rfl
               try simp only [Act.put, List.setIfInBounds_toArray, List.set_cons_zero, List.set_cons_succ]
               refine stepE_any 2 (some 72) (v := ?vba2) (fun _ => Keep.refl _ _) rfl (by rfl) (by kernel_rfl) (by kernel_rfl) (by kernel_rfl) (by decide) (fun _ _ _ h => h) (by rfl) ?yba2 ?nba2
               case yba2 => intro W; go_simp; try with_reducible rfl
               try simp only [Act.put, List.setIfInBounds_toArray, List.set_cons_zero, List.set_cons_succ]
               refine stepE_read 3 14 (some 73) (v := ?vba3) (Keep.refl _ _) rfl (by rfl) (by kernel_rfl) (by kernel_rfl) (by kernel_rfl) (by kernel_rfl) (by kernel_rfl) (fun _ _ _ h => h) (by rfl) ?yba3 ?nba3
               case yba3 => intro W hW; have q := (HD2.out.head.keep (w := w2.drew) hW (fun h => h)).1; go_simp; try with_reducible rfl
               try simp only [Act.put, List.setIfInBounds_toArray, List.set_cons_zero, List.set_cons_succ]
               refine stepE_any 4 (some 74) (v := ?vba4) (fun _ => Keep.refl _ _) rfl (by rfl) (by kernel_rfl) (by kernel_rfl) (by kernel_rfl) (by decide) (fun _ _ _ h => h) (by rfl) ?yba4 ?nba4
               case yba4 => intro W; go_simp; try with_reducible rfl
               try simp only [Act.put, List.setIfInBounds_toArray, List.set_cons_zero, List.set_cons_succ]
               refine stepE_read 5 14 (some 75) (v := ?vba5) (Keep.refl _ _) rfl (by rfl) (by kernel_rfl) (by kernel_rfl) (by kernel_rfl) (by kernel_rfl) (by kernel_rfl) (fun _ _ _ h => h) (by rfl) ?yba5 ?nba5
               case yba5 => intro W hW; have q := HC2.out W hW; go_simp; try with_reducible rfl
               try simp only [Act.put, List.setIfInBounds_toArray, List.set_cons_zero, List.set_cons_succ]
               refine stepE_any 6 (some 76) (v := ?vba6) (fun _ => Keep.refl _ _) rfl (by rfl) (by kernel_rfl) (by kernel_rfl) (by kernel_rfl) (by decide) (fun _ _ _ h => h) (by rfl) ?yba6 ?nba6
               case yba6 => intro W; go_simp; try with_reducible rfl
               try simp only [Act.put, List.setIfInBounds_toArray, List.set_cons_zero, List.set_cons_succ]
               refine stepE_any 7 (some 77) (v := ?vba7) (fun _ => Keep.refl _ _) rfl (by rfl) (by kernel_rfl) (by kernel_rfl) (by kernel_rfl) (by decide) (fun _ _ _ h => h) (by rfl) ?yba7 ?nba7
               case yba7 => intro W; go_simp; try with_reducible rfl
               try simp only [Act.put, List.setIfInBounds_toArray, List.set_cons_zero, List.set_cons_succ]
               refine stepE_any 8 (some 78) (v := ?vba8) (fun _ => Keep.refl _ _) rfl (by rfl) (by kernel_rfl) (by kernel_rfl) (by kernel_rfl) (by decide) (fun _ _ _ h => h) (by rfl) ?yba8 ?nba8
               case yba8 => intro W; go_simp; try with_reducible rfl
               try simp only [Act.put, List.setIfInBounds_toArray, List.set_cons_zero, List.set_cons_succ]
               refine stepE_any 9 (some 79) (v := ?vba9) (fun _ => Keep.refl _ _) rfl (by rfl) (by kernel_rfl) (by kernel_rfl) (by kernel_rfl) (by decide) (fun _ _ _ h => h) (by rfl) ?yba9 ?nba9
               case yba9 => intro W; go_simp; try with_reducible rfl
               try simp only [Act.put, List.setIfInBounds_toArray, List.set_cons_zero, List.set_cons_succ]
               refine stepE_any 10 (some 80) (v := ?vba10) (fun _ => Keep.refl _ _) rfl (by rfl) (by kernel_rfl) (by kernel_rfl) (by kernel_rfl) (by decide) (fun _ _ _ h => h) (by rfl) ?yba10 ?nba10
               case yba10 => intro W; go_simp; try with_reducible rfl
               try simp only [Act.put, List.setIfInBounds_toArray, List.set_cons_zero, List.set_cons_succ]
               refine stepE_any 11 (some 81) (v := ?vba11) (fun _ => Keep.refl _ _) rfl (by rfl) (by kernel_rfl) (by kernel_rfl) (by kernel_rfl) (by decide) (fun _ _ _ h => h) (by rfl) ?yba11 ?nba11
               case yba11 => intro W; go_simp; try with_reducible rfl
               try simp only [Act.put, List.setIfInBounds_toArray, List.set_cons_zero, List.set_cons_succ]
               -- 12: builtin:copy -> 82
               refine stepE_end 12 rfl (by kernel_rfl) (by rfl) (by rfl) (fun K' hK => ?_)
               refine wp_copyB (Blk.keep (w := w2) HD2.out.sec (Keep.drew (fun _ => False) w2) (fun h => h)) (.tmp 78) (.tmp 81) 24 24 rfl (u9.pos * 64) (tn) 64 _ (u9.new.take (tn)) HNU.out (by rw [HNL.out]; omega) HF9.out 5 Tryd.underlying24 (by kernel_rfl) (by rfl) (by rfl) (fun w4 hb4 hk4 => hK _ _ ?_)
               clear hK K'
               refine wpAnyE_done (by kernel_rfl) ?_ _
               have hk4' : Keep (fun j => j = S) w2.drew w4 := hk4 _ rfl
               have hb4' : Blk w4 S 73 (flat (SK.set u9.pos (u9.new.take (tn) ++ (SK.getD u9.pos []).drop (tn)))) := by
                 have e := flat_head SK u9.pos (u9.new.take (tn)) _ 64 (fun s hs => (HD2.out.secs_ok s hs).1) (by rw [HNL.out]; omega) hpos rfl
                 rw [HNL.out] at e
                 rw [HNL.out, e] at hb4
                 exact hb4
               have hd4 : IsDisk w4 B S (.slice p uns.length c) (redoN KN (tn : Int) (undo uns secs) (k + 1)) uns l := by
                 have e9 : newN KN (tn : Int) k = tn := by unfold newN; rw [if_pos ⟨hlast, by omega, by omega⟩]; omega
                 rw [redoN, HUK.out, HSK.out, e9]
                 exact (HD2.out.keep (Keep.drew (fun _ => False) w2) (fun _ _ h => h)).setSec hk4' (torn_ok HGK.out.2.2 (sec_get HD2.out.secs_ok hpos) _) hb4'
               have HD4 := Lib.hid hd4
               have HK4 : Hid (Keep (fun j => j = S) w w4) := Lib.hid (((HKP.out.trans' (Keep.ofBelow (bad := fun _ => False) HBL2.out) (fun _ _ h => h.elim)).trans (Keep.drew _ _)).trans' hk4' (fun _ _ h => h))
               have HR4 : Hid (w4.ownsRow w0.heap.size 75 129 (.slice (some ⟨g, 0, none⟩) KN.length cK) KN.length (KN.flatMap Un.cells)) := Lib.hid (ownsRow_keep (ownsRow_keep HRK.out (Keep.ofBelow (bad := fun _ => False) HBL2.out) (fun _ _ h => h)) ((Keep.drew (fun j => j = S) w2).trans hk4') (fun j e1 e2 => by have := (HRK.out.lt j e1).1; omega))
               clear hb4 hb4' hk4 hk4' hd4
               go_wp2
               go_roundw
               case rel => exact ⟨k + 1, by omega, by go_num, HD4.out, HK4.out, HR4.out⟩
               case measure => simp [intOf]; omega
             · go_wp2_with (first | ((with_reducible refine wpList_loadM (.tmp 53) g (k * 129) (Un.cells u9) _ HR9.out Tryd.underlying75 rfl ?_ ?_ ?_); exact HI9.out; exact rfl) | ((with_reducible refine wpList_allocM zeroWrite ?_ ?_); exact zeroWr) | ((with_reducible refine wpList_storeN (.tmp 9) (.tmp 54) (Un.cells u9) (Un.cells_one _) ?_ ?_ ?_ ?_ ?_); exact HI9.out; exact rfl; exact rfl; exact HL9.out; intro w2 hb2 hbl2 hz2; have HZ2 := Lib.hid hz2; have HB2 := Lib.hid hb2; have HBL2 := Lib.hid hbl2; have HD2 := Lib.hid (HDK.out.later hbl2); have hc2 : ∀ W, Keep (fun _ => False) w2.drew W → W.cell? ⟨wr.heap.size, 0, none⟩ = some (.int .i64 u9.pos) := (fun W hW => by rw [hW.cell (fun h => h) (show wr.heap.size < w2.drew.heap.size from hb2.lt)]; exact hb2.cell 0); have HC2 := Lib.hid hc2; clear hz2 hb2 hbl2 hc2))
               have hnu : NumsOff (fun _ => False) w2.drew (.slice (some ⟨wr.heap.size, 65, none⟩) (64) 64) (u9.new.take (64)) := by
                 refine NumsOff.of (Blk.nums (w := w2.drew) HB2.out 65 64 _ _ ?_ (fun j hj => ?_)) (fun _ _ h => h)
                 · rw [List.length_take, HGK.out.2.2.1]; omega
                 · rw [List.length_take, HGK.out.2.2.1] at hj
                   show (Un.cells u9)[65 + j]? = _
                   rw [show 65 + j = (64 + j) + 1 by omega]
                   show (B8 u9.was ++ B8 u9.new)[64 + j]? = _
                   rw [List.getElem?_append_right (by rw [B8_len, HGK.out.2.1.1]; omega), B8_len, HGK.out.2.1.1, Nat.add_sub_cancel_left, B8_take, List.getElem?_take, if_pos (by omega)]
               have hnl : (u9.new.take (64)).length = 64 := by rw [List.length_take, HGK.out.2.2.1]; omega
               have hf9 : u9.pos * 64 + (u9.new.take (64)).length ≤ (flat SK).length := by
                 have := parts_len B8 64 SK (fun s hs => by rw [B8_len]; exact (HD2.out.secs_ok s hs).1)
                 unfold flat
                 rw [this, hnl]
                 have : (u9.pos + 1) * 64 ≤ SK.length * 64 := Nat.mul_le_mul_right _ hpos
                 omega
               have HNU := Lib.hid hnu.nums
               have HNL := Lib.hid hnl
               have HF9 := Lib.hid hf9
               have hnnI : ((64 : Nat) : Int) ≤ 64 := by omega
               have hnn0 : (0 : Int) ≤ ((64 : Nat) : Int) := by omega
               clear hnu hnl hf9
               go_wp2_with fail
               refine regionE_begin 12 (fun W => Keep (fun _ => False) w2.drew W) (by kernel_rfl) ?_
               refine stepE_any 0 (some 70) (v := ?vbb0) (fun _ => Keep.refl _ _) rfl (by rfl) (by kernel_rfl) (by kernel_rfl) (by kernel_rfl) (by decide) (fun _ _ _ h => h) (by rfl) ?ybb0 ?nbb0
               case ybb0 => intro W; go_simp; try with_reducible rfl
               try simp only [Act.put, List.setIfInBounds_toArray, List.set_cons_zero, List.set_cons_succ]
               refine stepE_any 1 (some 71) (v := ?vbb1) (fun _ => Keep.refl _ _) rfl (by rfl) (by kernel_rfl) (by kernel_rfl) (by kernel_rfl) (by decide) (fun _ _ _ h => h) (by rfl) ?ybb1 ?nbb1
               case ybb1 => intro W; go_simp; try with_reducible rfl
               try simp only [Act.put, List.setIfInBounds_toArray, List.set_cons_zero, List.set_cons_succ]
               refine stepE_any 2 (some 72) (v := ?vbb2) (fun _ => Keep.refl _ _) rfl (by rfl) (by kernel_rfl) (by kernel_rfl) (by kernel_rfl) (by decide) (fun _ _ _ h => h) (by rfl) ?ybb2 ?nbb2
               case ybb2 => intro W; go_simp; try with_reducible rfl
               try simp only [Act.put, List.setIfInBounds_toArray, List.set_cons_zero, List.set_cons_succ]
               refine stepE_read 3 14 (some 73) (v := ?vbb3) (Keep.refl _ _) rfl (by rfl) (by kernel_rfl) (by kernel_rfl) (by kernel_rfl) (by kernel_rfl) (by kernel_rfl) (fun _ _ _ h => h) (by rfl) ?ybb3 ?nbb3
               case ybb3 => intro W hW; have q := (HD2.out.head.keep (w := w2.drew) hW (fun h => h)).1; go_simp; try with_reducible rfl
               try simp only [Act.put, List.setIfInBounds_toArray, List.set_cons_zero, List.set_cons_succ]
               refine stepE_any 4 (some 74) (v := ?vbb4) (fun _ => Keep.refl _ _) rfl (by rfl) (by kernel_rfl) (by kernel_rfl) (by kernel_rfl) (by decide) (fun _ _ _ h => h) (by rfl) ?ybb4 ?nbb4
               case ybb4 => intro W; go_simp; try with_reducible rfl
               try simp only [Act.put, List.setIfInBounds_toArray, List.set_cons_zero, List.set_cons_succ]
               refine stepE_read 5 14 (some 75) (v := ?vbb5) (Keep.refl _ _) rfl (by rfl) (by kernel_rfl) (by kernel_rfl) (by kernel_rfl) (by kernel_rfl) (by kernel_rfl) (fun _ _ _ h => h) (by rfl) ?ybb5 ?nbb5
               case ybb5 => intro W hW; have q := HC2.out W hW; go_simp; try with_reducible rfl
               try simp only [Act.put, List.setIfInBounds_toArray, List.set_cons_zero, List.set_cons_succ]
               refine stepE_any 6 (some 76) (v := ?vbb6) (fun _ => Keep.refl _ _) rfl (by rfl) (by kernel_rfl) (by kernel_rfl) (by kernel_rfl) (by decide) (fun _ _ _ h => h) (by rfl) ?ybb6 ?nbb6
               case ybb6 => intro W; go_simp; try with_reducible rfl
               try simp only [Act.put, List.setIfInBounds_toArray, List.set_cons_zero, List.set_cons_succ]
               refine stepE_any 7 (some 77) (v := ?vbb7) (fun _ => Keep.refl _ _) rfl (by rfl) (by kernel_rfl) (by kernel_rfl) (by kernel_rfl) (by decide) (fun _ _ _ h => h) (by rfl) ?ybb7 ?nbb7
               case ybb7 => intro W; go_simp; try with_reducible rfl
               try simp only [Act.put, List.setIfInBounds_toArray, List.set_cons_zero, List.set_cons_succ]
               refine stepE_any 8 (some 78) (v := ?vbb8) (fun _ => Keep.refl _ _) rfl (by rfl) (by kernel_rfl) (by kernel_rfl) (by kernel_rfl) (by decide) (fun _ _ _ h => h) (by rfl) ?ybb8 ?nbb8
               case ybb8 => intro W; go_simp; try with_reducible rfl
               try simp only [Act.put, List.setIfInBounds_toArray, List.set_cons_zero, List.set_cons_succ]
               refine stepE_any 9 (some 79) (v := ?vbb9) (fun _ => Keep.refl _ _) rfl (by rfl) (by kernel_rfl) (by kernel_rfl) (by kernel_rfl) (by decide) (fun _ _ _ h => h) (by rfl) ?ybb9 ?nbb9
               case ybb9 => intro W; go_simp; try with_reducible rfl
               try simp only [Act.put, List.setIfInBounds_toArray, List.set_cons_zero, List.set_cons_succ]
               refine stepE_any 10 (some 80) (v := ?vbb10) (fun _ => Keep.refl _ _) rfl (by rfl) (by kernel_rfl) (by kernel_rfl) (by kernel_rfl) (by decide) (fun _ _ _ h => h) (by rfl) ?ybb10 ?nbb10
               case ybb10 => intro W; go_simp; try with_reducible rfl
               try simp only [Act.put, List.setIfInBounds_toArray, List.set_cons_zero, List.set_cons_succ]
               refine stepE_any 11 (some 81) (v := ?vbb11) (fun _ => Keep.refl _ _) rfl (by rfl) (by kernel_rfl) (by kernel_rfl) (by kernel_rfl) (by decide) (fun _ _ _ h => h) (by rfl) ?ybb11 ?nbb11
               case ybb11 => intro W; go_simp; try with_reducible rfl
               try simp only [Act.put, List.setIfInBounds_toArray, List.set_cons_zero, List.set_cons_succ]
               -- 12: builtin:copy -> 82
               refine stepE_end 12 rfl (by kernel_rfl) (by rfl) (by rfl) (fun K' hK => ?_)
               refine wp_copyB (Blk.keep (w := w2) HD2.out.sec (Keep.drew (fun _ => False) w2) (fun h => h)) (.tmp 78) (.tmp 81) 24 24 rfl (u9.pos * 64) (64) 64 _ (u9.new.take (64)) HNU.out (by rw [HNL.out]; omega) HF9.out 5 Tryd.underlying24 (by kernel_rfl) (by rfl) (by rfl) (fun w4 hb4 hk4 => hK _ _ ?_)
               clear hK K'
               refine wpAnyE_done (by kernel_rfl) ?_ _
               have hk4' : Keep (fun j => j = S) w2.drew w4 := hk4 _ rfl
               have hb4' : Blk w4 S 73 (flat (SK.set u9.pos (u9.new.take (64) ++ (SK.getD u9.pos []).drop (64)))) := by
                 have e := flat_head SK u9.pos (u9.new.take (64)) _ 64 (fun s hs => (HD2.out.secs_ok s hs).1) (by rw [HNL.out]; omega) hpos rfl
                 rw [HNL.out] at e
                 rw [HNL.out, e] at hb4
                 exact hb4
               have hd4 : IsDisk w4 B S (.slice p uns.length c) (redoN KN torn (undo uns secs) (k + 1)) uns l := by
                 have e9 : newN KN torn k = 64 := by unfold newN; rw [if_neg (by omega)]
                 rw [redoN, HUK.out, HSK.out, e9]
                 exact (HD2.out.keep (Keep.drew (fun _ => False) w2) (fun _ _ h => h)).setSec hk4' (torn_ok HGK.out.2.2 (sec_get HD2.out.secs_ok hpos) _) hb4'
               have HD4 := Lib.hid hd4
               have HK4 : Hid (Keep (fun j => j = S) w w4) := Lib.hid (((HKP.out.trans' (Keep.ofBelow (bad := fun _ => False) HBL2.out) (fun _ _ h => h.elim)).trans (Keep.drew _ _)).trans' hk4' (fun _ _ h => h))
               have HR4 : Hid (w4.ownsRow w0.heap.size 75 129 (.slice (some ⟨g, 0, none⟩) KN.length cK) KN.length (KN.flatMap Un.cells)) := Lib.hid (ownsRow_keep (ownsRow_keep HRK.out (Keep.ofBelow (bad := fun _ => False) HBL2.out) (fun _ _ h => h)) ((Keep.drew (fun j => j = S) w2).trans hk4') (fun j e1 e2 => by have := (HRK.out.lt j e1).1; omega))
               clear hb4 hb4' hk4 hk4' hd4
               go_wp2
               go_roundw
               case rel => exact ⟨k + 1, by omega, by go_num, HD4.out, HK4.out, HR4.out⟩
               case measure => simp [intOf]; omega
           · have ht0' : torn < 0 := by omega
             go_wp2_with (first | ((with_reducible refine wpList_loadM (.tmp 53) g (k * 129) (Un.cells u9) _ HR9.out Tryd.underlying75 rfl ?_ ?_ ?_); exact HI9.out; exact rfl) | ((with_reducible refine wpList_allocM zeroWrite ?_ ?_); exact zeroWr) | ((with_reducible refine wpList_storeN (.tmp 9) (.tmp 54) (Un.cells u9) (Un.cells_one _) ?_ ?_ ?_ ?_ ?_); exact HI9.out; exact rfl; exact rfl; exact HL9.out; intro w2 hb2 hbl2 hz2; have HZ2 := Lib.hid hz2; have HB2 := Lib.hid hb2; have HBL2 := Lib.hid hbl2; have HD2 := Lib.hid (HDK.out.later hbl2); have hc2 : ∀ W, Keep (fun _ => False) w2.drew W → W.cell? ⟨wr.heap.size, 0, none⟩ = some (.int .i64 u9.pos) := (fun W hW => by rw [hW.cell (fun h => h) (show wr.heap.size < w2.drew.heap.size from hb2.lt)]; exact hb2.cell 0); have HC2 := Lib.hid hc2; clear hz2 hb2 hbl2 hc2))
             have hnu : NumsOff (fun _ => False) w2.drew (.slice (some ⟨wr.heap.size, 65, none⟩) (64) 64) (u9.new.take (64)) := by
               refine NumsOff.of (Blk.nums (w := w2.drew) HB2.out 65 64 _ _ ?_ (fun j hj => ?_)) (fun _ _ h => h)
               · rw [List.length_take, HGK.out.2.2.1]; omega
               · rw [List.length_take, HGK.out.2.2.1] at hj
                 show (Un.cells u9)[65 + j]? = _
                 rw [show 65 + j = (64 + j) + 1 by omega]
                 show (B8 u9.was ++ B8 u9.new)[64 + j]? = _
                 rw [List.getElem?_append_right (by rw [B8_len, HGK.out.2.1.1]; omega), B8_len, HGK.out.2.1.1, Nat.add_sub_cancel_left, B8_take, List.getElem?_take, if_pos (by omega)]
             have hnl : (u9.new.take (64)).length = 64 := by rw [List.length_take, HGK.out.2.2.1]; omega
             have hf9 : u9.pos * 64 + (u9.new.take (64)).length ≤ (flat SK).length := by
               have := parts_len B8 64 SK (fun s hs => by rw [B8_len]; exact (HD2.out.secs_ok s hs).1)
               unfold flat
               rw [this, hnl]
               have : (u9.pos + 1) * 64 ≤ SK.length * 64 := Nat.mul_le_mul_right _ hpos
               omega
             have HNU := Lib.hid hnu.nums
             have HNL := Lib.hid hnl
             have HF9 := Lib.hid hf9
             have hnnI : ((64 : Nat) : Int) ≤ 64 := by omega
             have hnn0 : (0 : Int) ≤ ((64 : Nat) : Int) := by omega
             clear hnu hnl hf9
             go_wp2_with fail
             refine regionE_begin 12 (fun W => Keep (fun _ => False) w2.drew W) (by kernel_rfl) ?_
             refine stepE_any 0 (some 70) (v := ?vbc0) (fun _ => Keep.refl _ _) rfl (by rfl) (by kernel_rfl) (by kernel_rfl) (by kernel_rfl) (by decide) (fun _ _ _ h => h) (by rfl) ?ybc0 ?nbc0
             case ybc0 => intro W; go_simp; try with_reducible rfl
             try simp only [Act.put, List.setIfInBounds_toArray, List.set_cons_zero, List.set_cons_succ]
             refine stepE_any 1 (some 71) (v := ?vbc1) (fun _ => Keep.refl _ _) rfl (by rfl) (by kernel_rfl) (by kernel_rfl) (by kernel_rfl) (by decide) (fun _ _ _ h => h) (by rfl) ?ybc1 ?nbc1
             case ybc1 => intro W; go_simp; try with_reducible rfl
             try simp only [Act.put, List.setIfInBounds_toArray, List.set_cons_zero, List.set_cons_succ]
             refine stepE_any 2 (some 72) (v := ?vbc2) (fun _ => Keep.refl _ _) rfl (by rfl) (by kernel_rfl) (by kernel_rfl) (by kernel_rfl) (by decide) (fun _ _ _ h => h) (by rfl) ?ybc2 ?nbc2
             case ybc2 => intro W; go_simp; try with_reducible rfl
             try simp only [Act.put, List.setIfInBounds_toArray, List.set_cons_zero, List.set_cons_succ]
             refine stepE_read 3 14 (some 73) (v := ?vbc3) (Keep.refl _ _) rfl (by rfl) (by kernel_rfl) (by kernel_rfl) (by kernel_rfl) (by kernel_rfl) (by kernel_rfl) (fun _ _ _ h => h) (by rfl) ?ybc3 ?nbc3
             case ybc3 => intro W hW; have q := (HD2.out.head.keep (w := w2.drew) hW (fun h => h)).1; go_simp; try with_reducible rfl
             try simp only [Act.put, List.setIfInBounds_toArray, List.set_cons_zero, List.set_cons_succ]
             refine stepE_any 4 (some 74) (v := ?vbc4) (fun _ => Keep.refl _ _) rfl (by rfl) (by kernel_rfl) (by kernel_rfl) (by kernel_rfl) (by decide) (fun _ _ _ h => h) (by rfl) ?ybc4 ?nbc4
             case ybc4 => intro W; go_simp; try with_reducible rfl
             try simp only [Act.put, List.setIfInBounds_toArray, List.set_cons_zero, List.set_cons_succ]
             refine stepE_read 5 14 (some 75) (v := ?vbc5) (Keep.refl _ _) rfl (by rfl) (by kernel_rfl) (by kernel_rfl) (by kernel_rfl) (by kernel_rfl) (by kernel_rfl) (fun _ _ _ h => h) (by rfl) ?ybc5 ?nbc5
             case ybc5 => intro W hW; have q := HC2.out W hW; go_simp; try with_reducible rfl
             try simp only [Act.put, List.setIfInBounds_toArray, List.set_cons_zero, List.set_cons_succ]
             refine stepE_any 6 (some 76) (v := ?vbc6) (fun _ => Keep.refl _ _) rfl (by rfl) (by kernel_rfl) (by kernel_rfl) (by kernel_rfl) (by decide) (fun _ _ _ h => h) (by rfl) ?ybc6 ?nbc6
             case ybc6 => intro W; go_simp; try with_reducible rfl
             try simp only [Act.put, List.setIfInBounds_toArray, List.set_cons_zero, List.set_cons_succ]
             refine stepE_any 7 (some 77) (v := ?vbc7) (fun _ => Keep.refl _ _) rfl (by rfl) (by kernel_rfl) (by kernel_rfl) (by kernel_rfl) (by decide) (fun _ _ _ h => h) (by rfl) ?ybc7 ?nbc7
             case ybc7 => intro W; go_simp; try with_reducible rfl
             try simp only [Act.put, List.setIfInBounds_toArray, List.set_cons_zero, List.set_cons_succ]
             refine stepE_any 8 (some 78) (v := ?vbc8) (fun _ => Keep.refl _ _) rfl (by rfl) (by kernel_rfl) (by kernel_rfl) (by kernel_rfl) (by decide) (fun _ _ _ h => h) (by rfl) ?ybc8 ?nbc8
             case ybc8 => intro W; go_simp; try with_reducible rfl
             try simp only [Act.put, List.setIfInBounds_toArray, List.set_cons_zero, List.set_cons_succ]
             refine stepE_any 9 (some 79) (v := ?vbc9) (fun _ => Keep.refl _ _) rfl (by rfl) (by kernel_rfl) (by kernel_rfl) (by kernel_rfl) (by decide) (fun _ _ _ h => h) (by rfl) ?ybc9 ?nbc9
             case ybc9 => intro W; go_simp; try with_reducible rfl
             try simp only [Act.put, List.setIfInBounds_toArray, List.set_cons_zero, List.set_cons_succ]
             refine stepE_any 10 (some 80) (v := ?vbc10) (fun _ => Keep.refl _ _) rfl (by rfl) (by kernel_rfl) (by kernel_rfl) (by kernel_rfl) (by decide) (fun _ _ _ h => h) (by rfl) ?ybc10 ?nbc10
             case ybc10 => intro W; go_simp; try with_reducible rfl
             try simp only [Act.put, List.setIfInBounds_toArray, List.set_cons_zero, List.set_cons_succ]
             refine stepE_any 11 (some 81) (v := ?vbc11) (fun _ => Keep.refl _ _) rfl (by rfl) (by kernel_rfl) (by kernel_rfl) (by kernel_rfl) (by decide) (fun _ _ _ h => h) (by rfl) ?ybc11 ?nbc11
             case ybc11 => intro W; go_simp; try with_reducible rfl
             try simp only [Act.put, List.setIfInBounds_toArray, List.set_cons_zero, List.set_cons_succ]
             -- 12: builtin:copy -> 82
             refine stepE_end 12 rfl (by kernel_rfl) (by rfl) (by rfl) (fun K' hK => ?_)
             refine wp_copyB (Blk.keep (w := w2) HD2.out.sec (Keep.drew (fun _ => False) w2) (fun h => h)) (.tmp 78) (.tmp 81) 24 24 rfl (u9.pos * 64) (64) 64 _ (u9.new.take (64)) HNU.out (by rw [HNL.out]; omega) HF9.out 5 Tryd.underlying24 (by kernel_rfl) (by rfl) (by rfl) (fun w4 hb4 hk4 => hK _ _ ?_)
             clear hK K'
             refine wpAnyE_done (by kernel_rfl) ?_ _
             have hk4' : Keep (fun j => j = S) w2.drew w4 := hk4 _ rfl
             have hb4' : Blk w4 S 73 (flat (SK.set u9.pos (u9.new.take (64) ++ (SK.getD u9.pos []).drop (64)))) := by
               have e := flat_head SK u9.pos (u9.new.take (64)) _ 64 (fun s hs => (HD2.out.secs_ok s hs).1) (by rw [HNL.out]; omega) hpos rfl
               rw [HNL.out] at e
               rw [HNL.out, e] at hb4
               exact hb4
             have hd4 : IsDisk w4 B S (.slice p uns.length c) (redoN KN torn (undo uns secs) (k + 1)) uns l := by
               have e9 : newN KN torn k = 64 := by unfold newN; rw [if_neg (by omega)]
               rw [redoN, HUK.out, HSK.out, e9]
               exact (HD2.out.keep (Keep.drew (fun _ => False) w2) (fun _ _ h => h)).setSec hk4' (torn_ok HGK.out.2.2 (sec_get HD2.out.secs_ok hpos) _) hb4'
             have HD4 := Lib.hid hd4
             have HK4 : Hid (Keep (fun j => j = S) w w4) := Lib.hid (((HKP.out.trans' (Keep.ofBelow (bad := fun _ => False) HBL2.out) (fun _ _ h => h.elim)).trans (Keep.drew _ _)).trans' hk4' (fun _ _ h => h))
             have HR4 : Hid (w4.ownsRow w0.heap.size 75 129 (.slice (some ⟨g, 0, none⟩) KN.length cK) KN.length (KN.flatMap Un.cells)) := Lib.hid (ownsRow_keep (ownsRow_keep HRK.out (Keep.ofBelow (bad := fun _ => False) HBL2.out) (fun _ _ h => h)) ((Keep.drew (fun j => j = S) w2).trans hk4') (fun j e1 e2 => by have := (HRK.out.lt j e1).1; omega))
             clear hb4 hb4' hk4 hk4' hd4
             go_wp2
             go_roundw
             case rel => exact ⟨k + 1, by omega, by go_num, HD4.out, HK4.out, HR4.out⟩
             case measure => simp [intOf]; omega
         · have e1 : ((k : Int) == (KN.length : Int) - 1) = false := by simp; omega
           go_wp2_with (first | ((with_reducible refine wpList_loadM (.tmp 53) g (k * 129) (Un.cells u9) _ HR9.out Tryd.underlying75 rfl ?_ ?_ ?_); exact HI9.out; exact rfl) | ((with_reducible refine wpList_allocM zeroWrite ?_ ?_); exact zeroWr) | ((with_reducible refine wpList_storeN (.tmp 9) (.tmp 54) (Un.cells u9) (Un.cells_one _) ?_ ?_ ?_ ?_ ?_); exact HI9.out; exact rfl; exact rfl; exact HL9.out; intro w2 hb2 hbl2 hz2; have HZ2 := Lib.hid hz2; have HB2 := Lib.hid hb2; have HBL2 := Lib.hid hbl2; have HD2 := Lib.hid (HDK.out.later hbl2); have hc2 : ∀ W, Keep (fun _ => False) w2.drew W → W.cell? ⟨wr.heap.size, 0, none⟩ = some (.int .i64 u9.pos) := (fun W hW => by rw [hW.cell (fun h => h) (show wr.heap.size < w2.drew.heap.size from hb2.lt)]; exact hb2.cell 0); have HC2 := Lib.hid hc2; clear hz2 hb2 hbl2 hc2))
           have hnu : NumsOff (fun _ => False) w2.drew (.slice (some ⟨wr.heap.size, 65, none⟩) (64) 64) (u9.new.take (64)) := by
             refine NumsOff.of (Blk.nums (w := w2.drew) HB2.out 65 64 _ _ ?_ (fun j hj => ?_)) (fun _ _ h => h)
             · rw [List.length_take, HGK.out.2.2.1]; omega
             · rw [List.length_take, HGK.out.2.2.1] at hj
               show (Un.cells u9)[65 + j]? = _
               rw [show 65 + j = (64 + j) + 1 by omega]
               show (B8 u9.was ++ B8 u9.new)[64 + j]? = _
               rw [List.getElem?_append_right (by rw [B8_len, HGK.out.2.1.1]; omega), B8_len, HGK.out.2.1.1, Nat.add_sub_cancel_left, B8_take, List.getElem?_take, if_pos (by omega)]
           have hnl : (u9.new.take (64)).length = 64 := by rw [List.length_take, HGK.out.2.2.1]; omega
           have hf9 : u9.pos * 64 + (u9.new.take (64)).length ≤ (flat SK).length := by
             have := parts_len B8 64 SK (fun s hs => by rw [B8_len]; exact (HD2.out.secs_ok s hs).1)
             unfold flat
             rw [this, hnl]
             have : (u9.pos + 1) * 64 ≤ SK.length * 64 := Nat.mul_le_mul_right _ hpos
             omega
           have HNU := Lib.hid hnu.nums
           have HNL := Lib.hid hnl
           have HF9 := Lib.hid hf9
           have hnnI : ((64 : Nat) : Int) ≤ 64 := by omega
           have hnn0 : (0 : Int) ≤ ((64 : Nat) : Int) := by omega
           clear hnu hnl hf9
           go_wp2_with fail
           refine regionE_begin 12 (fun W => Keep (fun _ => False) w2.drew W) (by kernel_rfl) ?_
           refine stepE_any 0 (some 70) (v := ?vbd0) (fun _ => Keep.refl _ _) rfl (by rfl) (by kernel_rfl) (by kernel_rfl) (by kernel_rfl) (by decide) (fun _ _ _ h => h) (by rfl) ?ybd0 ?nbd0
           case ybd0 => intro W; go_simp; try with_reducible rfl
           try simp only [Act.put, List.setIfInBounds_toArray, List.set_cons_zero, List.set_cons_succ]
           refine stepE_any 1 (some 71) (v := ?vbd1) (fun _ => Keep.refl _ _) rfl (by rfl) (by kernel_rfl) (by kernel_rfl) (by kernel_rfl) (by decide) (fun _ _ _ h => h) (by rfl) ?ybd1 ?nbd1
           case ybd1 => intro W; go_simp; try with_reducible rfl
           try simp only [Act.put, List.setIfInBounds_toArray, List.set_cons_zero, List.set_cons_succ]
           refine stepE_any 2 (some 72) (v := ?vbd2) (fun _ => Keep.refl _ _) rfl (by rfl) (by kernel_rfl) (by kernel_rfl) (by kernel_rfl) (by decide) (fun _ _ _ h => h) (by rfl) ?ybd2 ?nbd2
           case ybd2 => intro W; go_simp; try with_reducible rfl
           try simp only [Act.put, List.setIfInBounds_toArray, List.set_cons_zero, List.set_cons_succ]
           refine stepE_read 3 14 (some 73) (v := ?vbd3) (Keep.refl _ _) rfl (by rfl) (by kernel_rfl) (by kernel_rfl) (by kernel_rfl) (by kernel_rfl) (by kernel_rfl) (fun _ _ _ h => h) (by rfl) ?ybd3 ?nbd3
           case ybd3 => intro W hW; have q := (HD2.out.head.keep (w := w2.drew) hW (fun h => h)).1; go_simp; try with_reducible rfl
           try simp only [Act.put, List.setIfInBounds_toArray, List.set_cons_zero, List.set_cons_succ]
           refine stepE_any 4 (some 74) (v := ?vbd4) (fun _ => Keep.refl _ _) rfl (by rfl) (by kernel_rfl) (by kernel_rfl) (by kernel_rfl) (by decide) (fun _ _ _ h => h) (by rfl) ?ybd4 ?nbd4
           case ybd4 => intro W; go_simp; try with_reducible rfl
           try simp only [Act.put, List.setIfInBounds_toArray, List.set_cons_zero, List.set_cons_succ]
           refine stepE_read 5 14 (some 75) (v := ?vbd5) (Keep.refl _ _) rfl (by rfl) (by kernel_rfl) (by kernel_rfl) (by kernel_rfl) (by kernel_rfl) (by kernel_rfl) (fun _ _ _ h => h) (by rfl) ?ybd5 ?nbd5
           case ybd5 => intro W hW; have q := HC2.out W hW; go_simp; try with_reducible rfl
           try simp only [Act.put, List.setIfInBounds_toArray, List.set_cons_zero, List.set_cons_succ]
           refine stepE_any 6 (some 76) (v := ?vbd6) (fun _ => Keep.refl _ _) rfl (by rfl) (by kernel_rfl) (by kernel_rfl) (by kernel_rfl) (by decide) (fun _ _ _ h => h) (by rfl) ?ybd6 ?nbd6
           case ybd6 => intro W; go_simp; try with_reducible rfl
           try simp only [Act.put, List.setIfInBounds_toArray, List.set_cons_zero, List.set_cons_succ]
           refine stepE_any 7 (some 77) (v := ?vbd7) (fun _ => Keep.refl _ _) rfl (by rfl) (by kernel_rfl) (by kernel_rfl) (by kernel_rfl) (by decide) (fun _ _ _ h => h) (by rfl) ?ybd7 ?nbd7
           case ybd7 => intro W; go_simp; try with_reducible rfl
           try simp only [Act.put, List.setIfInBounds_toArray, List.set_cons_zero, List.set_cons_succ]
           refine stepE_any 8 (some 78) (v := ?vbd8) (fun _ => Keep.refl _ _) rfl (by rfl) (by kernel_rfl) (by kernel_rfl) (by kernel_rfl) (by decide) (fun _ _ _ h => h) (by rfl) ?ybd8 ?nbd8
           case ybd8 => intro W; go_simp; try with_reducible rfl
           try simp only [Act.put, List.setIfInBounds_toArray, List.set_cons_zero, List.set_cons_succ]
           refine stepE_any 9 (some 79) (v := ?vbd9) (fun _ => Keep.refl _ _) rfl (by rfl) (by kernel_rfl) (by kernel_rfl) (by kernel_rfl) (by decide) (fun _ _ _ h => h) (by rfl) ?ybd9 ?nbd9
           case ybd9 => intro W; go_simp; try with_reducible rfl
           try simp only [Act.put, List.setIfInBounds_toArray, List.set_cons_zero, List.set_cons_succ]
           refine stepE_any 10 (some 80) (v := ?vbd10) (fun _ => Keep.refl _ _) rfl (by rfl) (by kernel_rfl) (by kernel_rfl) (by kernel_rfl) (by decide) (fun _ _ _ h => h) (by rfl) ?ybd10 ?nbd10
           case ybd10 => intro W; go_simp; try with_reducible rfl
           try simp only [Act.put, List.setIfInBounds_toArray, List.set_cons_zero, List.set_cons_succ]
           refine stepE_any 11 (some 81) (v := ?vbd11) (fun _ => Keep.refl _ _) rfl (by rfl) (by kernel_rfl) (by kernel_rfl) (by kernel_rfl) (by decide) (fun _ _ _ h => h) (by rfl) ?ybd11 ?nbd11
           case ybd11 => intro W; go_simp; try with_reducible rfl
           try simp only [Act.put, List.setIfInBounds_toArray, List.set_cons_zero, List.set_cons_succ]
           -- 12: builtin:copy -> 82
           refine stepE_end 12 rfl (by kernel_rfl) (by rfl) (by rfl) (fun K' hK => ?_)
           refine wp_copyB (Blk.keep (w := w2) HD2.out.sec (Keep.drew (fun _ => False) w2) (fun h => h)) (.tmp 78) (.tmp 81) 24 24 rfl (u9.pos * 64) (64) 64 _ (u9.new.take (64)) HNU.out (by rw [HNL.out]; omega) HF9.out 5 Tryd.underlying24 (by kernel_rfl) (by rfl) (by rfl) (fun w4 hb4 hk4 => hK _ _ ?_)
           clear hK K'
           refine wpAnyE_done (by kernel_rfl) ?_ _
           have hk4' : Keep (fun j => j = S) w2.drew w4 := hk4 _ rfl
           have hb4' : Blk w4 S 73 (flat (SK.set u9.pos (u9.new.take (64) ++ (SK.getD u9.pos []).drop (64)))) := by
             have e := flat_head SK u9.pos (u9.new.take (64)) _ 64 (fun s hs => (HD2.out.secs_ok s hs).1) (by rw [HNL.out]; omega) hpos rfl
             rw [HNL.out] at e
             rw [HNL.out, e] at hb4
             exact hb4
           have hd4 : IsDisk w4 B S (.slice p uns.length c) (redoN KN torn (undo uns secs) (k + 1)) uns l := by
             have e9 : newN KN torn k = 64 := by unfold newN; rw [if_neg (by omega)]
             rw [redoN, HUK.out, HSK.out, e9]
             exact (HD2.out.keep (Keep.drew (fun _ => False) w2) (fun _ _ h => h)).setSec hk4' (torn_ok HGK.out.2.2 (sec_get HD2.out.secs_ok hpos) _) hb4'
           have HD4 := Lib.hid hd4
           have HK4 : Hid (Keep (fun j => j = S) w w4) := Lib.hid (((HKP.out.trans' (Keep.ofBelow (bad := fun _ => False) HBL2.out) (fun _ _ h => h.elim)).trans (Keep.drew _ _)).trans' hk4' (fun _ _ h => h))
           have HR4 : Hid (w4.ownsRow w0.heap.size 75 129 (.slice (some ⟨g, 0, none⟩) KN.length cK) KN.length (KN.flatMap Un.cells)) := Lib.hid (ownsRow_keep (ownsRow_keep HRK.out (Keep.ofBelow (bad := fun _ => False) HBL2.out) (fun _ _ h => h)) ((Keep.drew (fun j => j = S) w2).trans hk4') (fun j e1 e2 => by have := (HRK.out.lt j e1).1; omega))
           clear hb4 hb4' hk4 hk4' hd4
           go_wp2
           go_roundw
           case rel => exact ⟨k + 1, by omega, by go_num, HD4.out, HK4.out, HR4.out⟩
           case measure => simp [intOf]; omega
       · obtain rfl : k = KN.length := by omega
         rw [← HCR.out] at hd
         obtain ⟨q1, q2⟩ := hd.setNone
         obtain ⟨q3, q4⟩ := q1.setLeft (-1) (by omega) (by omega)
         obtain ⟨-, h1, h2, -, h4, h5⟩ := id hd.head
         obtain ⟨-, h21, h22, -, h24, h25⟩ := id q1.head
         have Q3 := Lib.hid q3
         have Q4 := Lib.hid (q2.trans q4)
         have HKP := Lib.hid hkp
         clear q1 q2 q3 q4 hd hkp hrk
         go_wp2
         go_returns
         exact ⟨rfl, Q3.out, (HKP.out.mono (fun _ e => .inr (.inl e))).trans (Q4.out.mono (fun _ e => .inl e))⟩
   · have hk' : k < uns.length := by omega
     obtain ⟨g, rfl, hbg, hgl, hlc, hcm, hrow⟩ := row_at hd.row hd.uns_ok (by omega)
     have hgk := un_at hd.uns_ok hk'
     have hst := undo_drop uns secs k hk'
     have hr9 := hrow k hk'
     generalize uns.getD k ⟨0, [], []⟩ = u9 at hgk hst hr9
     have HST := Lib.hid hst
     have hlt := hd.lt
     have hmany := hd.many
     unfold maxLen at hcm
     have hpos := hgk.1
     have hi9 : (Tryd.prog.info? 73).map (·.size) = some (B8 u9.was).length := by rw [B8_len, hgk.2.1.1]; exact infoSec
     have HI9 := Lib.hid hi9
     have hf9 : u9.pos * 64 + (B8 u9.was).length ≤ (flat (undo (uns.drop (k + 1)) secs)).length := by
       have := parts_len B8 64 (undo (uns.drop (k + 1)) secs) (fun s hs => by rw [B8_len]; exact (hd.secs_ok s hs).1)
       unfold flat
       rw [this, B8_len, hgk.2.1.1]
       have : (u9.pos + 1) * 64 ≤ (undo (uns.drop (k + 1)) secs).length * 64 := Nat.mul_le_mul_right _ hpos
       omega
     have HF9 := Lib.hid hf9
     have hc0 : ∀ W, Keep (fun _ => False) wr.drew W → W.cell? ⟨g, k * 129, none⟩ = some (.int .i64 u9.pos) := fun W hW => by
       rw [hW.cell (fun h => h) hgl]
       have := hr9 0 _ rfl
       rwa [Nat.add_zero] at this
     have HC0 := Lib.hid hc0
     have hr1 : ∀ W, Keep (fun _ => False) wr.drew W → W.rangeAt g (k * 129 + 1) (B8 u9.was) := fun W hW j v hv => by
       rw [hW.cell (fun h => h) hgl]
       have hj : j < (B8 u9.was).length := (List.getElem?_eq_some_iff.1 hv).1
       have := hr9 (j + 1) v (by show (B8 u9.was ++ B8 u9.new)[j]? = _; rw [List.getElem?_append_left hj]; exact hv)
       rw [show k * 129 + 1 + j = k * 129 + (j + 1) by omega]
       exact this
     have HR1 := Lib.hid hr1
     have HGK := Lib.hid hgk
     have HD := Lib.hid hd
     have HKP := Lib.hid hkp
     have hkI : (k : Int) + 1 ≤ uns.length := by omega
     have hposI : (u9.pos : Int) < (undo (uns.drop (k + 1)) secs).length := by omega
     have hw1 : (((k + 1 : Nat) : Int) - 1) = (k : Int) := by omega
     rw [hw1]
     clear hw1 hst hr9 hi9 hf9 hc0 hr1 hgk hd hkp hrow hk
     go_wp2_with fail
     refine regionE_begin 21 (fun W => Keep (fun _ => False) wr.drew W) (by kernel_rfl) ?_
     refine stepE_any 0 (some 21) (v := ?va0) (fun _ => Keep.refl _ _) rfl (by rfl) (by kernel_rfl) (by kernel_rfl) (by kernel_rfl) (by decide) (fun _ _ _ h => h) (by rfl) ?ya0 ?na0
     case ya0 => intro W; go_simp; try with_reducible rfl
     try simp only [Act.put, List.setIfInBounds_toArray, List.set_cons_zero, List.set_cons_succ]
     refine stepE_any 1 (some 22) (v := ?va1) (fun _ => Keep.refl _ _) rfl (by rfl) (by kernel_rfl) (by kernel_rfl) (by kernel_rfl) (by decide) (fun _ _ _ h => h) (by rfl) ?ya1 ?na1
     case ya1 => intro W; go_simp; try with_reducible rfl
     try simp only [Act.put, List.setIfInBounds_toArray, List.set_cons_zero, List.set_cons_succ]
     refine stepE_any 2 (some 23) (v := ?va2) (fun _ => Keep.refl _ _) rfl (by rfl) (by kernel_rfl) (by kernel_rfl) (by kernel_rfl) (by decide) (fun _ _ _ h => h) (by rfl) ?ya2 ?na2
     case ya2 => intro W; go_simp; try with_reducible rfl
     try simp only [Act.put, List.setIfInBounds_toArray, List.set_cons_zero, List.set_cons_succ]
     refine stepE_read 3 22 (some 24) (v := ?va3) (Keep.refl _ _) rfl (by rfl) (by kernel_rfl) (by kernel_rfl) (by kernel_rfl) (by kernel_rfl) (by kernel_rfl) (fun _ _ _ h => h) (by rfl) ?ya3 ?na3
     case ya3 => intro W hW; have q := (HD.out.head.keep (w := wr.drew) hW (fun h => h)).1; go_simp; try with_reducible rfl
     try simp only [Act.put, List.setIfInBounds_toArray, List.set_cons_zero, List.set_cons_succ]
     refine stepE_any 4 (some 25) (v := ?va4) (fun _ => Keep.refl _ _) rfl (by rfl) (by kernel_rfl) (by kernel_rfl) (by kernel_rfl) (by decide) (fun _ _ _ h => h) (by rfl) ?ya4 ?na4
     case ya4 => intro W; go_simp; try with_reducible rfl
     try simp only [Act.put, List.setIfInBounds_toArray, List.set_cons_zero, List.set_cons_succ]
     refine stepE_any 5 (some 26) (v := ?va5) (fun _ => Keep.refl _ _) rfl (by rfl) (by kernel_rfl) (by kernel_rfl) (by kernel_rfl) (by decide) (fun _ _ _ h => h) (by rfl) ?ya5 ?na5
     case ya5 => intro W; go_simp; try with_reducible rfl
     try simp only [Act.put, List.setIfInBounds_toArray, List.set_cons_zero, List.set_cons_succ]
     refine stepE_any 6 (some 27) (v := ?va6) (fun _ => Keep.refl _ _) rfl (by rfl) (by kernel_rfl) (by kernel_rfl) (by kernel_rfl) (by decide) (fun _ _ _ h => h) (by rfl) ?ya6 ?na6
     case ya6 => intro W; go_simp; try with_reducible rfl
     try simp only [Act.put, List.setIfInBounds_toArray, List.set_cons_zero, List.set_cons_succ]
     refine stepE_read 7 22 (some 28) (v := ?va7) (Keep.refl _ _) rfl (by rfl) (by kernel_rfl) (by kernel_rfl) (by kernel_rfl) (by kernel_rfl) (by kernel_rfl) (fun _ _ _ h => h) (by rfl) ?ya7 ?na7
     case ya7 => intro W hW; have q := (HD.out.head.keep (w := wr.drew) hW (fun h => h)).2.1; go_simp; try with_reducible rfl
     try simp only [Act.put, List.setIfInBounds_toArray, List.set_cons_zero, List.set_cons_succ]
     refine stepE_any 8 (some 29) (v := ?va8) (fun _ => Keep.refl _ _) rfl (by rfl) (by kernel_rfl) (by kernel_rfl) (by kernel_rfl) (by decide) (fun _ _ _ h => h) (by rfl) ?ya8 ?na8
     case ya8 => intro W; go_simp; try with_reducible rfl
     try simp only [Act.put, List.setIfInBounds_toArray, List.set_cons_zero, List.set_cons_succ]
     refine stepE_any 9 (some 30) (v := ?va9) (fun _ => Keep.refl _ _) rfl (by rfl) (by kernel_rfl) (by kernel_rfl) (by kernel_rfl) (by decide) (fun _ _ _ h => h) (by rfl) ?ya9 ?na9
     case ya9 => intro W; go_simp; try with_reducible rfl
     try simp only [Act.put, List.setIfInBounds_toArray, List.set_cons_zero, List.set_cons_succ]
     refine stepE_any 10 (some 31) (v := ?va10) (fun _ => Keep.refl _ _) rfl (by rfl) (by kernel_rfl) (by kernel_rfl) (by kernel_rfl) (by decide) (fun _ _ _ h => h) (by rfl) ?ya10 ?na10
     case ya10 => intro W; go_simp; try with_reducible rfl
     try simp only [Act.put, List.setIfInBounds_toArray, List.set_cons_zero, List.set_cons_succ]
     refine stepE_read 11 22 (some 32) (v := ?va11) (Keep.refl _ _) rfl (by rfl) (by kernel_rfl) (by kernel_rfl) (by kernel_rfl) (by kernel_rfl) (by kernel_rfl) (fun _ _ _ h => h) (by rfl) ?ya11 ?na11
     case ya11 => intro W hW; have q := HC0.out W hW; go_simp; try with_reducible rfl
     try simp only [Act.put, List.setIfInBounds_toArray, List.set_cons_zero, List.set_cons_succ]
     refine stepE_any 12 (some 33) (v := ?va12) (fun _ => Keep.refl _ _) rfl (by rfl) (by kernel_rfl) (by kernel_rfl) (by kernel_rfl) (by decide) (fun _ _ _ h => h) (by rfl) ?ya12 ?na12
     case ya12 => intro W; go_simp; try with_reducible rfl
     try simp only [Act.put, List.setIfInBounds_toArray, List.set_cons_zero, List.set_cons_succ]
     refine stepE_any 13 (some 34) (v := ?va13) (fun _ => Keep.refl _ _) rfl (by rfl) (by kernel_rfl) (by kernel_rfl) (by kernel_rfl) (by decide) (fun _ _ _ h => h) (by rfl) ?ya13 ?na13
     case ya13 => intro W; go_simp; try with_reducible rfl
     try simp only [Act.put, List.setIfInBounds_toArray, List.set_cons_zero, List.set_cons_succ]
     refine stepE_any 14 (some 35) (v := ?va14) (fun _ => Keep.refl _ _) rfl (by rfl) (by kernel_rfl) (by kernel_rfl) (by kernel_rfl) (by decide) (fun _ _ _ h => h) (by rfl) ?ya14 ?na14
     case ya14 => intro W; go_simp; try with_reducible rfl
     try simp only [Act.put, List.setIfInBounds_toArray, List.set_cons_zero, List.set_cons_succ]
     refine stepE_read 15 22 (some 36) (v := ?va15) (Keep.refl _ _) rfl (by rfl) (by kernel_rfl) (by kernel_rfl) (by kernel_rfl) (by kernel_rfl) (by kernel_rfl) (fun _ _ _ h => h) (by rfl) ?ya15 ?na15
     case ya15 => intro W hW; have q := (HD.out.head.keep (w := wr.drew) hW (fun h => h)).2.1; go_simp; try with_reducible rfl
     try simp only [Act.put, List.setIfInBounds_toArray, List.set_cons_zero, List.set_cons_succ]
     refine stepE_any 16 (some 37) (v := ?va16) (fun _ => Keep.refl _ _) rfl (by rfl) (by kernel_rfl) (by kernel_rfl) (by kernel_rfl) (by decide) (fun _ _ _ h => h) (by rfl) ?ya16 ?na16
     case ya16 => intro W; go_simp; try with_reducible rfl
     try simp only [Act.put, List.setIfInBounds_toArray, List.set_cons_zero, List.set_cons_succ]
     refine stepE_any 17 (some 38) (v := ?va17) (fun _ => Keep.refl _ _) rfl (by rfl) (by kernel_rfl) (by kernel_rfl) (by kernel_rfl) (by decide) (fun _ _ _ h => h) (by rfl) ?ya17 ?na17
     case ya17 => intro W; go_simp; try with_reducible rfl
     try simp only [Act.put, List.setIfInBounds_toArray, List.set_cons_zero, List.set_cons_succ]
     refine stepE_any 18 (some 39) (v := ?va18) (fun _ => Keep.refl _ _) rfl (by rfl) (by kernel_rfl) (by kernel_rfl) (by kernel_rfl) (by decide) (fun _ _ _ h => h) (by rfl) ?ya18 ?na18
     case ya18 => intro W; go_simp; try with_reducible rfl
     try simp only [Act.put, List.setIfInBounds_toArray, List.set_cons_zero, List.set_cons_succ]
     refine stepE_read 19 22 (some 40) (v := ?va19) (Keep.refl _ _) rfl (by rfl) (by kernel_rfl) (by kernel_rfl) (by kernel_rfl) (by kernel_rfl) (by kernel_rfl) (fun _ _ _ h => h) (by rfl) ?ya19 ?na19
     case ya19 => intro W hW; ((refine exec_load 73 (.tmp 39) ?_ g (k * 129 + 1) ?_ (B8 u9.was) _ (HR1.out W hW) Tryd.underlying73 rfl HI9.out); rfl; rfl)
     try simp only [Act.put, List.setIfInBounds_toArray, List.set_cons_zero, List.set_cons_succ]
     refine stepE_any 20 (some 41) (v := ?va20) (fun _ => Keep.refl _ _) rfl (by rfl) (by kernel_rfl) (by kernel_rfl) (by kernel_rfl) (by decide) (fun _ _ _ h => h) (by rfl) ?ya20 ?na20
     case ya20 => intro W; go_simp; try with_reducible rfl
     try simp only [Act.put, List.setIfInBounds_toArray, List.set_cons_zero, List.set_cons_succ]
     -- 21: store -> None
     refine stepE_end 21 rfl (by kernel_rfl) (by rfl) (by rfl) (fun K' hK => ?_)
     refine wp_store_blk (Blk.keep (w := wr) HD.out.sec (Keep.drew (fun _ => False) wr) (fun h => h)) 73 (.tmp 41) (.tmp 40) rfl (u9.pos * 64) (B8 u9.was) (by rfl) (by rfl) HF9.out HI9.out (B8_one _) (fun w4 hb4 hk4 => hK _ _ ?_)
     clear hK K'
     refine wpAnyE_done (by kernel_rfl) ?_ _
     have hk4' : Keep (fun j => j = S) wr.drew w4 := hk4 _ rfl
     have hb4' : Blk w4 S 73 (flat ((undo (uns.drop (k + 1)) secs).set u9.pos u9.was)) := by
       have e := flat_head (undo (uns.drop (k + 1)) secs) u9.pos u9.was _ 64 (fun s hs => (HD.out.secs_ok s hs).1) (by rw [HGK.out.2.1.1]; omega) hpos rfl
       have e3 : ((undo (uns.drop (k + 1)) secs).getD u9.pos []).drop u9.was.length = [] := List.drop_of_length_le (by rw [HGK.out.2.1.1, (sec_get HD.out.secs_ok hpos).1]; omega)
       rw [e3, List.append_nil] at e
       rw [B8_len, e] at hb4
       exact hb4
     have hd4 : IsDisk w4 B S (.slice (some ⟨g, 0, none⟩) uns.length c) (undo (uns.drop k) secs) uns l := by
       rw [HST.out]
       exact (HD.out.keep (Keep.drew (fun _ => False) wr) (fun _ _ h => h)).setSec hk4' HGK.out.2.1 hb4'
     have HD4 := Lib.hid hd4
     have HK4 := Lib.hid (HKP.out.trans ((Keep.drew (fun j => j = S) wr).trans hk4'))
     clear hb4 hb4' hk4 hk4' hd4
     go_wp2
     go_roundw
     case rel => exact ⟨k, by omega, by go_num, HD4.out, HK4.out⟩
     case measure => simp [intOf]
end Go.Proofs.YtogjhjiapinmcaaDoor.K
end
section
namespace Go.Proofs.YtogjhjiapinmcaaDoor.K
open Go.ChangeShapes Go.WideShapes Go.ChangeAt Go.RowKit
set_option linter.unusedVariables false

theorem read_none {w : World} {B S : Nat} {vu : Value} {secs : List (List Int)} {uns : List Un} {l : Int} (h : IsDisk w B S vu secs uns l) (i : Int) (hi : ¬ (0 ≤ i ∧ i < secs.length)) :
   Calls Tryd.prog 57 #[.pointer (some ⟨B, 0, none⟩), .int .i64 i] w fun e w' => e = .returned (.slice none 0 0) ∧ w = w' := by
 go_enter Tryd.func57, Tryd.ntmps57
 go_wp2_with fail
 refine (diskhas_any B _ secs.length secs.length vu l i w h.head).mono ?_
 rintro e w' ⟨rfl, rfl⟩
 have hd : decide (0 ≤ i ∧ i < secs.length) = false := by simpa using hi
 rw [hd]
 clear hd hi
 go_wp2
 go_ret
 exact ⟨rfl, rfl⟩
theorem IsDisk.fresh {w : World} {B S : Nat} {vu : Value} {secs : List (List Int)} {uns : List Un} {l : Int} (h : IsDisk w B S vu secs uns l) : ¬ Mine B S vu w.heap.size := fun hm => by have := h.mine_lt _ hm; omega
theorem IsDisk.alloc {w : World} {B S : Nat} {vu : Value} {secs : List (List Int)} {uns : List Un} {l : Int} (h : IsDisk w B S vu secs uns l) (o : Obj) : IsDisk (w.alloc o) B S vu secs uns l := h.later ((Below.refl _ _).alloc (Nat.le_refl _) o)
end Go.Proofs.YtogjhjiapinmcaaDoor.K
end
section
namespace Go.Proofs.YtogjhjiapinmcaaDoor.K
open Go.ChangeShapes Go.WideShapes Go.ChangeAt Go.RowKit
set_option linter.unusedVariables false

section
variable {P : Program} {ops : Array Oper} {Q : Exit → Act → World → Prop} {md : Region.Mode} {S : World → Prop} {e : Nat}

def waitSet (md : Region.Mode) (ops : Array Oper) : Nat → List Nat → List Nat
 | 0, s => s
 | n + 1, s => bif s.contains n then (match ops[n]? with
     | some o => waitSet md ops n ((o.after.toList.filter (fun ed => Region.binds md ed)).map (·.on) ++ s)
     | none => waitSet md ops n s) else waitSet md ops n s
theorem waitSet_listed {L : Array Bool} (hc : Closed md ops L) : ∀ (n : Nat) (s : List Nat), (∀ x ∈ s, L.getD x false = true) → ∀ x ∈ waitSet md ops n s, L.getD x false = true
 | 0, s, h => h
 | n + 1, s, h => by
   unfold waitSet
   cases hs : s.contains n with
   | false => exact waitSet_listed hc n s h
   | true =>
     cases ho : ops[n]? with
     | none => exact waitSet_listed hc n s h
     | some o =>
       refine waitSet_listed hc n _ (fun x hx => ?_)
       rcases List.mem_append.1 hx with hx | hx
       · obtain ⟨ed, hed, rfl⟩ := List.mem_map.1 hx
         obtain ⟨h1, h2⟩ := List.mem_filter.1 hed
         exact hc.2 n o ho (h n (by simpa using hs)) ed (by simpa using h1) h2
       · exact h x hx
def waits (md : Region.Mode) (ops : Array Oper) (e i : Nat) : Bool := (waitSet md ops ops.size [e]).contains i
theorem waits_listed {L : Array Bool} (hc : Closed md ops L) {i : Nat} (h : waits md ops e i = true) (hl : L.getD e false = true) : L.getD i false = true :=
 waitSet_listed hc ops.size [e] (fun x hx => by rw [List.mem_singleton.1 hx]; exact hl) i (by simpa [waits] using h)

theorem wpAnyE_firstW {i : Nat} {oi : Oper} {v : Value} (hi : ops[i]? = some oi) (hsel : ∀ (j : Nat) (o : Oper) cs b, ops[j]? = some o → o.op ≠ .select cs b)
   (hQ : ∀ c a w, Q (.panic c) (a.put oi.dst v) w → Q (.panic c) a w) (hreach : waits md ops e i = true) (hei : i ≠ e) :
   ∀ (fuel : Nat) (listed : Array Bool) (a : Act) (w : World), Closed md ops listed →
     (∀ j oj, ops[j]? = some oj → j ≠ i → listed.getD j true = false → (∀ ed ∈ oj.after, Region.binds md ed = true → ed.on ≠ i) → oi.apart ops oj = true) →
     i ∈ Region.ready md ops listed → YieldsIf P ops S oi v a → S w →
     wpAnyE P md ops Q e S fuel (listed.setIfInBounds i true) (a.put oi.dst v) w → wpAnyE P md ops Q e S (fuel + 1) listed a w := by
 intro fuel
 induction fuel with
 | zero =>
   intro listed a w hc _ hr hy hS H
   refine ⟨fun h => (by rw [h] at hr; cases hr), fun j hj => ?_⟩
   by_cases hji : j = i
   · subst hji; exact hy.wpOp hi hS ⟨fun _ => hS, H⟩
   · have := ready_mono hj hji
     rw [H.1] at this
     cases this
 | succ fuel ih =>
   intro listed a w hc hfree hr hy hS H
   refine ⟨fun h => (by rw [h] at hr; cases hr), fun j hj => ?_⟩
   by_cases hji : j = i
   · subst hji; exact hy.wpOp hi hS ⟨fun _ => hS, H⟩
   · have h1 := H.2 j (ready_mono hj hji)
     obtain ⟨hjun, oj, hoj, hall⟩ := mem_ready.1 hj
     have hnot : ∀ ed ∈ oj.after, Region.binds md ed = true → ed.on ≠ i := fun ed he hb heq => by
       have h1 := hall ed he hb
       have h0 := (mem_ready.1 hr).1
       rw [heq, getD_both h0] at h1
       cases h1
     have h2 := wpOp_putIf hoj (hfree j oj hoj hji hjun hnot) (fun cs b => hsel i oi cs b hi) (fun cs b => hsel j oj cs b hoj) hQ hy h1
     have hfree' : ∀ k ok, ops[k]? = some ok → k ≠ i → (listed.setIfInBounds j true).getD k true = false →
         (∀ ed ∈ ok.after, Region.binds md ed = true → ed.on ≠ i) → oi.apart ops ok = true := fun k ok hk hki hun hno => by
       refine hfree k ok hk hki ?_ hno
       by_cases hjk : j = k
       · subst hjk; exact hjun
       · rw [getD_set_ne true hjk] at hun; exact hun
     have hc' := hc.set hj
     have hr' := ready_mono hr (Ne.symm hji)
     have hen : (listed.setIfInBounds j true).getD e false = false := by
       cases hq : (listed.setIfInBounds j true).getD e false with
       | false => rfl
       | true =>
         have := waits_listed hc' hreach hq
         rw [getD_both (mem_ready.1 hr').1] at this
         cases this
     refine wpOp_mono (fun a' w' h3 => ?_) h2
     have hS' : S w' := h3.2.1 (by rw [Array.setIfInBounds_comm _ _ (Ne.symm hji), getD_set_ne false hei]; exact hen)
     refine ⟨fun _ => hS', ih (listed.setIfInBounds j true) a' w' hc' hfree' hr' h3.1 hS' ?_⟩
     rw [Array.setIfInBounds_comm _ _ hji]
     exact h3.2.2

theorem stepE_readW (i : Nat) (d : Option Tmp) {oi : Oper} {v : Value} {fuel : Nat} {listed : Array Bool} {a : Act} {w : World} (hS : S w) (hi : ops[i]? = some oi) (hd : oi.dst = d)
   (hs : Region.noSelect ops = true) (hf : Region.free md ops listed i = true) (hr : (Region.ready md ops listed).contains i = true)
   (hc : closedB md ops listed = true) (hre : (waits md ops e i && decide (i ≠ e)) = true)
   (hQ : ∀ c a w, Q (.panic c) (a.put d v) w → Q (.panic c) a w) (hw : Region.wanted oi (yielded ops a.tmps) = true)
   (hy : ∀ W, S W → (execOp a.eval oi).run P W = .ok (.value v) W)
   (h : wpAnyE P md ops Q e S fuel (listed.setIfInBounds i true) (a.put d v) w) : wpAnyE P md ops Q e S (fuel + 1) listed a w := by
 subst hd
 simp only [Bool.and_eq_true, decide_eq_true_eq] at hre
 exact wpAnyE_firstW hi (Region.noSelect_spec hs) hQ hre.1 hre.2 fuel listed a w (closedB_spec hc) (Region.free_spec hi hf) (by simpa using hr) (.inl ⟨hw, hy⟩) hS h
end
end Go.Proofs.YtogjhjiapinmcaaDoor.K
end
