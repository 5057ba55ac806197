/- Small helps of a walk; the steps of a region that draws its order. For any program. -/
import Derived.Test.YtocfbocdnklllaaAb5
namespace Go.Proofs.Ytocfbocdnklllaa.K
open Go.ChangeShapes Go.WideShapes Go.ChangeAt Go.RowKit
set_option linter.unusedVariables false

theorem free_add {X : Cx} {M : Mm} {i : Nat} {r : Res} (hr : r.blk = none) {b : Nat} (h : Free X M b) : Free X ((i, r) :: M) b := by
 refine ⟨h.1, ?_⟩
 rintro ⟨j, s, hj, hs⟩
 rw [lk_cons] at hj
 split at hj
 · cases hj; rw [hr] at hs; cases hs
 · exact h.2 ⟨j, s, hj, hs⟩
theorem Rd.cast {S S' : Nat → Prop} {w : World} {v : Value} {d : D} (h : Rd S w v d) (hs : ∀ b, S b → S' b) : Rd S' w v d := h.mono (Nat.le_refl _) (fun b _ hS => ⟨rfl, hs b hS⟩)
theorem Rd.later {S : Nat → Prop} {w w' : World} {v : Value} {d : D} (h : Rd S w v d) (hb : Below w.heap.size w w') : Rd S w' v d := h.mono hb.size (fun b hlt hS => ⟨hb.block b hlt, hS⟩)
theorem Rd.any {S : Nat → Prop} {w : World} {v : Value} {d : D} (h : Rd S w v d) : Rd (fun _ => True) w v d := h.cast (fun _ _ => trivial)
theorem free_nil {X : Cx} {b : Nat} (h : X.Z b) : Free X [] b := ⟨h, fun ⟨i, r, h, _⟩ => by cases h⟩
def cx (S : Nat → Prop) (w : World) : Cx := ⟨[], fun b => b < w.heap.size → S b⟩
theorem MemOk.below {S : Nat → Prop} {w0 w w1 : World} {M : Mm} (m : MemOk (cx S w1) w0 M w) : Below w0.heap.size w0 w := ⟨m.keep.1, m.keep.2.1, m.keep.2.2.1, m.keep.2.2.2.1, fun k hk => m.keep.2.2.2.2 k hk (by simp [cx])⟩
theorem MemOk.start (S : Nat → Prop) (w : World) : MemOk (cx S w) w [] w := ⟨Keep.refl _ _, fun b hb hlt => absurd hlt (by omega), fun i r h => (by cases h), fun i j r s b h => (by cases h)⟩
section
variable {P : Program} {ops : Array Oper} {Q : Exit → Act → World → Prop} {md : Region.Mode} {S : World → Prop} {e : Nat}
theorem wpAnyE_held {i : Nat} {oi : Oper} {v : Value} (hi : ops[i]? = some oi) (hsel : ∀ (j : Nat) (o : Oper) cs b, ops[j]? = some o → o.op ≠ .select cs b)
   (hQ : ∀ c a w, Q (.panic c) (a.put oi.dst v) w → Q (.panic c) a w) (hbig : ops.size ≤ e) (hei : i ≠ e) :
   ∀ (fuel : Nat) (listed : Array Bool) (a : Act) (w : World), Closed md ops listed →
     (∀ j oj, ops[j]? = some oj → j ≠ i → listed.getD j true = false → (∀ ed ∈ oj.after, Region.binds md ed = true → ed.on ≠ i) → oi.apart ops oj = true) →
     i ∈ Region.ready md ops listed → YieldsIf P ops S oi v a → S w →
     wpAnyE P md ops Q e S fuel (listed.setIfInBounds i true) (a.put oi.dst v) w → wpAnyE P md ops Q e S (fuel + 1) listed a w := by
 intro fuel
 induction fuel with
 | zero =>
   intro listed a w hc _ hr hy hS H
   refine ⟨fun h => (by rw [h] at hr; cases hr), fun j hj => ?_⟩
   by_cases hji : j = i
   · subst hji; exact hy.wpOp hi hS ⟨fun _ => hS, H⟩
   · have := ready_mono hj hji
     rw [H.1] at this
     cases this
 | succ fuel ih =>
   intro listed a w hc hfree hr hy hS H
   refine ⟨fun h => (by rw [h] at hr; cases hr), fun j hj => ?_⟩
   by_cases hji : j = i
   · subst hji; exact hy.wpOp hi hS ⟨fun _ => hS, H⟩
   · have h1 := H.2 j (ready_mono hj hji)
     obtain ⟨hjun, oj, hoj, hall⟩ := mem_ready.1 hj
     have hnot : ∀ ed ∈ oj.after, Region.binds md ed = true → ed.on ≠ i := fun ed he hb heq => by
       have h1 := hall ed he hb
       have h0 := (mem_ready.1 hr).1
       rw [heq, getD_both h0] at h1
       cases h1
     have h2 := wpOp_putIf hoj (hfree j oj hoj hji hjun hnot) (fun cs b => hsel i oi cs b hi) (fun cs b => hsel j oj cs b hoj) hQ hy h1
     have hfree' : ∀ k ok, ops[k]? = some ok → k ≠ i → (listed.setIfInBounds j true).getD k true = false →
         (∀ ed ∈ ok.after, Region.binds md ed = true → ed.on ≠ i) → oi.apart ops ok = true := fun k ok hk hki hun hno => by
       refine hfree k ok hk hki ?_ hno
       by_cases hjk : j = k
       · subst hjk; exact hjun
       · rw [getD_set_ne true hjk] at hun; exact hun
     have hc' := hc.set hj
     have hr' := ready_mono hr (Ne.symm hji)
     have hen : (listed.setIfInBounds j true).getD e false = false := by
       have hsz : (listed.setIfInBounds j true).size = ops.size := hc'.1
       have hlt : ¬ e < (listed.setIfInBounds j true).size := by omega
       unfold Array.getD
       rw [dif_neg hlt]
     refine wpOp_mono (fun a' w' h3 => ?_) h2
     have hS' : S w' := h3.2.1 (by rw [Array.setIfInBounds_comm _ _ (Ne.symm hji), getD_set_ne false hei]; exact hen)
     refine ⟨fun _ => hS', ih (listed.setIfInBounds j true) a' w' hc' hfree' hr' h3.1 hS' ?_⟩
     rw [Array.setIfInBounds_comm _ _ hji]
     exact h3.2.2

theorem stepE_held (i : Nat) (d : Option Tmp) {oi : Oper} {v : Value} {fuel : Nat} {listed : Array Bool} {a : Act} {w : World} (hS : S w) (hi : ops[i]? = some oi) (hd : oi.dst = d)
   (hs : Region.noSelect ops = true) (hf : Region.free md ops listed i = true) (hr : (Region.ready md ops listed).contains i = true)
   (hc : closedB md ops listed = true) (hre : (decide (ops.size ≤ e) && decide (i ≠ e)) = true)
   (hQ : ∀ c a w, Q (.panic c) (a.put d v) w → Q (.panic c) a w) (hw : Region.wanted oi (Go.yielded ops a.tmps) = true)
   (hy : ∀ W, S W → (execOp a.eval oi).run P W = .ok (.value v) W)
   (h : wpAnyE P md ops Q e S fuel (listed.setIfInBounds i true) (a.put d v) w) : wpAnyE P md ops Q e S (fuel + 1) listed a w := by
 subst hd
 simp only [Bool.and_eq_true, decide_eq_true_eq] at hre
 exact wpAnyE_held hi (Region.noSelect_spec hs) hQ hre.1 hre.2 fuel listed a w (closedB_spec hc) (Region.free_spec hi hf) (by simpa using hr) (.inl ⟨hw, hy⟩) hS h
end
section
variable {P : Program} {n : Nat} {T : List (Nat × Value)} {a : Act} {w w0 : World} {X : Cx} {M : Mm} {tt : TypeId} {pos : String} {af : Array Edge} {ops : Array Oper} {Q : Exit → Act → World → Prop} {md : Region.Mode} {e fuel : Nat} {S : World → Prop} {listed : Array Bool}
theorem d_y (i : Nat) {d : Tmp} {op : Op} {v : Value} (ha : Has n T a) (hi : ops[i]? = some ⟨some d, op, tt, pos, af, none⟩) (ht : Nat.blt d n = true) (hS : listed.getD e false = false → S w)
   (hs : Region.noSelect ops = true) (hf : Region.free md ops listed i = true) (hr : (Region.ready md ops listed).contains i = true) (hei : decide (i ≠ e) = true)
   (hQ : ∀ c a w, Q (.panic c) (a.put (some d) v) w → Q (.panic c) a w) (hy : ∀ W, Yl P a W ⟨some d, op, tt, pos, af, none⟩ v)
   (h : ∀ a', Has n ((d, v) :: T) a' → wpAnyE P md ops Q e S fuel (listed.setIfInBounds i true) a' w) : wpAnyE P md ops Q e S (fuel + 1) listed a w :=
 stepE_any i (some d) hS hi rfl hs hf hr hei hQ rfl hy (h _ (ha.put ht v))
theorem d_yg (i : Nat) {d : Tmp} {op : Op} {v : Value} {j t : Nat} {b : Bool} (ha : Has n T a) (hi : ops[i]? = some ⟨some d, op, tt, pos, af, some (j, b)⟩) (hj : (ops[j]?).bind (·.dst) = some t) (hb : lk T t = some (.bool b)) (ht2 : Nat.blt t n = true) (ht : Nat.blt d n = true) (hS : listed.getD e false = false → S w)
   (hs : Region.noSelect ops = true) (hf : Region.free md ops listed i = true) (hr : (Region.ready md ops listed).contains i = true) (hei : decide (i ≠ e) = true)
   (hQ : ∀ c a w, Q (.panic c) (a.put (some d) v) w → Q (.panic c) a w) (hy : ∀ W, Yl P a W ⟨some d, op, tt, pos, af, some (j, b)⟩ v)
   (h : ∀ a', Has n ((d, v) :: T) a' → wpAnyE P md ops Q e S fuel (listed.setIfInBounds i true) a' w) : wpAnyE P md ops Q e S (fuel + 1) listed a w :=
 stepE_any i (some d) hS hi rfl hs hf hr hei hQ (by simp [Region.wanted, ha.yielded hj hb ht2]) hy (h _ (ha.put ht v))
theorem d_skip (i : Nat) {d : Tmp} {op : Op} {j t : Nat} {b : Bool} (ha : Has n T a) (hi : ops[i]? = some ⟨some d, op, tt, pos, af, some (j, b)⟩) (hj : (ops[j]?).bind (·.dst) = some t) (hb : lk T t = some (.bool !b)) (ht2 : Nat.blt t n = true) (ht : Nat.blt d n = true) (hS : listed.getD e false = false → S w)
   (hs : Region.noSelect ops = true) (hf : Region.free md ops listed i = true) (hr : (Region.ready md ops listed).contains i = true) (hei : decide (i ≠ e) = true)
   (hQ : ∀ c a w, Q (.panic c) (a.put (some d) undef) w → Q (.panic c) a w)
   (h : ∀ a', Has n ((d, undef) :: T) a' → wpAnyE P md ops Q e S fuel (listed.setIfInBounds i true) a' w) : wpAnyE P md ops Q e S (fuel + 1) listed a w :=
 stepE_skip i (some d) hS hi rfl hs hf hr hei hQ (by simp [Region.wanted, ha.yielded hj hb ht2]) (h _ (ha.put ht undef))
theorem d_r (i : Nat) {d : Tmp} {op : Op} {v : Value} (ha : Has n T a) (hi : ops[i]? = some ⟨some d, op, tt, pos, af, none⟩) (ht : Nat.blt d n = true) (hS : S w)
   (hs : Region.noSelect ops = true) (hf : Region.free md ops listed i = true) (hr : (Region.ready md ops listed).contains i = true) (hc : closedB md ops listed = true) (hre : (waits md ops e i && decide (i ≠ e)) = true)
   (hQ : ∀ c a w, Q (.panic c) (a.put (some d) v) w → Q (.panic c) a w) (hy : ∀ W, S W → Yl P a W ⟨some d, op, tt, pos, af, none⟩ v)
   (h : ∀ a', Has n ((d, v) :: T) a' → wpAnyE P md ops Q e S fuel (listed.setIfInBounds i true) a' w) : wpAnyE P md ops Q e S (fuel + 1) listed a w :=
 stepE_readW i (some d) hS hi rfl hs hf hr hc hre hQ rfl hy (h _ (ha.put ht v))
theorem d_h (i : Nat) {d : Tmp} {op : Op} {v : Value} (ha : Has n T a) (hi : ops[i]? = some ⟨some d, op, tt, pos, af, none⟩) (ht : Nat.blt d n = true) (hS : S w)
   (hs : Region.noSelect ops = true) (hf : Region.free md ops listed i = true) (hr : (Region.ready md ops listed).contains i = true) (hc : closedB md ops listed = true) (hre : (decide (ops.size ≤ e) && decide (i ≠ e)) = true)
   (hQ : ∀ c a w, Q (.panic c) (a.put (some d) v) w → Q (.panic c) a w) (hy : ∀ W, S W → Yl P a W ⟨some d, op, tt, pos, af, none⟩ v)
   (h : ∀ a', Has n ((d, v) :: T) a' → wpAnyE P md ops Q e S fuel (listed.setIfInBounds i true) a' w) : wpAnyE P md ops Q e S (fuel + 1) listed a w :=
 stepE_held i (some d) hS hi rfl hs hf hr hc hre hQ rfl hy (h _ (ha.put ht v))
theorem d_hg (i : Nat) {d : Tmp} {op : Op} {v : Value} {j t : Nat} {b : Bool} (ha : Has n T a) (hi : ops[i]? = some ⟨some d, op, tt, pos, af, some (j, b)⟩) (hj : (ops[j]?).bind (·.dst) = some t) (hb : lk T t = some (.bool b)) (ht2 : Nat.blt t n = true) (ht : Nat.blt d n = true) (hS : S w)
   (hs : Region.noSelect ops = true) (hf : Region.free md ops listed i = true) (hr : (Region.ready md ops listed).contains i = true) (hc : closedB md ops listed = true) (hre : (decide (ops.size ≤ e) && decide (i ≠ e)) = true)
   (hQ : ∀ c a w, Q (.panic c) (a.put (some d) v) w → Q (.panic c) a w) (hy : ∀ W, S W → Yl P a W ⟨some d, op, tt, pos, af, some (j, b)⟩ v)
   (h : ∀ a', Has n ((d, v) :: T) a' → wpAnyE P md ops Q e S fuel (listed.setIfInBounds i true) a' w) : wpAnyE P md ops Q e S (fuel + 1) listed a w :=
 stepE_held i (some d) hS hi rfl hs hf hr hc hre hQ (by simp [Region.wanted, ha.yielded hj hb ht2]) hy (h _ (ha.put ht v))
theorem wantedG (ha : Has n T a) {oi : Oper} {j t : Nat} {b : Bool} (hg : oi.guard = some (j, b)) (hj : (ops[j]?).bind (·.dst) = some t) (hb : lk T t = some (.bool b)) (ht2 : Nat.blt t n = true) : Region.wanted oi (Go.yielded ops a.tmps) = true := by simp [Region.wanted, hg, ha.yielded hj hb ht2]
theorem d_two (i j : Nat) {oi oj : Oper} (hi : ops[i]? = some oi) (hj : ops[j]? = some oj) (hr : Region.ready md ops listed = [i, j])
   (hwi : Region.wanted oi (Go.yielded ops a.tmps) = true) (hwj : Region.wanted oj (Go.yielded ops a.tmps) = true)
   (h1 : ∀ K' : Act → World → Prop, (∀ a' w', ((listed.setIfInBounds i true).getD e false = false → S w') → wpAnyE P md ops Q e S fuel (listed.setIfInBounds i true) a' w' → K' a' w') → Oper.wp P oi a w K' Q)
   (h2 : ∀ K' : Act → World → Prop, (∀ a' w', ((listed.setIfInBounds j true).getD e false = false → S w') → wpAnyE P md ops Q e S fuel (listed.setIfInBounds j true) a' w' → K' a' w') → Oper.wp P oj a w K' Q) :
   wpAnyE P md ops Q e S (fuel + 1) listed a w := by
 refine ⟨fun h0 => absurd (hr ▸ h0) (by simp), fun q hq => ?_⟩
 rw [hr] at hq
 rcases List.mem_cons.1 hq with rfl | hq
 · refine wpOp_step hi (fun K' hK => ?_)
   rw [if_pos hwi]
   exact h1 K' (fun a' w' h hn => hK a' w' ⟨h, hn⟩)
 · obtain rfl : q = j := by simpa using hq
   refine wpOp_step hj (fun K' hK => ?_)
   rw [if_pos hwj]
   exact h2 K' (fun a' w' h hn => hK a' w' ⟨h, hn⟩)
end
section
variable {P : Program} {n : Nat} {T : List (Nat × Value)} {a : Act} {w w0 : World} {X : Cx} {M : Mm}
theorem run_loadBox (m : MemOk X w0 M w) {t : TypeId} {td : TypeDesc} {i g : Nat} {e : TypeId} {cs : List Value} (hm : lk M i = some (.box g e cs)) (hu : P.underlying t = some td) (hr : td.isRow = true) (hs : (P.info? t).map (·.size) = some cs.length) : (loadVar t ⟨g, 0, none⟩).run P w = .ok (.agg cs.toArray) w :=
 run_loadVar_mid w g 0 t cs td (fun j v hj => by rw [Nat.zero_add, (m.ok i _ hm).1.cell]; exact hj) hu hr hs
theorem retC (ha : Has n T a) (m : MemOk X w0 M w) {fn : Func} {t : Tmp} {ty : TypeId} {td : TypeDesc} {i g : Nat} {e : TypeId} {cs : List Value} {R : Ending → World → Prop} (hr : fn.results = #[.cell t ty]) (hv : lk T t = some (.pointer (some ⟨g, 0, none⟩))) (hm : lk M i = some (.box g e cs)) (hu : P.underlying ty = some td) (hd : td.isRow = true) (hs : (P.info? ty).map (·.size) = some cs.length) (h : R (.returned (.agg cs.toArray)) w) : bodyPost P fn R .ret a w :=
 ⟨ha.d, _, by
   have h1 := ha.h t _ hv
   rw [Array.getD_eq_getD_getElem?] at h1
   simp [results, hr, h1, asAddr, run_loadBox m hm hu hd hs], h⟩
theorem retCT (ha : Has n T a) (m : MemOk X w0 M w) {fn : Func} {t s : Tmp} {ty : TypeId} {td : TypeDesc} {i g : Nat} {e : TypeId} {cs : List Value} {u : Value} {R : Ending → World → Prop} (hr : fn.results = #[.cell t ty, .tmp s]) (hv : lk T t = some (.pointer (some ⟨g, 0, none⟩))) (hu2 : lk T s = some u) (hm : lk M i = some (.box g e cs)) (hu : P.underlying ty = some td) (hd : td.isRow = true) (hs : (P.info? ty).map (·.size) = some cs.length) (h : R (.returned (.tuple #[.agg cs.toArray, u])) w) : bodyPost P fn R .ret a w :=
 ⟨ha.d, _, by
   have h1 := ha.h t _ hv
   have h2 := ha.h s _ hu2
   rw [Array.getD_eq_getD_getElem?] at h1 h2
   simp [results, hr, h1, h2, asAddr, run_loadBox m hm hu hd hs], h⟩
end
def WeakL (A : Mm) : Mm → Prop
 | [] => True
 | (i, r) :: t => (lk A i = some r ∨ ∃ g e cs, lk A i = some (.box g e cs) ∧ r = .any g) ∧ WeakL A t
theorem WeakL.get {A : Mm} : ∀ {B : Mm} {i : Nat} {r : Res}, WeakL A B → lk B i = some r → lk A i = some r ∨ ∃ g e cs, lk A i = some (.box g e cs) ∧ r = .any g
 | [], i, r, _, h => by cases h
 | (j, s) :: B, i, r, hw, h => by
   rw [lk_cons] at h
   split at h
   · rename_i e; subst e; cases h; exact hw.1
   · exact WeakL.get hw.2 h
theorem MemOk.to {X : Cx} {w0 w : World} {A B : Mm} (m : MemOk X w0 A w) (h : WeakL A B) : MemOk X w0 B w := by
 have hF : ∀ b, Free X A b → Free X B b := by
   rintro b ⟨hz, hf⟩
   refine ⟨hz, ?_⟩
   rintro ⟨i, r, hi, hr⟩
   rcases h.get hi with h1 | ⟨g, e, cs, h1, rfl⟩
   · exact hf ⟨i, r, h1, hr⟩
   · exact hf ⟨i, _, h1, hr⟩
 refine ⟨m.keep, m.fresh, fun i r hi => ?_, fun i j r s b hi hj hr hs => ?_⟩
 · rcases h.get hi with h1 | ⟨g, e, cs, h1, rfl⟩
   · exact Res.ok_mono (m.ok i r h1) (Nat.le_refl _) (fun b _ hS => ⟨rfl, hF b hS⟩) (fun _ _ => rfl)
   · exact ⟨(m.ok i _ h1).1.lt, (m.ok i _ h1).2⟩
 · obtain ⟨r', h1, h2⟩ : ∃ r', lk A i = some r' ∧ r'.blk = some b := by
     rcases h.get hi with h1 | ⟨g, e, cs, h1, rfl⟩
     · exact ⟨r, h1, hr⟩
     · exact ⟨_, h1, hr⟩
   obtain ⟨s', h3, h4⟩ : ∃ r', lk A j = some r' ∧ r'.blk = some b := by
     rcases h.get hj with h1 | ⟨g, e, cs, h1, rfl⟩
     · exact ⟨s, h1, hs⟩
     · exact ⟨_, h1, hs⟩
   exact m.sep i j r' s' b h1 h3 h2 h4
theorem region_m {P : Program} {a : Act} {w w0 : World} {X : Cx} {M B : Mm} {ops : Array Oper} {Q : Exit → Act → World → Prop} (e : Nat) (mB : MemOk X w0 B w) (m : MemOk X w0 M w) {id : Nat} (hm : P.follows .mixedOrders = true)
   (h : ∀ w', MemOk X w0 B w' → MemOk X w0 M w' → wpAnyE P .any ops Q e (MemOk X w0 B) ops.size (Array.replicate ops.size false) a w') : (Code.region id ops true).wp P Q a w :=
 regionE_begin e (MemOk X w0 B) hm (h _ mB.drew m.drew)
/-! ### Over a call -/
def Out (S : Nat → Prop) (w : World) (b : Nat) : Prop := S b ∨ w.heap.size ≤ b
section
variable {w w0 : World} {X : Cx} {M : Mm}
theorem MemOk.free_out (m : MemOk X w0 M w) {b : Nat} (h : Out (Free X M) w b) : Free X M b := by
 rcases h with h | h
 · exact h
 · refine ⟨m.fresh b (Nat.le_trans m.keep.size h), ?_⟩
   rintro ⟨j, s, hj, hs⟩
   have := (Res.blk_lt (m.ok j s hj) hs).1
   omega
theorem MemOk.callR (m : MemOk X w0 M w) (i : Nat) {w' : World} (hb : Below w.heap.size w w') {v : Value} {e : TypeId} {k : Nat} {rows : List (List D)} (h : RowOk w.heap.size (fun b => Out (Free X M) w b ∧ v.ownBlock ≠ some b) w' v e k rows) : MemOk X w0 ((i, .row v e k rows) :: M) w' :=
 m.newR i hb (by
   obtain ⟨cs, h1, h2, h3, h4, h5⟩ := h
   exact ⟨cs, h1, h2, h3, h4, fun j q c r x d a1 a2 a3 a4 => (h5 j q c r x d a1 a2 a3 a4).cast (fun b hS => by
     by_cases hlt : b < w.heap.size
     · exact .inl ⟨hS.1.resolve_right (by omega), hlt⟩
     · exact .inr ⟨by omega, hS.2⟩)⟩)
theorem out_free {S : Nat → Prop} {b : Nat} (h : Free (cx S w0) M b) : Out S w0 b := by
 by_cases hlt : b < w0.heap.size
 · exact .inl (h.1 hlt)
 · exact .inr (by omega)
theorem MemOk.outR {S : Nat → Prop} (m : MemOk (cx S w0) w0 M w) {i : Nat} {v : Value} {e : TypeId} {k : Nat} {rows : List (List D)} (h : lk M i = some (.row v e k rows)) : RowOk w0.heap.size (fun b => Out S w0 b ∧ v.ownBlock ≠ some b) w v e k rows := by
 obtain ⟨cs, h1, h2, h3, h4, h5⟩ := m.ok i _ h
 exact ⟨cs, h1, h2, h3, h4, fun j q c r x d a1 a2 a3 a4 => (h5 j q c r x d a1 a2 a3 a4).cast (fun b hS => ⟨out_free hS, fun e => hS.2 ⟨i, _, h, e⟩⟩)⟩
end
theorem Rd.nilN (S : Nat → Prop) (w : World) (k : IntKind) (a : Option Addr) : Rd S w (.slice a 0 0) (.ns k []) := .ns ⟨a, 0, rfl, ⟨Nat.le_refl _, Nat.zero_le _⟩, .inl rfl⟩
section
variable {w w0 : World} {X : Cx} {M : Mm}
theorem NumsS.of {S : Nat → Prop} {k : IntKind} {v u : Value} {zs zs' : List Int} (h : NumsS S k w v zs) {w' : World} (hu : IsNums k w' u zs') (hl : ∀ p c, u = .slice p zs'.length c → zs'.length ≤ c ∧ c ≤ maxLen) (hb : ∀ g, u.ownBlock = some g → v.ownBlock = some g) (h0 : zs.length = 0 → zs'.length = 0) : NumsS S k w' u zs' := by
 obtain ⟨a, c, rfl, hz⟩ := hu
 refine ⟨a, c, rfl, hl a c rfl, ?_⟩
 rcases hz with hz | ⟨b, off, rfl, h1, h2⟩
 · exact .inl hz
 · obtain ⟨a', c', rfl, -, h3 | ⟨b', off', rfl, h4, h5, h6⟩⟩ := h
   · exact .inl (h0 h3)
   · have := hb b rfl
     injection this with this
     subst this
     exact .inr ⟨_, off, rfl, h4, h1, h2⟩
end
end Go.Proofs.Ytocfbocdnklllaa.K
