/- General laws of walks. -/
import Derived.Test.YtmoghepeggohhaaDoorG1
import Derived.Lib.SlBytesConst
import Derived.Deep.Slices
import Derived.SizedLaws
import Derived.Laws.MakeOwn
import Derived.Sort.OwnSortedInts
namespace Go.Proofs.YtmoghepeggohhaaDoor.K
open Go.ChangeShapes Go.WideShapes Go.ChangeAt Go.RowKit
set_option linter.unusedVariables false
set_option linter.unusedSimpArgs false
section
theorem free_add {X : Cx} {M : Mm} {i : Nat} {r : Res} (hr : r.blk = none) {b : Nat} (h : Free X M b) : Free X ((i, r) :: M) b := by
 refine ⟨h.1, ?_⟩
 rintro ⟨j, s, hj, hs⟩
 rw [lk_cons] at hj
 split at hj
 · cases hj; rw [hr] at hs; cases hs
 · exact h.2 ⟨j, s, hj, hs⟩
theorem Rd.cast {S S' : Nat → Prop} {w : World} {v : Value} {d : D} (h : Rd S w v d) (hs : ∀ b, S b → S' b) : Rd S' w v d := h.mono (Nat.le_refl _) (fun b _ hS => ⟨rfl, hs b hS⟩)
theorem Rd.later {S : Nat → Prop} {w w' : World} {v : Value} {d : D} (h : Rd S w v d) (hb : Below w.heap.size w w') : Rd S w' v d := h.mono hb.size (fun b hlt hS => ⟨hb.block b hlt, hS⟩)
theorem Rd.any {S : Nat → Prop} {w : World} {v : Value} {d : D} (h : Rd S w v d) : Rd (fun _ => True) w v d := h.cast (fun _ _ => trivial)
def cx (S : Nat → Prop) (w : World) : Cx := ⟨[], fun b => b < w.heap.size → S b⟩
theorem MemOk.below {S : Nat → Prop} {w0 w w1 : World} {M : Mm} (m : MemOk (cx S w1) w0 M w) : Below w0.heap.size w0 w := ⟨m.keep.1, m.keep.2.1, m.keep.2.2.1, m.keep.2.2.2.1, fun k hk => m.keep.2.2.2.2 k hk (by simp [cx])⟩
theorem MemOk.start (S : Nat → Prop) (w : World) : MemOk (cx S w) w [] w := ⟨Keep.refl _ _, fun b hb hlt => absurd hlt (by omega), fun i r h => (by cases h), fun i j r s b h => (by cases h)⟩
section
variable {P : Program} {ops : Array Oper} {Q : Exit → Act → World → Prop} {md : Region.Mode} {S : World → Prop} {e : Nat}
theorem wpAnyE_held {i : Nat} {oi : Oper} {v : Value} (hi : ops[i]? = some oi) (hsel : ∀ (j : Nat) (o : Oper) cs b, ops[j]? = some o → o.op ≠ .select cs b)
   (hQ : ∀ c a w, Q (.panic c) (a.put oi.dst v) w → Q (.panic c) a w) (hbig : ops.size ≤ e) (hei : i ≠ e) :
   ∀ (fuel : Nat) (listed : Array Bool) (a : Act) (w : World), Closed md ops listed →
     (∀ j oj, ops[j]? = some oj → j ≠ i → listed.getD j true = false → (∀ ed ∈ oj.after, Region.binds md ed = true → ed.on ≠ i) → oi.apart ops oj = true) →
     i ∈ Region.ready md ops listed → YieldsIf P ops S oi v a → S w →
     wpAnyE P md ops Q e S fuel (listed.setIfInBounds i true) (a.put oi.dst v) w → wpAnyE P md ops Q e S (fuel + 1) listed a w := by
 intro fuel
 induction fuel with
 | zero =>
   intro listed a w hc _ hr hy hS H
   refine ⟨fun h => (by rw [h] at hr; cases hr), fun j hj => ?_⟩
   by_cases hji : j = i
   · subst hji; exact hy.wpOp hi hS ⟨fun _ => hS, H⟩
   · have := ready_mono hj hji
     rw [H.1] at this
     cases this
 | succ fuel ih =>
   intro listed a w hc hfree hr hy hS H
   refine ⟨fun h => (by rw [h] at hr; cases hr), fun j hj => ?_⟩
   by_cases hji : j = i
   · subst hji; exact hy.wpOp hi hS ⟨fun _ => hS, H⟩
   · have h1 := H.2 j (ready_mono hj hji)
     obtain ⟨hjun, oj, hoj, hall⟩ := mem_ready.1 hj
     have hnot : ∀ ed ∈ oj.after, Region.binds md ed = true → ed.on ≠ i := fun ed he hb heq => by
       have h1 := hall ed he hb
       have h0 := (mem_ready.1 hr).1
       rw [heq, getD_both h0] at h1
       cases h1
     have h2 := wpOp_putIf hoj (hfree j oj hoj hji hjun hnot) (fun cs b => hsel i oi cs b hi) (fun cs b => hsel j oj cs b hoj) hQ hy h1
     have hfree' : ∀ k ok, ops[k]? = some ok → k ≠ i → (listed.setIfInBounds j true).getD k true = false →
         (∀ ed ∈ ok.after, Region.binds md ed = true → ed.on ≠ i) → oi.apart ops ok = true := fun k ok hk hki hun hno => by
       refine hfree k ok hk hki ?_ hno
       by_cases hjk : j = k
       · subst hjk; exact hjun
       · rw [getD_set_ne true hjk] at hun; exact hun
     have hc' := hc.set hj
     have hr' := ready_mono hr (Ne.symm hji)
     have hen : (listed.setIfInBounds j true).getD e false = false := by
       have hsz : (listed.setIfInBounds j true).size = ops.size := hc'.1
       have hlt : ¬ e < (listed.setIfInBounds j true).size := by omega
       unfold Array.getD
       rw [dif_neg hlt]
     refine wpOp_mono (fun a' w' h3 => ?_) h2
     have hS' : S w' := h3.2.1 (by rw [Array.setIfInBounds_comm _ _ (Ne.symm hji), getD_set_ne false hei]; exact hen)
     refine ⟨fun _ => hS', ih (listed.setIfInBounds j true) a' w' hc' hfree' hr' h3.1 hS' ?_⟩
     rw [Array.setIfInBounds_comm _ _ hji]
     exact h3.2.2

theorem stepE_held (i : Nat) (d : Option Tmp) {oi : Oper} {v : Value} {fuel : Nat} {listed : Array Bool} {a : Act} {w : World} (hS : S w) (hi : ops[i]? = some oi) (hd : oi.dst = d)
   (hs : Region.noSelect ops = true) (hf : Region.free md ops listed i = true) (hr : (Region.ready md ops listed).contains i = true)
   (hc : closedB md ops listed = true) (hre : (decide (ops.size ≤ e) && decide (i ≠ e)) = true)
   (hQ : ∀ c a w, Q (.panic c) (a.put d v) w → Q (.panic c) a w) (hw : Region.wanted oi (Go.yielded ops a.tmps) = true)
   (hy : ∀ W, S W → (execOp a.eval oi).run P W = .ok (.value v) W)
   (h : wpAnyE P md ops Q e S fuel (listed.setIfInBounds i true) (a.put d v) w) : wpAnyE P md ops Q e S (fuel + 1) listed a w := by
 subst hd
 simp only [Bool.and_eq_true, decide_eq_true_eq] at hre
 exact wpAnyE_held hi (Region.noSelect_spec hs) hQ hre.1 hre.2 fuel listed a w (closedB_spec hc) (Region.free_spec hi hf) (by simpa using hr) (.inl ⟨hw, hy⟩) hS h
end
section
variable {P : Program} {n : Nat} {T : List (Nat × Value)} {a : Act} {w w0 : World} {X : Cx} {M : Mm} {tt : TypeId} {pos : String} {af : Array Edge} {ops : Array Oper} {Q : Exit → Act → World → Prop} {md : Region.Mode} {e fuel : Nat} {S : World → Prop} {listed : Array Bool}
theorem wantedG (ha : Has n T a) {oi : Oper} {j t : Nat} {b : Bool} (hg : oi.guard = some (j, b)) (hj : (ops[j]?).bind (·.dst) = some t) (hb : lk T t = some (.bool b)) (ht2 : Nat.blt t n = true) : Region.wanted oi (Go.yielded ops a.tmps) = true := by simp [Region.wanted, hg, ha.yielded hj hb ht2]
theorem d_two (i j : Nat) {oi oj : Oper} (hi : ops[i]? = some oi) (hj : ops[j]? = some oj) (hr : Region.ready md ops listed = [i, j])
   (hwi : Region.wanted oi (Go.yielded ops a.tmps) = true) (hwj : Region.wanted oj (Go.yielded ops a.tmps) = true)
   (h1 : ∀ K' : Act → World → Prop, (∀ a' w', ((listed.setIfInBounds i true).getD e false = false → S w') → wpAnyE P md ops Q e S fuel (listed.setIfInBounds i true) a' w' → K' a' w') → Oper.wp P oi a w K' Q)
   (h2 : ∀ K' : Act → World → Prop, (∀ a' w', ((listed.setIfInBounds j true).getD e false = false → S w') → wpAnyE P md ops Q e S fuel (listed.setIfInBounds j true) a' w' → K' a' w') → Oper.wp P oj a w K' Q) :
   wpAnyE P md ops Q e S (fuel + 1) listed a w := by
 refine ⟨fun h0 => absurd (hr ▸ h0) (by simp), fun q hq => ?_⟩
 rw [hr] at hq
 rcases List.mem_cons.1 hq with rfl | hq
 · refine wpOp_step hi (fun K' hK => ?_)
   rw [if_pos hwi]
   exact h1 K' (fun a' w' h hn => hK a' w' ⟨h, hn⟩)
 · obtain rfl : q = j := by simpa using hq
   refine wpOp_step hj (fun K' hK => ?_)
   rw [if_pos hwj]
   exact h2 K' (fun a' w' h hn => hK a' w' ⟨h, hn⟩)
end
section
variable {P : Program} {n : Nat} {T : List (Nat × Value)} {a : Act} {w w0 : World} {X : Cx} {M : Mm}
theorem run_loadBox (m : MemOk X w0 M w) {t : TypeId} {td : TypeDesc} {i g : Nat} {e : TypeId} {cs : List Value} (hm : lk M i = some (.box g e cs)) (hu : P.underlying t = some td) (hr : td.isRow = true) (hs : (P.info? t).map (·.size) = some cs.length) : (loadVar t ⟨g, 0, none⟩).run P w = .ok (.agg cs.toArray) w :=
 run_loadVar_mid w g 0 t cs td (fun j v hj => by rw [Nat.zero_add, (m.ok i _ hm).1.cell]; exact hj) hu hr hs
theorem retC (ha : Has n T a) (m : MemOk X w0 M w) {fn : Func} {t : Tmp} {ty : TypeId} {td : TypeDesc} {i g : Nat} {e : TypeId} {cs : List Value} {R : Ending → World → Prop} (hr : fn.results = #[.cell t ty]) (hv : lk T t = some (.pointer (some ⟨g, 0, none⟩))) (hm : lk M i = some (.box g e cs)) (hu : P.underlying ty = some td) (hd : td.isRow = true) (hs : (P.info? ty).map (·.size) = some cs.length) (h : R (.returned (.agg cs.toArray)) w) : bodyPost P fn R .ret a w :=
 ⟨ha.d, _, by
   have h1 := ha.h t _ hv
   rw [Array.getD_eq_getD_getElem?] at h1
   simp [results, hr, h1, asAddr, run_loadBox m hm hu hd hs], h⟩
theorem retCT (ha : Has n T a) (m : MemOk X w0 M w) {fn : Func} {t s : Tmp} {ty : TypeId} {td : TypeDesc} {i g : Nat} {e : TypeId} {cs : List Value} {u : Value} {R : Ending → World → Prop} (hr : fn.results = #[.cell t ty, .tmp s]) (hv : lk T t = some (.pointer (some ⟨g, 0, none⟩))) (hu2 : lk T s = some u) (hm : lk M i = some (.box g e cs)) (hu : P.underlying ty = some td) (hd : td.isRow = true) (hs : (P.info? ty).map (·.size) = some cs.length) (h : R (.returned (.tuple #[.agg cs.toArray, u])) w) : bodyPost P fn R .ret a w :=
 ⟨ha.d, _, by
   have h1 := ha.h t _ hv
   have h2 := ha.h s _ hu2
   rw [Array.getD_eq_getD_getElem?] at h1 h2
   simp [results, hr, h1, h2, asAddr, run_loadBox m hm hu hd hs], h⟩
end
def WeakL (A : Mm) : Mm → Prop
 | [] => True
 | (i, r) :: t => (lk A i = some r ∨ ∃ g e cs, lk A i = some (.box g e cs) ∧ r = .any g) ∧ WeakL A t
theorem WeakL.get {A : Mm} : ∀ {B : Mm} {i : Nat} {r : Res}, WeakL A B → lk B i = some r → lk A i = some r ∨ ∃ g e cs, lk A i = some (.box g e cs) ∧ r = .any g
 | [], i, r, _, h => by cases h
 | (j, s) :: B, i, r, hw, h => by
   rw [lk_cons] at h
   split at h
   · rename_i e; subst e; cases h; exact hw.1
   · exact WeakL.get hw.2 h
theorem MemOk.to {X : Cx} {w0 w : World} {A B : Mm} (m : MemOk X w0 A w) (h : WeakL A B) : MemOk X w0 B w := by
 have hF : ∀ b, Free X A b → Free X B b := by
   rintro b ⟨hz, hf⟩
   refine ⟨hz, ?_⟩
   rintro ⟨i, r, hi, hr⟩
   rcases h.get hi with h1 | ⟨g, e, cs, h1, rfl⟩
   · exact hf ⟨i, r, h1, hr⟩
   · exact hf ⟨i, _, h1, hr⟩
 refine ⟨m.keep, m.fresh, fun i r hi => ?_, fun i j r s b hi hj hr hs => ?_⟩
 · rcases h.get hi with h1 | ⟨g, e, cs, h1, rfl⟩
   · exact Res.ok_mono (m.ok i r h1) (Nat.le_refl _) (fun b _ hS => ⟨rfl, hF b hS⟩) (fun _ _ => rfl)
   · exact ⟨(m.ok i _ h1).1.lt, (m.ok i _ h1).2⟩
 · obtain ⟨r', h1, h2⟩ : ∃ r', lk A i = some r' ∧ r'.blk = some b := by
     rcases h.get hi with h1 | ⟨g, e, cs, h1, rfl⟩
     · exact ⟨r, h1, hr⟩
     · exact ⟨_, h1, hr⟩
   obtain ⟨s', h3, h4⟩ : ∃ r', lk A j = some r' ∧ r'.blk = some b := by
     rcases h.get hj with h1 | ⟨g, e, cs, h1, rfl⟩
     · exact ⟨s, h1, hs⟩
     · exact ⟨_, h1, hs⟩
   exact m.sep i j r' s' b h1 h3 h2 h4
theorem region_m {P : Program} {a : Act} {w w0 : World} {X : Cx} {M B : Mm} {ops : Array Oper} {Q : Exit → Act → World → Prop} (e : Nat) (mB : MemOk X w0 B w) (m : MemOk X w0 M w) {id : Nat} (hm : P.follows .mixedOrders = true)
   (h : ∀ w', MemOk X w0 B w' → MemOk X w0 M w' → wpAnyE P .any ops Q e (MemOk X w0 B) ops.size (Array.replicate ops.size false) a w') : (Code.region id ops true).wp P Q a w :=
 regionE_begin e (MemOk X w0 B) hm (h _ mB.drew m.drew)
/-! ### Over a call -/
def Out (S : Nat → Prop) (w : World) (b : Nat) : Prop := S b ∨ w.heap.size ≤ b
section
variable {w w0 : World} {X : Cx} {M : Mm}
theorem MemOk.free_out (m : MemOk X w0 M w) {b : Nat} (h : Out (Free X M) w b) : Free X M b := by
 rcases h with h | h
 · exact h
 · refine ⟨m.fresh b (Nat.le_trans m.keep.size h), ?_⟩
   rintro ⟨j, s, hj, hs⟩
   have := (Res.blk_lt (m.ok j s hj) hs).1
   omega
end
theorem Rd.nilN (S : Nat → Prop) (w : World) (k : IntKind) (a : Option Addr) : Rd S w (.slice a 0 0) (.ns k []) := .ns ⟨a, 0, rfl, ⟨Nat.le_refl _, Nat.zero_le _⟩, .inl rfl⟩
section
variable {w w0 : World} {X : Cx} {M : Mm}
theorem NumsS.of {S : Nat → Prop} {k : IntKind} {v u : Value} {zs zs' : List Int} (h : NumsS S k w v zs) {w' : World} (hu : IsNums k w' u zs') (hl : ∀ p c, u = .slice p zs'.length c → zs'.length ≤ c ∧ c ≤ maxLen) (hb : ∀ g, u.ownBlock = some g → v.ownBlock = some g) (h0 : zs.length = 0 → zs'.length = 0) : NumsS S k w' u zs' := by
 obtain ⟨a, c, rfl, hz⟩ := hu
 refine ⟨a, c, rfl, hl a c rfl, ?_⟩
 rcases hz with hz | ⟨b, off, rfl, h1, h2⟩
 · exact .inl hz
 · obtain ⟨a', c', rfl, -, h3 | ⟨b', off', rfl, h4, h5, h6⟩⟩ := h
   · exact .inl (h0 h3)
   · have := hb b rfl
     injection this with this
     subst this
     exact .inr ⟨_, off, rfl, h4, h1, h2⟩
end
end
section
def xor8 (a b : Int) : Int := IntKind.u8.wrap (BitVec.ofInt IntKind.u8.bits a ^^^ BitVec.ofInt IntKind.u8.bits b).toNat
theorem NumsS.blk {S : Nat → Prop} {k : IntKind} {w : World} {p : Option Addr} {l c : Nat} {zs : List Int} (h : NumsS S k w (.slice p l c) zs) : zs.length = 0 ∨ ∃ b o, p = some ⟨b, o, none⟩ ∧ b < w.heap.size := by
 obtain ⟨a, c', e, hc, h0 | ⟨b, off, rfl, h1, h2, h3⟩⟩ := h
 · exact .inl h0
 · injection e with e1; exact .inr ⟨b, off, e1, h2⟩
theorem NumsS.cap {S : Nat → Prop} {k : IntKind} {w : World} {p : Option Addr} {l c : Nat} {zs : List Int} (h : NumsS S k w (.slice p l c) zs) : zs.length ≤ c ∧ c ≤ maxLen := by
 obtain ⟨a, c', e, hc, -⟩ := h
 injection e with e1 e2 e3; subst e3; exact hc
section
variable {P : Program} {n : Nat} {T : List (Nat × Value)} {a : Act} {w w0 : World} {X : Cx} {M : Mm} {tt : TypeId} {pos : String} {af : Array Edge} {gd : Option (Nat × Bool)} {Q : Exit → Act → World → Prop} {K : Act → World → Prop}
variable {d : Option Tmp}
theorem y_idxO (ha : Has n T a) {t e : TypeId} {x y : Operand} {b l c : Nat} {k : IntKind} {q : Int} (hx : evT T x = some (.slice (some ⟨b, 0, none⟩) l c)) (hy : evT T y = some (.int k q)) (hu : P.underlying t = some (.slice e)) (hs : (P.info? e).map (·.size) = some 1) (j : Nat) (hq : q = j) (hj : j < l) : Yl P a w ⟨d, .indexAddr t x y, tt, pos, af, gd⟩ (.pointer (some ⟨b, j, none⟩)) := by
 have := y_idx (P := P) (w := w) (tt := tt) (pos := pos) (af := af) (gd := gd) (d := d) ha hx hy hu hs j hq hj
 rwa [Nat.mul_one, Nat.zero_add] at this
theorem y_sliceHn (h : Has n T a) {t e : TypeId} {x y : Operand} {p : Option Addr} {l c : Nat} {k : IntKind} {q : Int} (j : Nat) (hx : evT T x = some (.slice p l c)) (hy : evT T y = some (.int k q)) (hu : P.underlying t = some (.slice e)) {s : Nat} (hs : (P.info? e).map (·.size) = some s) (hq : q = j) (h1 : j ≤ c) : Yl P a w ⟨d, .slice t x none (some y) none, tt, pos, af, gd⟩ (.slice p j c) := by
 subst hq
 have := y_sliceH (P := P) (w := w) (tt := tt) (pos := pos) (af := af) (gd := gd) (d := d) h hx hy hu hs (by omega) (by omega)
 rwa [Int.toNat_natCast] at this
theorem y_sliceLn (h : Has n T a) {t e : TypeId} {x y : Operand} {p : Option Addr} {l c : Nat} {k : IntKind} {q : Int} (j : Nat) (hx : evT T x = some (.slice p l c)) (hy : evT T y = some (.int k q)) (hu : P.underlying t = some (.slice e)) {s : Nat} (hs : (P.info? e).map (·.size) = some s) (hq : q = j) (h1 : j ≤ l) : Yl P a w ⟨d, .slice t x (some y) none none, tt, pos, af, gd⟩ (.slice (if c = j then p else p.map (·.add (j * s))) (l - j) (c - j)) := by
 subst hq
 have := y_sliceL (P := P) (w := w) (tt := tt) (pos := pos) (af := af) (gd := gd) (d := d) h hx hy hu hs (by omega) (by omega)
 rwa [Int.toNat_natCast] at this
theorem MemOk.takeN (m : MemOk X w0 M w) {i : Nat} {p : Option Addr} {l c : Nat} {k : IntKind} {zs : List Int} (hm : lk M i = some (.dat (.slice p l c) (.ns k zs))) (j : Nat) (hj : j ≤ zs.length) (i2 : Nat) (hi2 : lk M i2 = none) : MemOk X w0 ((i2, .dat (.slice p j c) (.ns k (zs.take j))) :: M) w :=
 m.dat i2 hi2 (.ns ((m.rd hm).ns_out.take j hj))
end
section
variable {P : Program} {n : Nat} {T : List (Nat × Value)} {a : Act} {w w0 : World} {X : Cx} {M : Mm} {tt : TypeId} {pos : String} {af : Array Edge} {gd : Option (Nat × Bool)}
theorem MemOk.openC (m : MemOk X w0 M w) {i : Nat} {p : Option Addr} {l c mm : Nat} {e : TypeId} {rows : List (List D)} (hm : lk M i = some (.row (.slice p l c) e mm rows)) (h0 : 0 < rows.length) : ∃ g cs, p = some ⟨g, 0, none⟩ ∧ MemOk X w0 ((i, .rowC (.slice p l c) e mm rows cs) :: M) w := by
 obtain ⟨cs, hc⟩ := m.ok i _ hm
 have hown := hc.1
 rcases hown.2 with ⟨e1, h1⟩ | ⟨g, cap, cur, e1, rest⟩
 · omega
 · injection e1 with e1 e2 e3
   exact ⟨g, cs, e1, m.upd i _ (Keep.refl _ _) (fun b hb => .inl ⟨_, hm, hb⟩) (fun h1 _ => ⟨hc.1, hc.2.1, hc.2.2.1, hc.2.2.2.1, fun j q c r x d a1 a2 a3 a4 => (hc.2.2.2.2 j q c r x d a1 a2 a3 a4).mono (Nat.le_refl _) (fun b hlt hS => ⟨rfl, h1 b hlt hS⟩)⟩)⟩
end
def renM (M : Mm) : List (Nat × Nat) → Mm
 | [] => []
 | (i, j) :: t => match lk M j with
   | some r => (i, r) :: renM M t
   | none => renM M t
theorem renM_out {M : Mm} : ∀ {ps : List (Nat × Nat)} {i : Nat} {r : Res}, lk (renM M ps) i = some r → ∃ j, (i, j) ∈ ps ∧ lk M j = some r
 | [], i, r, h => by cases h
 | (i', j) :: t, i, r, h => by
   rw [renM] at h
   split at h
   · rename_i r' hr
     rw [lk_cons] at h
     split at h
     · rename_i e; subst e; cases h; exact ⟨j, List.mem_cons_self, hr⟩
     · obtain ⟨j', h1, h2⟩ := renM_out h; exact ⟨j', List.mem_cons_of_mem _ h1, h2⟩
   · obtain ⟨j', h1, h2⟩ := renM_out h; exact ⟨j', List.mem_cons_of_mem _ h1, h2⟩
theorem MemOk.ren {X : Cx} {w0 w : World} {M : Mm} (m : MemOk X w0 M w) (ps : List (Nat × Nat)) (hp : (ps.all fun p => ps.all fun q => !(p.2 == q.2) || p.1 == q.1) = true) : MemOk X w0 (renM M ps) w where
 keep := m.keep
 fresh := m.fresh
 ok i r hi := by
   obtain ⟨j, h1, h2⟩ := renM_out hi
   exact Res.ok_mono (m.ok j r h2) (Nat.le_refl _) (fun b _ hS => ⟨rfl, hS.1, fun ⟨k, s, hk, hs⟩ => by obtain ⟨k', h3, h4⟩ := renM_out hk; exact hS.2 ⟨k', s, h4, hs⟩⟩) (fun _ _ => rfl)
 sep i j r s b h1 h2 hr hs := by
   obtain ⟨i', a1, a2⟩ := renM_out h1
   obtain ⟨j', b1, b2⟩ := renM_out h2
   obtain rfl := m.sep i' j' r s b a2 b2 hr hs
   rw [List.all_eq_true] at hp
   have h3 := hp _ a1
   rw [List.all_eq_true] at h3
   have h4 := h3 _ b1
   simpa using h4
end
section
theorem OwnsAt.cellAt {w : World} {base : Nat} {e : TypeId} {size : Nat} {v : Value} {n : Nat} {xs : List Value} (h : OwnsAt w base e size v n xs) {g off cap : Nat} (hv : v = .slice (some ⟨g, off, none⟩) n cap) (j : Nat) (hj : j < n * size) : w.cell? ⟨g, off + j, none⟩ = xs[j]? := by
 rcases h.2 with ⟨rfl, _⟩ | ⟨g', off', cap', cur, rfl, hbg, hgg, h1, h2, h3, h4⟩
 · cases hv
 · injection hv with hv _ _
   injection hv with hv
   injection hv with e1 e2
   subst e1; subst e2
   have hlt : off' + j < cur.size := by
     have : n * size ≤ cap' * size := Nat.mul_le_mul_right _ h1
     omega
   rw [← h4, List.getElem?_take_of_lt hj, List.getElem?_drop]
   simp [World.cell?, hgg, hlt]
section
variable {P : Program} (w : World)
end
section
variable {X : Cx} {w0 w : World} {M : Mm}
end
def SrcOk (S : Nat → Prop) (w : World) (u : Value) (mm : Nat) (rows : List (List D)) : Prop :=
 ∃ (p : Option Addr) (c : Nat) (cs : List (List Value)), u = .slice p rows.length c ∧ cs.length = rows.length ∧ (∀ c ∈ cs, c.length = mm ∧ ∀ x ∈ c, x.oneCell' = true) ∧ (∀ r ∈ rows, r.length = mm) ∧
   (∀ (j q : Nat) (c : List Value) (r : List D) (x : Value) (d : D), cs[j]? = some c → rows[j]? = some r → c[q]? = some x → r[q]? = some d → Rd S w x d) ∧ (rows.length = 0 ∨ ∃ ad, p = some ad ∧ ∀ j u, cs.flatten[j]? = some u → w.cell? (ad.add j) = some u)
theorem flatten_take {α : Type} {mm : Nat} : ∀ (cs : List (List α)) (j : Nat), (∀ c ∈ cs, c.length = mm) → j ≤ cs.length → (cs.take j).flatten = cs.flatten.take (j * mm)
 | cs, 0, _, _ => by simp
 | [], j + 1, _, h => by simp at h
 | a :: cs, j + 1, hc, h => by
   have ha := hc a (by simp)
   rw [List.take_succ_cons, List.flatten_cons, flatten_take cs j (fun c h => hc c (by simp [h])) (by simpa using h), List.flatten_cons, Nat.add_mul, Nat.one_mul, List.take_append, (List.take_of_length_le (by omega) : a.take (j * mm + mm) = a), ha, Nat.add_sub_cancel]
section
variable {P : Program} {n : Nat} {T : List (Nat × Value)} {a : Act} {w w0 : World} {X : Cx} {M : Mm} {tt : TypeId} {pos : String} {af : Array Edge} {gd : Option (Nat × Bool)} {Q : Exit → Act → World → Prop} {K : Act → World → Prop}
end
section
variable {P : Program} {n : Nat} {T : List (Nat × Value)} {a : Act} {w w0 : World} {X : Cx} {M : Mm} {tt : TypeId} {pos : String} {af : Array Edge} {gd : Option (Nat × Bool)} {Q : Exit → Act → World → Prop} {K : Act → World → Prop}
theorem y_loadAt (ha : Has n T a) {d : Option Tmp} {t : TypeId} {td : TypeDesc} {x : Operand} {b o : Nat} {vs : List Value} (hr : w.rangeAt b o vs) (hx : evT T x = some (.pointer (some ⟨b, o, none⟩))) (hu : P.underlying t = some td) (hd : td.isRow = true) (hs : (P.info? t).map (·.size) = some vs.length) : Yl P a w ⟨d, .load t x, tt, pos, af, gd⟩ (.agg vs.toArray) := by
 show (execOp _ _).run P w = _
 rw [exec_load t x rfl b o (ha.ev hx) vs td hr hu hd hs]
/-! ### A struct of one slice of one's own, behind a pointer -/
def cxp (S : Nat → Prop) (w : World) (B : Nat) (v : Value) : Cx := ⟨B :: v.ownBlock.toList, fun b => b < w.heap.size → S b⟩
theorem SegOk.mono {S S' : Nat → Prop} {w : World} {v : Value} {e : TypeId} {m : Nat} {rows : List (List D)} (h : SegOk S w v e m rows) (hs : ∀ b, b < w.heap.size → S b → S' b) : SegOk S' w v e m rows := by
 obtain ⟨cs, h1, h2, h3, h4, h5⟩ := h
 exact ⟨cs, h1, h2, h3, h4, fun j q c r x d a1 a2 a3 a4 => (h5 j q c r x d a1 a2 a3 a4).mono (Nat.le_refl _) (fun b hlt hS => ⟨rfl, hs b hlt hS⟩)⟩
def PoolAt (S : Nat → Prop) (w : World) (B : Nat) (pt e : TypeId) (mm : Nat) (v : Value) (rows : List (List D)) (w' : World) (v' : Value) : Prop :=
 Blk w' B pt [v'] ∧ SegOk (fun b => (S b ∨ w.heap.size ≤ b) ∧ b ≠ B ∧ v'.ownBlock ≠ some b) w' v' e mm rows ∧ Keep (fun b => b = B ∨ v.ownBlock = some b) w w' ∧ (∀ b, v'.ownBlock = some b → w.heap.size ≤ b ∨ v.ownBlock = some b) ∧ v'.ownBlock ≠ some B
end
end
section
section
variable {P : Program} {n : Nat} {T : List (Nat × Value)} {a : Act} {w w0 : World} {X : Cx} {M : Mm} {tt tt' : TypeId} {pos pos' : String} {af af' : Array Edge} {ops : Array Oper} {rest : List Oper} {Q : Exit → Act → World → Prop}
end
end
section
theorem SegOk.rd {S S' : Nat → Prop} {w : World} {v : Value} {e : TypeId} {mm : Nat} {rows : List (List D)} (h : SegOk S w v e mm rows) (hS : ∀ b, b < w.heap.size → S b → S' b) (hv : ∀ b, v.ownBlock = some b → S' b) : Rd S' w v (.l mm rows) := by
 obtain ⟨cs, h1, h2, h3, h4, h5⟩ := h
 rcases h1.2 with ⟨rfl, h0⟩ | ⟨g, off, cap, cur, e1, hg, hbk, hcap, h7, h8, h9⟩
 · obtain rfl := List.length_eq_zero_iff.1 h0
   exact .l0 none 0 mm
 · subst e1
   have hlt := (Array.getElem?_eq_some_iff.1 hbk).1
   refine .l mm g off cap rows (fun j q => (cs.flatten[j * mm + q]?).getD undef) (hv g rfl) hlt hcap h4 (fun j q hj hq => ?_) (fun j q r d hj hq => ?_)
   · have hjc : j < cs.length := by omega
     have hc : cs[j]? = some cs[j] := List.getElem?_eq_getElem hjc
     have hm := (h3 cs[j] (List.getElem_mem hjc)).1
     have hx : cs[j][q]? = some (cs[j][q]'(by omega)) := List.getElem?_eq_getElem (by omega)
     have hf := flatten_at cs j q cs[j] (fun c hc => (h3 c hc).1) hc hq
     have := h1.cellAt rfl (j * mm + q) (by calc j * mm + q < j * mm + mm := by omega
         _ = (j + 1) * mm := by rw [Nat.add_mul]; omega
         _ ≤ rows.length * mm := Nat.mul_le_mul_right _ (by omega))
     rw [Nat.add_assoc, this, hf, hx]
     exact ⟨rfl, (h3 cs[j] (List.getElem_mem hjc)).2 _ (List.getElem_mem _)⟩
   · have hjr := (List.getElem?_eq_some_iff.1 hj).1
     have hjc : j < cs.length := by omega
     have hc : cs[j]? = some cs[j] := List.getElem?_eq_getElem hjc
     have hm := (h3 cs[j] (List.getElem_mem hjc)).1
     have hqr := (List.getElem?_eq_some_iff.1 hq).1
     have hrm := h4 r (List.mem_of_getElem? hj)
     have hx : cs[j][q]? = some (cs[j][q]'(by omega)) := List.getElem?_eq_getElem (by omega)
     have hf := flatten_at cs j q cs[j] (fun c hc => (h3 c hc).1) hc (by omega)
     show Rd S' w ((cs.flatten[j * mm + q]?).getD undef) d
     rw [hf, hx]
     exact (h5 j q cs[j] r _ d hc hj hx hq).mono (Nat.le_refl _) (fun b hlt hs => ⟨rfl, hS b hlt hs⟩)
theorem SegOk.take {S : Nat → Prop} {w : World} {p : Option Addr} {l c mm : Nat} {e : TypeId} {rows : List (List D)} (h : SegOk S w (.slice p l c) e mm rows) (j : Nat) (hj : j ≤ rows.length) : SegOk S w (.slice p j c) e mm (rows.take j) := by
 obtain ⟨cs, h1, h2, h3, h4, h5⟩ := h
 have hft : (cs.take j).flatten = cs.flatten.take (j * mm) := flatten_take cs j (fun c hc => (h3 c hc).1) (by omega)
 have hjm : j * mm ≤ rows.length * mm := Nat.mul_le_mul_right _ hj
 have hjl : (rows.take j).length = j := by rw [List.length_take]; omega
 refine ⟨cs.take j, ?_, by simp [h2], fun c hc => h3 c (List.mem_of_mem_take hc), fun r hr => h4 r (List.mem_of_mem_take hr), fun j' q c' r x d a1 a2 a3 a4 => ?_⟩
 · rw [hjl, hft]
   refine ⟨by rw [List.length_take, h1.1]; omega, ?_⟩
   rcases h1.2 with ⟨e1, h0⟩ | ⟨g, off, cap, cur, e1, hg, hbk, hcap, h7, h8, h9⟩
   · injection e1 with e1 _ e3; subst e1; subst e3
     obtain rfl : j = 0 := by omega
     exact .inl ⟨rfl, rfl⟩
   · injection e1 with e1 _ e3; subst e1; subst e3
     exact .inr ⟨g, off, c, cur, rfl, hg, hbk, by omega, h7, h8, by rw [← h9, List.take_take, Nat.min_eq_left hjm]⟩
 · have hlt : j' < j := by
     have := (List.getElem?_eq_some_iff.1 a2).1
     rw [hjl] at this; exact this
   rw [List.getElem?_take_of_lt hlt] at a1 a2
   exact h5 j' q c' r x d a1 a2 a3 a4
section
variable {w w0 : World} {X : Cx} {M : Mm}
theorem Rd.ext {S2 : Nat → Prop} {p : Option Addr} {l c mm : Nat} {rows : List (List D)} (h : Rd S2 w0 (.slice p l c) (.l mm rows)) (m : MemOk X w0 M w) (hX : ∀ b, S2 b → b ∉ X.bad) (j : Nat) {r : List D} (hr : rows[j]? = some r) : ∃ g off vs, p = some ⟨g, off, none⟩ ∧ l = rows.length ∧ RdL S2 w0 vs r ∧ w.rangeAt g (off + j * mm) vs := by
 have hj : j < rows.length := (List.getElem?_eq_some_iff.1 hr).1
 rcases Rd.l_out h with rfl | ⟨b, off, c', f, e, hS, hb, hmm, hcell, hrd⟩
 · simp at hj
 · injection e with e1 e2 e3
   have hrm : r.length = mm := hmm r (List.mem_of_getElem? hr)
   refine ⟨b, off, (List.range mm).map (f j), e1, e2, RdL.of (by simp [hrm]) (fun q v d h1 h2 => ?_), fun q v hv => ?_⟩
   · have h1' : q < mm := by have := (List.getElem?_eq_some_iff.1 h2).1; omega
     have : v = f j q := by simpa [h1'] using h1.symm
     subst this
     exact hrd j q r _ hr h2
   · have hq' := (List.getElem?_eq_some_iff.1 hv).1
     have hq2 : q < mm := by simpa using hq'
     have : v = f j q := by simpa [hq2] using hv.symm
     subst this
     rw [World.cell?_of_block (w := w0) (m.keep.2.2.2.2 b hb (hX b hS))]
     exact (hcell j q hj hq2).1
theorem Rd.now {S2 : Nat → Prop} {v : Value} {d : D} (h : Rd S2 w0 v d) (m : MemOk X w0 M w) (hX : ∀ b, S2 b → b ∉ X.bad) : Rd S2 w v d := h.mono m.keep.size (fun b hlt hS => ⟨m.keep.2.2.2.2 b hlt (hX b hS), hS⟩)
end
end
section
section
variable {P : Program} {n : Nat} {T : List (Nat × Value)} {a : Act} {w w0 : World} {X : Cx} {M : Mm} {tt : TypeId} {pos : String} {af : Array Edge} {gd : Option (Nat × Bool)} {Q : Exit → Act → World → Prop} {K : Act → World → Prop}
end
theorem SegOk.src {S : Nat → Prop} {w : World} {v : Value} {e : TypeId} {mm : Nat} {rows : List (List D)} (h : SegOk S w v e mm rows) : SrcOk S w v mm rows := by
 obtain ⟨cs, h1, h2, h3, h4, h5⟩ := h
 rcases h1.2 with ⟨e1, h0⟩ | ⟨g, off, cap, cur, e1, hg, hbk, hcap, h7, h8, h9⟩
 · exact ⟨none, 0, cs, by rw [e1, h0], h2, h3, h4, h5, .inl h0⟩
 · refine ⟨_, cap, cs, e1, h2, h3, h4, h5, .inr ⟨_, rfl, fun j u hj => ?_⟩⟩
   have hjl : j < rows.length * mm := by rw [← h1.1]; exact (List.getElem?_eq_some_iff.1 hj).1
   have := h1.cellAt e1 j hjl
   rw [Addr.add_mid, this, hj]
end
section
inductive Shp where
 | i (k : IntKind)
 | bo
 | st
 | ns (k : IntKind)
 | l (ss : List Shp)
mutual
inductive DOk : Shp → D → Prop
 | i {k : IntKind} {z : Int} (h : (Lit.int k z).wf = true) : DOk (.i k) (.v (.int k z))
 | bo (x : Bool) : DOk .bo (.v (.bool x))
 | st (x : ByteArray) (h : x.size ≤ reachBytes) : DOk .st (.v (.string x))
 | ns {k : IntKind} {zs : List Int} (h1 : zs.length ≤ reachBytes) (h : ∀ z ∈ zs, (Lit.int k z).wf = true) : DOk (.ns k) (.ns k zs)
 | l {ss : List Shp} {rows : List (List D)} (h1 : rows.length ≤ reachBytes) (h : ∀ r ∈ rows, DOkL ss r) : DOk (.l ss) (.l ss.length rows)
inductive DOkL : List Shp → List D → Prop
 | nil : DOkL [] []
 | cons {s : Shp} {d : D} {ss : List Shp} {ds : List D} (h : DOk s d) (t : DOkL ss ds) : DOkL (s :: ss) (d :: ds)
end
theorem DOkL.len {ss : List Shp} {ds : List D} (h : DOkL ss ds) : ds.length = ss.length := by
 induction ss generalizing ds with
 | nil => cases h; rfl
 | cons s ss ih => cases h with | cons h t => simp [ih t]
inductive Fits (P : Program) : TypeId → List Shp → Prop
 | int {t : TypeId} {k : IntKind} (hu : P.underlying t = some (.int k)) : Fits P t [.i k]
 | bool {t : TypeId} (hu : P.underlying t = some .bool) : Fits P t [.bo]
 | str {t : TypeId} (hu : P.underlying t = some .string) : Fits P t [.st]
 | nums {t e : TypeId} {k : IntKind} (hu : P.underlying t = some (.slice e)) (he : P.underlying e = some (.int k)) (ce : P.cellsOf e = 1) (hb : Nat.ble 1 (P.bytesOf e) = true) : Fits P t [.ns k]
 | rows {t e : TypeId} {ss : List Shp} (hu : P.underlying t = some (.slice e)) (hf : Fits P e ss) (ce : P.cellsOf e = ss.length) (h0 : Nat.blt 0 ss.length = true) (hb : Nat.ble 1 (P.bytesOf e) = true) : Fits P t [.l ss]
 | struct {t : TypeId} {fs : Array Field} {sss : List (List Shp)} (hu : P.underlying t = some (.struct fs)) (ce : P.cellsOf t = sss.flatten.length) (hl : sss.length = fs.size)
     (ho : ∀ (i : Nat) (f : Field) (s : List Shp), fs[i]? = some f → sss[i]? = some s → f.offset = (sss.take i).flatten.length ∧ P.cellsOf f.type = s.length)
     (hf : ∀ (i : Nat) (f : Field) (s : List Shp), fs[i]? = some f → sss[i]? = some s → Fits P f.type s) : Fits P t sss.flatten
 | array {t e : TypeId} {n : Nat} {ss : List Shp} (hu : P.underlying t = some (.array n e)) (hf : Fits P e ss) (ce : P.cellsOf e = ss.length) (ct : P.cellsOf t = (List.replicate n ss).flatten.length) : Fits P t (List.replicate n ss).flatten
inductive FitsL (P : Program) : List Field → Nat → List (List Shp) → Prop
 | nil (o : Nat) : FitsL P [] o []
 | cons {f : Field} {fs : List Field} {o : Nat} {s : List Shp} {ss : List (List Shp)} (ho : f.offset = o) (hc : P.cellsOf f.type = s.length) (hf : Fits P f.type s) (t : FitsL P fs (o + s.length) ss) : FitsL P (f :: fs) o (s :: ss)
theorem FitsL.at {P : Program} {fs : List Field} {o : Nat} {ss : List (List Shp)} (h : FitsL P fs o ss) : ∀ (i : Nat) (f : Field) (s : List Shp), fs[i]? = some f → ss[i]? = some s → (f.offset = o + (ss.take i).flatten.length ∧ P.cellsOf f.type = s.length) ∧ Fits P f.type s := by
 induction h with
 | nil o => intro i f s h1; simp at h1
 | cons ho hc hf t ih =>
   intro i f s h1 h2
   cases i with
   | zero => simp at h1 h2; subst h1; subst h2; exact ⟨⟨by simpa using ho, hc⟩, hf⟩
   | succ i =>
     have := ih i f s (by simpa using h1) (by simpa using h2)
     refine ⟨⟨?_, this.1.2⟩, this.2⟩
     rw [this.1.1]; simp; omega
theorem FitsL.len {P : Program} {fs : List Field} {o : Nat} {ss : List (List Shp)} (h : FitsL P fs o ss) : ss.length = fs.length := by
 induction h with
 | nil => rfl
 | cons _ _ _ _ ih => simp [ih]
theorem Fits.mk {P : Program} {t : TypeId} {fs : Array Field} {sss : List (List Shp)} {ss : List Shp} (hu : P.underlying t = some (.struct fs)) (ce : P.cellsOf t = ss.length) (he : sss.flatten = ss) (h : FitsL P fs.toList 0 sss) : Fits P t ss := by
 subst he
 refine .struct hu ce (by simpa using h.len) (fun i f s h1 h2 => ?_) (fun i f s h1 h2 => (h.at i f s (by simpa using h1) h2).2)
 have := (h.at i f s (by simpa using h1) h2).1
 exact ⟨by rw [this.1, Nat.zero_add], this.2⟩
theorem DOk.l_out {ss : List Shp} {d : D} (h : DOk (.l ss) d) : ∃ rows, d = .l ss.length rows ∧ rows.length ≤ reachBytes ∧ ∀ r ∈ rows, DOkL ss r := by cases h with | l h1 h2 => exact ⟨_, rfl, h1, h2⟩
theorem DOk.ns_out {k : IntKind} {d : D} (h : DOk (.ns k) d) : ∃ zs, d = .ns k zs ∧ zs.length ≤ reachBytes ∧ ∀ z ∈ zs, (Lit.int k z).wf = true := by cases h with | ns h1 h2 => exact ⟨_, rfl, h1, h2⟩
end
section
def ownL (M : Mm) : List Nat := M.filterMap (fun p => p.2.blk)
def cxM (X : Cx) (M : Mm) (w : World) (L : Mm) : Cx := ⟨ownL L, fun b => b < w.heap.size → Free X M b⟩
def Res.pass : Res → Bool
 | .num _ _ _ _ => false
 | .row _ _ _ _ => false
 | .rowC _ _ _ _ _ => false
 | _ => true
def dropM (M : Mm) (ids : List Nat) : Mm := M.filter (fun p => !(ids.any (Nat.beq p.1)))
theorem lk_mem {α : Type} : ∀ {M : List (Nat × α)} {i : Nat} {r : α}, lk M i = some r → (i, r) ∈ M
 | [], i, r, h => by cases h
 | (k, x) :: t, i, r, h => by
   rw [lk_cons] at h
   split at h
   · rename_i e; subst e; cases h; exact List.mem_cons_self
   · exact List.mem_cons_of_mem _ (lk_mem h)
theorem renM_mem {M : Mm} : ∀ {ps : List (Nat × Nat)} {i : Nat} {r : Res}, (i, r) ∈ renM M ps → ∃ j, (i, j) ∈ ps ∧ lk M j = some r
 | [], i, r, h => by cases h
 | (i', j) :: t, i, r, h => by
   rw [renM] at h
   split at h
   · rename_i r' hr
     rcases List.mem_cons.1 h with e | h
     · injection e with e1 e2; subst e1; subst e2; exact ⟨j, List.mem_cons_self, hr⟩
     · obtain ⟨j', h1, h2⟩ := renM_mem h; exact ⟨j', List.mem_cons_of_mem _ h1, h2⟩
   · obtain ⟨j', h1, h2⟩ := renM_mem h; exact ⟨j', List.mem_cons_of_mem _ h1, h2⟩
theorem ownL_of {M : Mm} {i b : Nat} {r : Res} (h : lk M i = some r) (hb : r.blk = some b) : b ∈ ownL M := List.mem_filterMap.2 ⟨(i, r), lk_mem h, hb⟩
theorem ownL_ren {M : Mm} {ps : List (Nat × Nat)} {b : Nat} (h : b ∈ ownL (renM M ps)) : ∃ i j r, (i, j) ∈ ps ∧ lk M j = some r ∧ r.blk = some b := by
 obtain ⟨⟨i, r⟩, h1, h2⟩ := List.mem_filterMap.1 h
 obtain ⟨j, h3, h4⟩ := renM_mem h1
 exact ⟨i, j, r, h3, h4, h2⟩
theorem lk_app {α : Type} : ∀ {A B : List (Nat × α)} {i : Nat}, lk (A ++ B) i = (lk A i).or (lk B i)
 | [], B, i => rfl
 | (k, x) :: t, B, i => by
   rw [List.cons_append, lk_cons, lk_cons]
   split
   · rfl
   · exact lk_app
theorem dropM_lk {ids : List Nat} : ∀ {M : Mm} {i : Nat} {r : Res}, lk (dropM M ids) i = some r → i ∉ ids ∧ lk M i = some r
 | [], i, r, h => by cases h
 | (k, x) :: t, i, r, h => by
   unfold dropM at h
   rw [List.filter_cons] at h
   split at h
   · rename_i hk
     rw [lk_cons] at h
     rw [lk_cons]
     split at h
     · rename_i e; subst e
       rw [if_pos rfl]
       refine ⟨fun hm => ?_, h⟩
       simp at hk
       exact hk _ hm rfl
     · rename_i e
       rw [if_neg e]
       exact dropM_lk h
   · rename_i hk
     obtain ⟨h1, h2⟩ := dropM_lk (M := t) h
     refine ⟨h1, ?_⟩
     rw [lk_cons]
     split
     · rename_i e; subst e
       simp at hk
       exact absurd hk h1
     · exact h2
section
variable {w w0 : World} {X : Cx} {M : Mm}
theorem MemOk.into (m : MemOk X w0 M w) (ps : List (Nat × Nat)) (hp : (ps.all fun p => ps.all fun q => !(p.2 == q.2) || p.1 == q.1) = true) (h2 : (renM M ps).all (fun p => p.2.pass) = true) : MemOk (cxM X M w (renM M ps)) w (renM M ps) w where
 keep := Keep.refl _ _
 fresh := fun b hb hlt => absurd hlt (by omega)
 ok i r h := by
   obtain ⟨j, h3, h4⟩ := renM_out h
   have hpass : r.pass = true := List.all_eq_true.1 h2 _ (lk_mem h)
   have hown : ∀ b, Own (renM M ps) b → Own M b := fun b ⟨q, s, hq, hs⟩ => by obtain ⟨q', _, h5⟩ := renM_out hq; exact ⟨q', s, h5, hs⟩
   have hfree : ∀ b, b < w.heap.size → Free X M b → w.heap[b]? = w.heap[b]? ∧ Free (cxM X M w (renM M ps)) (renM M ps) b := fun b hb hF => ⟨rfl, fun _ => hF, fun ho => hF.2 (hown b ho)⟩
   have hbad : ∀ b, r.blk = some b → b ∈ ownL (renM M ps) := fun b hb => ownL_of h hb
   have ho := m.ok j r h4
   cases r with
   | dat v d => exact Rd.mono ho (Nat.le_refl _) hfree
   | box g e cs => exact ⟨ho.1, .inr (hbad g rfl)⟩
   | num v e k zs => cases hpass
   | row v e mm rows => cases hpass
   | rowC v e mm rows cs => cases hpass
   | seg v e mm rows => exact ⟨ho.1.mono (fun b hb hF => (hfree b hb hF).2), fun b hb => .inr (hbad b hb)⟩
   | cel b o vs => exact ⟨(hfree b ho.2.1 ho.1).2, ho.2⟩
   | any g => exact ⟨ho.1, .inr (hbad g rfl)⟩
   | gone => trivial
 sep i j r s b h1 h2' hr hs := by
   obtain ⟨i', a1, a2⟩ := renM_out h1
   obtain ⟨j', b1, b2⟩ := renM_out h2'
   obtain rfl := m.sep i' j' r s b a2 b2 hr hs
   rw [List.all_eq_true] at hp
   have h3 := hp _ a1
   rw [List.all_eq_true] at h3
   have h4 := h3 _ b1
   simpa using h4
theorem Res.ok_low {N N' : Nat} {X X' : List Nat} {S : Nat → Prop} {w : World} {r : Res} (h : r.ok N X S w) (hN : N' ≤ N) (hX : ∀ b, r.blk = some b → b ∈ X → N' ≤ b ∨ b ∈ X') : r.ok N' X' S w := by
 have low : ∀ {e : TypeId} {s : Nat} {v : Value} {n : Nat} {xs : List Value}, w.ownsRow N e s v n xs → w.ownsRow N' e s v n xs := by
   intro e s v n xs h
   refine ⟨h.1, ?_⟩
   rcases h.2 with hn | ⟨g, cap, cur, rfl, hg, rest⟩
   · exact .inl hn
   · exact .inr ⟨g, cap, cur, rfl, Nat.le_trans hN hg, rest⟩
 have two : ∀ b, r.blk = some b → (N ≤ b ∨ b ∈ X) → (N' ≤ b ∨ b ∈ X') := fun b hb h => h.elim (fun h => .inl (Nat.le_trans hN h)) (hX b hb)
 cases r with
 | dat v d => exact h
 | box g e cs => exact ⟨h.1, two g rfl h.2⟩
 | num v e k zs => exact low h
 | row v e mm rows => obtain ⟨cs, h1, h2⟩ := h; exact ⟨cs, low h1, h2⟩
 | rowC v e mm rows cs => exact ⟨low h.1, h.2⟩
 | seg v e mm rows => exact ⟨h.1, fun b hb => two b hb (h.2 b hb)⟩
 | cel b o vs => exact h
 | any g => exact ⟨h.1, two g rfl h.2⟩
 | gone => trivial
theorem MemOk.back (m : MemOk X w0 M w) {ps : List (Nat × Nat)} {L : Mm} {w' : World} (m' : MemOk (cxM X M w (renM M ps)) w L w') (qs : List (Nat × Nat)) (hq : (qs.all fun p => qs.all fun q => !(p.2 == q.2) || p.1 == q.1) = true) : MemOk X w0 (renM L qs ++ dropM M (ps.map (·.2))) w' := by
 -- the blocks that the call might write
 have hbad : ∀ b, b ∈ ownL (renM M ps) → ∃ j r, j ∈ ps.map (·.2) ∧ lk M j = some r ∧ r.blk = some b := fun b hb => by
   obtain ⟨i, j, r, h1, h2, h3⟩ := ownL_ren hb
   exact ⟨j, r, List.mem_map.2 ⟨(i, j), h1, rfl⟩, h2, h3⟩
 have hbadX : ∀ b, b ∈ ownL (renM M ps) → b < w.heap.size ∧ (w0.heap.size ≤ b ∨ b ∈ X.bad) := fun b hb => by
   obtain ⟨j, r, _, h2, h3⟩ := hbad b hb
   exact Res.blk_lt (m.ok j r h2) h3
 have hcase : ∀ i r, lk (renM L qs ++ dropM M (ps.map (·.2))) i = some r → (∃ j, (i, j) ∈ qs ∧ lk L j = some r) ∨ (i ∉ ps.map (·.2) ∧ lk M i = some r) := fun i r h => by
   rw [lk_app] at h
   cases hr : lk (renM L qs) i with
   | some r' =>
     rw [hr] at h
     injection h with h; subst h
     exact .inl (renM_out hr)
   | none =>
     rw [hr] at h
     exact .inr (dropM_lk h)
 have hnew : ∀ j r b, lk L j = some r → r.blk = some b → w.heap.size ≤ b ∨ b ∈ ownL (renM M ps) := fun j r b h1 h2 => (Res.blk_lt (m'.ok j r h1) h2).2
 have hold : ∀ i r b, i ∉ ps.map (·.2) → lk M i = some r → r.blk = some b → b < w.heap.size ∧ b ∉ ownL (renM M ps) := fun i r b h1 h2 h3 => by
   refine ⟨(Res.blk_lt (m.ok i r h2) h3).1, fun hb => ?_⟩
   obtain ⟨j, s, h4, h5, h6⟩ := hbad b hb
   obtain rfl := m.sep i j r s b h2 h5 h3 h6
   exact h1 h4
 have hsame : ∀ b, b < w.heap.size → b ∉ ownL (renM M ps) → w'.heap[b]? = w.heap[b]? := fun b hb hn => m'.keep.2.2.2.2 b hb hn
 have hfree : ∀ b, b < w.heap.size → Free X M b → Free X (renM L qs ++ dropM M (ps.map (·.2))) b := fun b hb hF => by
   refine ⟨hF.1, ?_⟩
   rintro ⟨i, r, hi, hr⟩
   rcases hcase i r hi with ⟨j, _, h2⟩ | ⟨_, h2⟩
   · rcases hnew j r b h2 hr with h | h
     · omega
     · obtain ⟨j', s, _, h5, h6⟩ := hbad b h
       exact hF.2 ⟨j', s, h5, h6⟩
   · exact hF.2 ⟨i, r, h2, hr⟩
 have hnb : ∀ b, b < w.heap.size → Free X M b → b ∉ ownL (renM M ps) := fun b hb hF h => by
   obtain ⟨j', s, _, h5, h6⟩ := hbad b h
   exact hF.2 ⟨j', s, h5, h6⟩
 refine ⟨⟨m'.keep.1.trans m.keep.1, m'.keep.2.1.trans m.keep.2.1, m'.keep.2.2.1.trans m.keep.2.2.1, Nat.le_trans m.keep.size m'.keep.size, fun b hb hn => ?_⟩, m.fresh, fun i r hi => ?_, fun i j r s b hi hj hr hs => ?_⟩
 · rw [hsame b (Nat.lt_of_lt_of_le hb m.keep.size) (fun h => (hbadX b h).2.elim (fun h => by omega) hn)]
   exact m.keep.2.2.2.2 b hb hn
 · rcases hcase i r hi with ⟨j, h1, h2⟩ | ⟨h1, h2⟩
   · have h3 := m'.ok j r h2
     have h4 : r.ok w0.heap.size X.bad (Free (cxM X M w (renM M ps)) L) w' := Res.ok_low h3 m.keep.size (fun b _ hb => (hbadX b hb).2)
     refine Res.ok_mono h4 (Nat.le_refl _) (fun b hb hF => ⟨rfl, ?_⟩) (fun _ _ => rfl)
     by_cases hbw : b < w.heap.size
     · exact hfree b hbw (hF.1 hbw)
     · refine ⟨m.fresh b (by have := m.keep.size; omega), ?_⟩
       rintro ⟨i', r', hi', hr'⟩
       rcases hcase i' r' hi' with ⟨j', _, h6⟩ | ⟨h5, h6⟩
       · exact hF.2 ⟨j', r', h6, hr'⟩
       · have := (hold i' r' b h5 h6 hr').1; omega
   · exact Res.ok_mono (m.ok i r h2) m'.keep.size (fun b hb hF => ⟨hsame b hb (hnb b hb hF), hfree b hb hF⟩) (fun b hb => hsame b (hold i r b h1 h2 hb).1 (hold i r b h1 h2 hb).2)
 · rcases hcase i r hi with ⟨i', a1, a2⟩ | ⟨a1, a2⟩ <;> rcases hcase j s hj with ⟨j', b1, b2⟩ | ⟨b1, b2⟩
   · obtain rfl := m'.sep i' j' r s b a2 b2 hr hs
     rw [List.all_eq_true] at hq
     have h3 := hq _ a1
     rw [List.all_eq_true] at h3
     have h4 := h3 _ b1
     simpa using h4
   · exfalso
     have h1 := hold j s b b1 b2 hs
     rcases hnew i' r b a2 hr with h | h
     · omega
     · exact h1.2 h
   · exfalso
     have h1 := hold i r b a1 a2 hr
     rcases hnew j' s b b2 hs with h | h
     · omega
     · exact h1.2 h
   · exact m.sep i j r s b a2 b2 hr hs
end
end
section
abbrev cn (w : World) : Cx := cx (fun _ => False) w
abbrev New (w : World) (b : Nat) : Prop := w.heap.size ≤ b
section
variable {w w0 : World} {X : Cx} {M : Mm}
theorem cn_new {b : Nat} (h : Free (cn w0) M b) : New w0 b := by
 by_cases hb : b < w0.heap.size
 · exact (h.1 hb).elim
 · show w0.heap.size ≤ b; omega
theorem MemOk.outF (m : MemOk (cn w0) w0 M w) {i : Nat} {v : Value} {d : D} (h : lk M i = some (.dat v d)) : Rd (New w0) w v d := (m.ok i _ h : Rd _ _ _ _).cast (fun _ => cn_new)
theorem MemOk.callF (m : MemOk X w0 M w) (i : Nat) (hi : lk M i = none) {w' : World} (hb : Below w.heap.size w w') {u : Value} {d : D} (h : Rd (New w) w' u d) : MemOk X w0 ((i, .dat u d) :: M) w' :=
 (m.later hb).dat i hi (h.cast (fun b hb => m.free_out (.inr hb)))
theorem keepNow (m : MemOk X w0 M w) (hX : X.bad = []) {b : Nat} (hb : b < w0.heap.size) : w.heap[b]? = w0.heap[b]? := m.keep.2.2.2.2 b hb (by rw [hX]; exact List.not_mem_nil)
theorem Blk.now {g : Nat} {e : TypeId} {cs : List Value} (h : Blk w0 g e cs) (m : MemOk X w0 M w) (hX : X.bad = []) : Blk w g e cs := (keepNow m hX h.lt).trans h
theorem Rd.now' {S2 : Nat → Prop} {v : Value} {d : D} (h : Rd S2 w0 v d) (m : MemOk X w0 M w) (hX : X.bad = []) : Rd S2 w v d := h.now m (fun b _ => by rw [hX]; exact List.not_mem_nil)
theorem Rd.extN {S2 : Nat → Prop} {p : Option Addr} {l c : Nat} {k : IntKind} {zs : List Int} (h : Rd S2 w0 (.slice p l c) (.ns k zs)) (j : Nat) (hj : j < zs.length) : ∃ g off, p = some ⟨g, off, none⟩ ∧ l = zs.length ∧ ∀ {X : Cx} {M : Mm} {w : World}, MemOk X w0 M w → X.bad = [] → w.rangeAt g (off + j * 1) [.int k (zs.getD j 0)] := by
 obtain ⟨a, c', e, hc, h0 | ⟨b, off, rfl, hS, hb, hcell⟩⟩ := h.ns_out
 · omega
 · injection e with e1 e2 e3
   refine ⟨b, off, e1, e2, fun m hX q v hv => ?_⟩
   obtain rfl : q = 0 := by have := (List.getElem?_eq_some_iff.1 hv).1; simpa using this
   simp at hv; subst hv
   rw [World.cell?_of_block (w := w0) (keepNow m hX hb), Nat.add_zero, Nat.mul_one]
   exact hcell j hj
end
section
variable {P : Program} {n : Nat} {T : List (Nat × Value)} {a : Act} {w w0 : World} {X : Cx} {M : Mm} {tt : TypeId} {pos : String} {af : Array Edge} {gd : Option (Nat × Bool)} {Q : Exit → Act → World → Prop} {K : Act → World → Prop} {d : Option Tmp}
theorem Blk.sub {g : Nat} {e : TypeId} {cs : List Value} (h : Blk w g e cs) (o k : Nat) : w.rangeAt g o ((cs.drop o).take k) := fun j v hj => by
 have hj' : j < k := by have := (List.getElem?_eq_some_iff.1 hj).1; rw [List.length_take] at this; omega
 rw [List.getElem?_take_of_lt hj', List.getElem?_drop] at hj
 rw [h.cell]; exact hj
theorem y_loadAt1 (ha : Has n T a) {t : TypeId} {td : TypeDesc} {x : Operand} {b o q q' : Nat} {vs : List Value} {v : Value} (hr : w.rangeAt b o vs) (hx : evT T x = some (.pointer (some ⟨b, q', none⟩))) (hq : q' = o + q) (hv : nthL vs q = some v) (hu : P.underlying t = some td) (hd : td.isRow = false) : Yl P a w ⟨d, .load t x, tt, pos, af, gd⟩ v := by
 show (execOp _ _).run P w = _
 subst hq
 have hc' : w.cell? ⟨b, o + q, none⟩ = some v := hr q v (by rw [nthL_eq]; exact hv)
 simp [execOp, ha.ev hx, Instr.loadAt, Instr.sureAddr, run_load1 hu hd hc']
theorem y_max (ha : Has n T a) {t t2 : TypeId} {x y : Operand} {k k2 : IntKind} {p q r : Int} (hx : evT T x = some (.int k p)) (hy : evT T y = some (.int k2 q)) (hr : max p q = r) : Yl P a w ⟨d, .call { callee := .builtin .max, args := #[x, y], argTypes := #[t, t2] }, tt, pos, af, gd⟩ (.int k r) := by
 show (execOp _ _).run P w = _
 have e : (if p < q then q else p) = r := by rw [← hr]; split <;> omega
 simp [execOp, resolve, invoke, builtin, ha.ev hx, ha.ev hy, Builtin.max_, Builtin.max2, e]
theorem y_cap (h : Has n T a) {t e : TypeId} {x : Operand} {p : Option Addr} {l c : Nat} (hx : evT T x = some (.slice p l c)) (hu : P.underlying t = some (.slice e)) : Yl P a w ⟨d, .call { callee := .builtin .cap, args := #[x], argTypes := #[t] }, tt, pos, af, gd⟩ (.int .i64 c) := by
 show (execOp _ _).run P w = _; simp [execOp, resolve, invoke, builtin, h.ev hx, Builtin.cap_, run_underlying hu, goInt]
end
end
section
theorem fold_set (off : Nat) : ∀ (l : List Value) (k : Nat) (A : List Value), off + k + l.length ≤ A.length → ((l.zipIdx k).foldl (fun (cs : Array Value) (p : Value × Nat) => cs.setIfInBounds (off + p.2) p.1) A.toArray).toList = A.take (off + k) ++ l ++ A.drop (off + k + l.length)
 | [], k, A, _ => by simp
 | c :: l, k, A, h => by
   simp only [List.length_cons] at h
   rw [List.zipIdx_cons, List.foldl_cons]
   have e : A.toArray.setIfInBounds (off + k) c = (A.set (off + k) c).toArray := by simp
   rw [e, fold_set off l (k + 1) (A.set (off + k) c) (by rw [List.length_set]; omega)]
   have hk : off + k < A.length := by omega
   have e1 : (A.set (off + k) c).take (off + (k + 1)) = A.take (off + k) ++ [c] := by
     rw [show off + (k + 1) = off + k + 1 from by omega, List.take_succ_eq_append_getElem (by rw [List.length_set]; exact hk), List.getElem_set_self, List.take_set_of_le (Nat.le_refl _)]
   have e2 : (A.set (off + k) c).drop (off + (k + 1) + l.length) = A.drop (off + k + (l.length + 1)) := by
     rw [List.drop_set_of_lt (by omega)]; congr 1; omega
   rw [e1, e2, List.length_cons]
   simp
def putL : List Value → List (Nat × Nat) → List (Nat × Value) → Option (List Value)
 | z, _, [] => some z
 | z, ps, (i, v) :: r => match nthL ps i with
   | some (off, sz) => bif Nat.beq v.cells.toList.length sz && Nat.ble (off + sz) z.length then putL (z.take off ++ v.cells.toList ++ z.drop (off + sz)) ps r else none
   | none => none
theorem putL_fill (ps : List (Nat × Nat)) : ∀ (pl : List (Nat × Value)) (z cs : List Value), putL z ps pl = some cs → Instr.fill (fun i => ps[i]?) z.toArray pl = some cs.toArray
 | [], z, cs, h => by unfold putL at h; cases h; rfl
 | (i, v) :: r, z, cs, h => by
   unfold putL at h
   cases hp : nthL ps i with
   | none => rw [hp] at h; cases h
   | some q =>
     obtain ⟨off, sz⟩ := q
     rw [hp] at h
     dsimp only at h
     cases hb : (Nat.beq v.cells.toList.length sz && Nat.ble (off + sz) z.length) with
     | false => rw [hb] at h; cases h
     | true =>
       rw [hb] at h
       dsimp only [cond] at h
       rw [Bool.and_eq_true] at hb
       have h1 := Nat.eq_of_beq_eq_true hb.1
       have h2 := Nat.le_of_ble_eq_true hb.2
       have hsz : v.cells.size = sz := by simpa using h1
       rw [Instr.fill]
       rw [nthL_eq, hp]
       dsimp only
       have hc : ¬ ((v.cells.size ≠ sz || off + v.cells.size > z.toArray.size) = true) := by
         simp [hsz]; omega
       have e : (v.cells.zipIdx.foldl (fun cs (x : Value × Nat) => cs.setIfInBounds (off + x.2) x.1) z.toArray) = (z.take off ++ v.cells.toList ++ z.drop (off + sz)).toArray := by
         apply Array.ext'
         have := fold_set off v.cells.toList 0 z (by rw [Nat.add_zero, h1]; exact h2)
         rw [Nat.add_zero, h1] at this
         rw [← this, ← Array.foldl_toList, Array.toList_zipIdx]
       rw [if_neg (by simpa using hc)]
       have := putL_fill ps r _ _ h
       rw [← this, ← e]
def placesS (P : Program) (t : TypeId) : Option (List (Nat × Nat)) :=
 match P.underlying t with
 | some (.struct fs) => fs.toList.mapM (fun f => (P.info? f.type).map fun i => (f.offset, i.size))
 | _ => none
section
variable {P : Program} {n : Nat} {T : List (Nat × Value)} {a : Act} {w w0 : World} {X : Cx} {M : Mm} {tt : TypeId} {pos : String} {af : Array Edge} {gd : Option (Nat × Bool)} {Q : Exit → Act → World → Prop} {d : Option Tmp}
theorem built_put {t : TypeId} {z cs : List Value} {ps : List (Nat × Nat)} (hz : ((P.info? t).bind (·.zero)).map (·.cells.toList) = some z) (hps : placesS P t = some ps) (pl : List (Nat × Value)) (hp : putL z ps pl = some cs) : P.built t pl = some cs.toArray := by
 unfold placesS at hps
 unfold Program.built
 cases hi : P.info? t with
 | none => simp [hi] at hz
 | some it =>
   cases hu : P.underlying t with
   | none => simp [hu] at hps
   | some td =>
     cases td <;> try (simp [hu] at hps; done)
     case struct fs =>
       cases hzz : it.zero with
       | none => simp [hi, hzz] at hz
       | some zz =>
         have hzl : zz.cells.toList = z := by simpa [hi, hzz] using hz
         have hzc : zz.cells = z.toArray := by rw [← hzl]
         simp only [hu] at hps
         simp only [hzz, hps, hzc]
         have := putL_fill ps pl z cs hp
         simpa using this
theorem y_buildG (h : Has n T a) {t : TypeId} {parts : Array (Nat × Operand)} {z cs : List Value} {pl : List (Nat × Value)} {ps : List (Nat × Nat)} (hp : K.evP T parts.toList = some pl) (hz : ((P.info? t).bind (·.zero)).map (·.cells.toList) = some z) (hps : placesS P t = some ps) (hc : putL z ps pl = some cs) : Yl P a w ⟨d, .build t parts, tt, pos, af, gd⟩ (.agg cs.toArray) := by
 have hb := built_put hz hps pl hc
 have hpl := h.evP hp
 show (execOp _ _).run P w = _
 have hr := run_build (P := P) w t (parts.map fun (i, x) => (i, a.eval x)) cs.toArray (by rw [Array.toList_map]; rw [← hpl] at hb; exact hb)
 simp only [execOp, Sem.run_bind, hr, Result.andThen_ok, Sem.run_pure]
end
section
variable {P : Program} {n : Nat} {T : List (Nat × Value)} {a : Act} {w : World} {tt : TypeId} {pos : String} {af : Array Edge} {ops : Array Oper} {rest : List Oper} {Q : Exit → Act → World → Prop}
theorem Has.unyielded (ha : Has n T a) {j t : Nat} (hj : (ops[j]?).bind (·.dst) = some t) (hb : lk T t = some undef) (ht : Nat.blt t n = true) : Go.yielded ops a.tmps j = none := by
 have hlt : t < a.tmps.size := by rw [ha.sz]; simpa [Nat.blt_eq] using ht
 have := ha.h t _ hb
 unfold Go.yielded
 rw [hj]
 show (match a.tmps[t]? with | some (.bool b) => some b | _ => none) = none
 rw [Array.getElem?_eq_getElem hlt]
 have e : a.tmps[t] = undef := by simpa [Array.getD, hlt] using this
 rw [e]; rfl
theorem st_skipU {d : Tmp} {op : Op} {j t : Nat} {b : Bool} (ha : Has n T a) (hj : (ops[j]?).bind (·.dst) = some t) (hb : lk T t = some undef) (ht2 : Nat.blt t n = true) (ht : Nat.blt d n = true) (h : ∀ a', Has n ((d, undef) :: T) a' → wpList P ops Q rest a' w) : wpList P ops Q (⟨some d, op, tt, pos, af, some (j, b)⟩ :: rest) a w := by
 refine wpList_step fun K hK => ?_
 rw [if_neg (by simp [Region.wanted, ha.unyielded hj hb ht2])]
 exact hK _ _ (h _ (ha.put ht _))
variable {md : Region.Mode} {S : World → Prop} {e : Nat} {listed : Array Bool} {fuel : Nat}
end
section
variable {P : Program} {n : Nat} {T : List (Nat × Value)} {a : Act} {w w0 : World} {X : Cx} {M : Mm} {tt : TypeId} {pos : String} {af : Array Edge} {gd : Option (Nat × Bool)} {d : Option Tmp}
end
section
variable {P : Program} {n : Nat} {T : List (Nat × Value)} {a : Act} {w : World} {tt : TypeId} {pos : String} {af : Array Edge} {gd : Option (Nat × Bool)} {Q : Exit → Act → World → Prop} {K : Act → World → Prop}
end
end
section
theorem RowOk.cast {N : Nat} {S S' : Nat → Prop} {w : World} {v : Value} {e : TypeId} {m : Nat} {rows : List (List D)} (h : RowOk N S w v e m rows) (hs : ∀ b, S b → S' b) : RowOk N S' w v e m rows := by
 obtain ⟨cs, h1, h2, h3, h4, h5⟩ := h
 exact ⟨cs, h1, h2, h3, h4, fun j q c r x d a1 a2 a3 a4 => (h5 j q c r x d a1 a2 a3 a4).cast hs⟩
section
variable {P : Program} {n : Nat} {T : List (Nat × Value)} {a : Act} {w w0 : World} {X : Cx} {M : Mm} {tt : TypeId} {pos : String} {af : Array Edge} {gd : Option (Nat × Bool)} {Q : Exit → Act → World → Prop} {K : Act → World → Prop}
end
end
section
section
variable {P : Program} {n : Nat} {T : List (Nat × Value)} {a : Act} {w : World} {d : Option Tmp} {tt : TypeId} {pos : String} {af : Array Edge} {gd : Option (Nat × Bool)}
theorem y_makeFunc (h : Has n T a) {f : FuncId} {caps : Array Operand} {vs : List Value} (hargs : evA T caps.toList = some vs) : Yl P a w ⟨d, .makeFunc (.func f) #[] caps, tt, pos, af, gd⟩ (.func (.func f) #[] vs.toArray) := by
 have hv : caps.map a.eval = vs.toArray := by
   apply Array.ext'; rw [Array.toList_map, h.evA hargs]
 show (execOp _ _).run P w = _
 simp [execOp, Instr.makeFunc, hv]
end
section
variable {P : Program} {n : Nat} {T : List (Nat × Value)} {a : Act} {w : World} {Q : Exit → Act → World → Prop} {K : Act → World → Prop} {tt : TypeId} {pos : String} {af : Array Edge} {gd : Option (Nat × Bool)}
theorem e_callC (ha : Has n T a) {d : Tmp} {f : FuncId} {x : Operand} {args : Array Operand} {ats : Array TypeId} {fn : Func} {vs cs : List Value} (hxf : evT T x = some (.func (.func f) #[] cs.toArray)) (hf : P.funcs[f]? = some fn) (hn : (fn.name == "runtime.NumGoroutine") = false) (hb : fn.body.isNone = false) (hargs : evA T args.toList = some vs) (ht : Nat.blt d n = true) {R : Ending → World → Prop} (hc : Calls P f (vs ++ cs).toArray w R) (h : ∀ e w', R e w' → ∃ v, e = .returned v ∧ ∀ a', Has n ((d, v) :: T) a' → K a' w') : Oper.wp P ⟨some d, .call { callee := .value x, args := args, argTypes := ats }, tt, pos, af, gd⟩ a w K Q := by
 have hv : args.map a.eval = vs.toArray := by
   apply Array.ext'; rw [Array.toList_map, ha.evA hargs]
 have hr : (execOp a.eval ⟨some d, .call { callee := .value x, args := args, argTypes := ats }, tt, pos, af, gd⟩).run P w = .ok (.enter f (vs ++ cs).toArray) w := by
   have hn' : ¬ fn.name = "runtime.NumGoroutine" := by simpa using hn
   have hb' : ¬ fn.body = none := by cases h9 : fn.body with | none => rw [h9] at hb; cases hb | some c => simp
   simp [execOp, resolve, ha.ev hxf, Deferred.ofValue, invoke, callFunc, hf, hn', hb', hv]
 show Oper.upon P _ a K Q _
 rw [hr]
 show Calls P f (vs ++ cs).toArray w _
 refine hc.mono (fun e w' hR => ?_)
 obtain ⟨v, rfl, hh⟩ := h e w' hR
 exact hh _ (ha.put ht v)
end
section
variable {P : Program} {n : Nat} {T : List (Nat × Value)} {a : Act} {w w0 : World} {X : Cx} {M : Mm}
end
end
section
section
variable {P : Program} {n : Nat} {T : List (Nat × Value)} {a : Act} {w w0 : World} {X : Cx} {M : Mm} {tt : TypeId} {pos : String} {af : Array Edge} {gd : Option (Nat × Bool)} {Q : Exit → Act → World → Prop} {K : Act → World → Prop}
end
end
section
variable {P : Program} {n : Nat} {T : List (Nat × Value)} {a : Act} {w : World} {d : Option Tmp} {tt : TypeId} {pos : String} {af : Array Edge} {gd : Option (Nat × Bool)}
end
section
set_option linter.unusedVariables false
end
end Go.Proofs.YtmoghepeggohhaaDoor.K
section
namespace Go.Proofs.YtmoghepeggohhaaDoor.K
open Go.ChangeShapes Go.WideShapes Go.ChangeAt Go.RowKit Go.Sort
set_option linter.unusedVariables false
set_option linter.unusedSimpArgs false
variable {P : Program} {X : Cx} {M : Mm} {w w0 : World}
def nD (z : Int) : List D := [.v (.int .i64 z)]
theorem MemOk.dropN (m : MemOk X w0 M w) {i : Nat} {p : Option Addr} {l c : Nat} {k : IntKind} {zs : List Int} (hm : lk M i = some (.dat (.slice p l c) (.ns k zs))) (j : Nat) (hj : j ≤ zs.length) (i2 : Nat) (hi2 : lk M i2 = none) : MemOk X w0 ((i2, .dat (.slice (if c = j then p else p.map (·.add (j * 1))) (l - j) (c - j)) (.ns k (zs.drop j))) :: M) w :=
 m.dat i2 hi2 (.ns ((m.rd hm).ns_out.drop j hj))
end Go.Proofs.YtmoghepeggohhaaDoor.K
end
namespace Go.Proofs.YtmoghepeggohhaaDoor.K
open Go.ChangeShapes Go.WideShapes Go.ChangeAt Go.RowKit
set_option linter.unusedVariables false
set_option linter.unusedSimpArgs false
section
section
variable {P : Program} {n : Nat} {T : List (Nat × Value)} {a : Act} {w w0 : World} {X : Cx} {M : Mm} {tt : TypeId} {pos : String} {af : Array Edge} {gd : Option (Nat × Bool)} {Q : Exit → Act → World → Prop} {K : Act → World → Prop}
end
end
section
section
variable {P : Program} {ops : Array Oper} {Q : Exit → Act → World → Prop} {md : Region.Mode} {listed : Array Bool} {fuel e : Nat} {S : World → Prop} {a : Act} {w : World}
end
section
variable {P : Program} {n : Nat} {T : List (Nat × Value)} {a : Act} {w w0 : World} {X : Cx} {M : Mm} {tt : TypeId} {pos : String} {af : Array Edge} {gd : Option (Nat × Bool)} {Q : Exit → Act → World → Prop} {K : Act → World → Prop}
end
section
variable {w w0 : World} {X : Cx} {M : Mm}
theorem MemOk.callF2 (m : MemOk X w0 M w) (i j : Nat) {w' : World} {u v : Value} {d e : D} (hi : lk M i = none) (hj : lk ((i, .dat u d) :: M) j = none) (hb : Below w.heap.size w w') (h1 : Rd (New w) w' u d) (h2 : Rd (New w) w' v e) : MemOk X w0 ((j, .dat v e) :: (i, .dat u d) :: M) w' :=
 (m.callF i hi hb h1).dat j hj (h2.cast (fun b hb => free_add rfl (m.free_out (.inr hb))))
theorem MemOk.callF3 (m : MemOk X w0 M w) (i j k : Nat) {w' : World} {u v t : Value} {d e f : D} (hi : lk M i = none) (hj : lk ((i, .dat u d) :: M) j = none) (hk : lk ((j, .dat v e) :: (i, .dat u d) :: M) k = none) (hb : Below w.heap.size w w') (h1 : Rd (New w) w' u d) (h2 : Rd (New w) w' v e) (h3 : Rd (New w) w' t f) : MemOk X w0 ((k, .dat t f) :: (j, .dat v e) :: (i, .dat u d) :: M) w' :=
 (m.callF2 i j hi hj hb h1 h2).dat k hk (h3.cast (fun b hb => free_add rfl (free_add rfl (m.free_out (.inr hb)))))
end
end
section
theorem Q1x {p : Prop} [Decidable p] : (decide p = true) = p := decide_eq_true_eq
theorem Q2x {p : Prop} [Decidable p] : decide p = false ↔ ¬ p := decide_eq_false_iff_not
theorem Q3x (b : Bool) : (¬ (b = true)) = (b = false) := Bool.not_eq_true b
theorem Q4x (b : Bool) : (¬ (b = false)) = (b = true) := Bool.not_eq_false b
theorem Q5x {a b : Bool} : (!a) = b ↔ a = !b := Bool.not_eq_eq_eq_not
theorem Q6x : (!true) = false := rfl
theorem Q7x : (!false) = true := rfl
theorem Q8x (b : Bool) : (!!b) = b := Bool.not_not b
theorem Q9x {a b : Int} : ¬ a < b ↔ b ≤ a := Int.not_lt
theorem Q0x {a b : Int} : ¬ a ≤ b ↔ b < a := Int.not_le
theorem Qax {α : Sort _} (a b : α) : (a ≠ b) = ¬ (a = b) := ne_eq a b
theorem Qbx {p : Prop} [Decidable p] : ¬ ¬ p ↔ p := Decidable.not_not
theorem il {α : Type} {a : α} {p : Prop} : a = a ∨ p := .inl rfl
variable {P : Program} {n : Nat} {T : List (Nat × Value)} {a : Act} {w w0 : World} {X : Cx} {M : Mm} {tt : TypeId} {pos : String} {af : Array Edge} {ops : Array Oper} {Q : Exit → Act → World → Prop} {md : Region.Mode} {e fuel : Nat} {S : World → Prop} {listed : Array Bool}
end
section
inductive Ch (P : Program) (n : Nat) (ops : Array Oper) (w : World) : List Oper → List (Nat × Value) → List Oper → List (Nat × Value) → Prop
 | nil {L : List Oper} {T : List (Nat × Value)} : Ch P n ops w L T L T
 | c {d : Tmp} {op : Op} {v : Value} {L L' : List Oper} {T T' : List (Nat × Value)} {tt : TypeId} {pos : String} {af : Array Edge} (ht : Nat.blt d n = true) (hy : ∀ a, Has n T a → Yl P a w ⟨some d, op, tt, pos, af, none⟩ v) (t : Ch P n ops w L ((d, v) :: T) L' T') : Ch P n ops w (⟨some d, op, tt, pos, af, none⟩ :: L) T L' T'
 | g {d : Tmp} {op : Op} {v : Value} {L L' : List Oper} {T T' : List (Nat × Value)} {tt : TypeId} {pos : String} {af : Array Edge} {j t : Nat} {b : Bool} (hj : (ops[j]?).bind (·.dst) = some t) (hb : lk T t = some (.bool b)) (ht2 : Nat.blt t n = true) (ht : Nat.blt d n = true) (hy : ∀ a, Has n T a → Yl P a w ⟨some d, op, tt, pos, af, some (j, b)⟩ v) (tl : Ch P n ops w L ((d, v) :: T) L' T') : Ch P n ops w (⟨some d, op, tt, pos, af, some (j, b)⟩ :: L) T L' T'
 | s {d : Tmp} {op : Op} {L L' : List Oper} {T T' : List (Nat × Value)} {tt : TypeId} {pos : String} {af : Array Edge} {j t : Nat} {b : Bool} (hj : (ops[j]?).bind (·.dst) = some t) (hb : lk T t = some (.bool !b)) (ht2 : Nat.blt t n = true) (ht : Nat.blt d n = true) (tl : Ch P n ops w L ((d, undef) :: T) L' T') : Ch P n ops w (⟨some d, op, tt, pos, af, some (j, b)⟩ :: L) T L' T'
theorem goCh {P : Program} {n : Nat} {ops : Array Oper} {w : World} {Q : Exit → Act → World → Prop} {L L' : List Oper} {T T' : List (Nat × Value)} {a : Act} (ha : Has n T a) (hc : Ch P n ops w L T L' T') (h : ∀ a', Has n T' a' → wpList P ops Q L' a' w) : wpList P ops Q L a w := by
 induction hc generalizing a with
 | nil => exact h a ha
 | c ht hy t ih => exact st_y ha ht (hy a ha) (fun a' ha' => ih ha' h)
 | g hj hb ht2 ht hy t ih => exact st_g ha hj hb ht2 ht (hy a ha) (fun a' ha' => ih ha' h)
 | s hj hb ht2 ht t ih => exact st_skip ha hj hb ht2 ht (fun a' ha' => ih ha' h)
theorem regS {P : Program} {n id : Nat} {l : List Oper} {y : Code} {w : World} {Q : Exit → Act → World → Prop} {T T' : List (Nat × Value)} {a : Act} (ha : Has n T a) (hc : Ch P n l.toArray w l T [] T') (h : ∀ a', Has n T' a' → y.wp P Q a' w) : ((Code.region id l.toArray false).seq y).wp P Q a w :=
 wp_seq_k (fun K hK => wp_region_lit (goCh ha hc (fun a' ha' => wpList_nil (hK _ _ (h a' ha')))))
/-! short -/
section
variable {P : Program} {n : Nat} {ops : Array Oper} {L L' : List Oper} {T T' : List (Nat × Value)} {w w0 : World} {X : Cx} {M : Mm} {dd : Tmp} {tt : TypeId} {pos : String} {af : Array Edge} {x y z : Operand} {k : IntKind} {p q r : Int} {t t2 : TypeId}
theorem Ch.move {x : Operand} {v : Value} (hx : evT T x = some v) (tl : Ch P n ops w L ((dd, v) :: T) L' T') (ht : Nat.blt dd n = true := by rfl) : Ch P n ops w (⟨some dd, .move x, tt, pos, af, none⟩ :: L) T L' T' := .c ht (fun _ h => y_move h hx) tl
theorem Ch.moveZ {x : Operand} {v : Value} (hx : evT T x = some v) {j tg : Nat} {bb : Bool} (tl : Ch P n ops w L ((dd, v) :: T) L' T') (hj : (ops[j]?).bind (·.dst) = some tg := by rfl) (hb : lk T tg = some (.bool bb) := by rfl) (ht2 : Nat.blt tg n = true := by rfl) (ht : Nat.blt dd n = true := by rfl) : Ch P n ops w (⟨some dd, .move x, tt, pos, af, some (j, bb)⟩ :: L) T L' T' := .g hj hb ht2 ht (fun _ h => y_move h hx) tl
theorem Ch.assign {x : Operand} {v : Value} (hx : evT T x = some v) (tl : Ch P n ops w L ((dd, v) :: T) L' T') (ht : Nat.blt dd n = true := by rfl) : Ch P n ops w (⟨some dd, .assign x, tt, pos, af, none⟩ :: L) T L' T' := .c ht (fun _ h => y_assign h hx) tl
theorem Ch.pickT {c x y : Operand} {v : Value} (hc : evT T c = some (.bool true)) (hx : evT T x = some v) (tl : Ch P n ops w L ((dd, v) :: T) L' T') (ht : Nat.blt dd n = true := by rfl) : Ch P n ops w (⟨some dd, .pick c x y, tt, pos, af, none⟩ :: L) T L' T' := .c ht (fun _ h => y_pickT h hc hx) tl
theorem Ch.pickTZ {c x y : Operand} {v : Value} (hc : evT T c = some (.bool true)) (hx : evT T x = some v) {j tg : Nat} {bb : Bool} (tl : Ch P n ops w L ((dd, v) :: T) L' T') (hj : (ops[j]?).bind (·.dst) = some tg := by rfl) (hb : lk T tg = some (.bool bb) := by rfl) (ht2 : Nat.blt tg n = true := by rfl) (ht : Nat.blt dd n = true := by rfl) : Ch P n ops w (⟨some dd, .pick c x y, tt, pos, af, some (j, bb)⟩ :: L) T L' T' := .g hj hb ht2 ht (fun _ h => y_pickT h hc hx) tl
theorem Ch.pickF {c x y : Operand} {v : Value} (hc : evT T c = some (.bool false)) (hx : evT T y = some v) (tl : Ch P n ops w L ((dd, v) :: T) L' T') (ht : Nat.blt dd n = true := by rfl) : Ch P n ops w (⟨some dd, .pick c x y, tt, pos, af, none⟩ :: L) T L' T' := .c ht (fun _ h => y_pickF h hc hx) tl
theorem Ch.pickFZ {c x y : Operand} {v : Value} (hc : evT T c = some (.bool false)) (hx : evT T y = some v) {j tg : Nat} {bb : Bool} (tl : Ch P n ops w L ((dd, v) :: T) L' T') (hj : (ops[j]?).bind (·.dst) = some tg := by rfl) (hb : lk T tg = some (.bool bb) := by rfl) (ht2 : Nat.blt tg n = true := by rfl) (ht : Nat.blt dd n = true := by rfl) : Ch P n ops w (⟨some dd, .pick c x y, tt, pos, af, some (j, bb)⟩ :: L) T L' T' := .g hj hb ht2 ht (fun _ h => y_pickF h hc hx) tl
theorem Ch.not {t : TypeId} {x : Operand} {b : Bool} (hx : evT T x = some (.bool b)) (tl : Ch P n ops w L ((dd, (.bool !b)) :: T) L' T') (ht : Nat.blt dd n = true := by rfl) : Ch P n ops w (⟨some dd, .unOp .not t x, tt, pos, af, none⟩ :: L) T L' T' := .c ht (fun _ h => y_not h hx) tl
theorem Ch.notZ {t : TypeId} {x : Operand} {b : Bool} (hx : evT T x = some (.bool b)) {j tg : Nat} {bb : Bool} (tl : Ch P n ops w L ((dd, (.bool !b)) :: T) L' T') (hj : (ops[j]?).bind (·.dst) = some tg := by rfl) (hb : lk T tg = some (.bool bb) := by rfl) (ht2 : Nat.blt tg n = true := by rfl) (ht : Nat.blt dd n = true := by rfl) : Ch P n ops w (⟨some dd, .unOp .not t x, tt, pos, af, some (j, bb)⟩ :: L) T L' T' := .g hj hb ht2 ht (fun _ h => y_not h hx) tl
theorem Ch.len {t e : TypeId} {x : Operand} {p : Option Addr} {l c : Nat} (hx : evT T x = some (.slice p l c)) (hu : P.underlying t = some (.slice e)) (tl : Ch P n ops w L ((dd, (.int .i64 l)) :: T) L' T') (ht : Nat.blt dd n = true := by rfl) : Ch P n ops w (⟨some dd, .call { callee := .builtin .len, args := #[x], argTypes := #[t] }, tt, pos, af, none⟩ :: L) T L' T' := .c ht (fun _ h => y_len h hx hu) tl
theorem Ch.add (hx : evT T x = some (.int k p)) (hy : evT T y = some (.int k q)) (hr : k.wrap (p + q) = r) (tl : Ch P n ops w L ((dd, (.int k r)) :: T) L' T') (ht : Nat.blt dd n = true := by rfl) : Ch P n ops w (⟨some dd, .binOp .add t x y t2, tt, pos, af, none⟩ :: L) T L' T' := .c ht (fun _ h => y_add h hx hy hr) tl
theorem Ch.sub (hx : evT T x = some (.int k p)) (hy : evT T y = some (.int k q)) (hr : k.wrap (p - q) = r) (tl : Ch P n ops w L ((dd, (.int k r)) :: T) L' T') (ht : Nat.blt dd n = true := by rfl) : Ch P n ops w (⟨some dd, .binOp .sub t x y t2, tt, pos, af, none⟩ :: L) T L' T' := .c ht (fun _ h => y_sub h hx hy hr) tl
theorem Ch.mul (hx : evT T x = some (.int k p)) (hy : evT T y = some (.int k q)) (hr : k.wrap (p * q) = r) (tl : Ch P n ops w L ((dd, (.int k r)) :: T) L' T') (ht : Nat.blt dd n = true := by rfl) : Ch P n ops w (⟨some dd, .binOp .mul t x y t2, tt, pos, af, none⟩ :: L) T L' T' := .c ht (fun _ h => y_mul h hx hy hr) tl
theorem Ch.quo (hx : evT T x = some (.int k p)) (hy : evT T y = some (.int k q)) (h0 : q ≠ 0) (hr : k.wrap (p.tdiv q) = r) (tl : Ch P n ops w L ((dd, (.int k r)) :: T) L' T') (ht : Nat.blt dd n = true := by rfl) : Ch P n ops w (⟨some dd, .binOp .quo t x y t2, tt, pos, af, none⟩ :: L) T L' T' := .c ht (fun _ h => y_quo h hx hy h0 hr) tl
theorem Ch.rem (hx : evT T x = some (.int k p)) (hy : evT T y = some (.int k q)) (h0 : q ≠ 0) (hr : p.tmod q = r) (tl : Ch P n ops w L ((dd, (.int k r)) :: T) L' T') (ht : Nat.blt dd n = true := by rfl) : Ch P n ops w (⟨some dd, .binOp .rem t x y t2, tt, pos, af, none⟩ :: L) T L' T' := .c ht (fun _ h => y_rem h hx hy h0 hr) tl
theorem Ch.and (hx : evT T x = some (.int k p)) (hy : evT T y = some (.int k q)) (hr : k.wrap (BitVec.ofInt k.bits p &&& BitVec.ofInt k.bits q).toNat = r) (tl : Ch P n ops w L ((dd, (.int k r)) :: T) L' T') (ht : Nat.blt dd n = true := by rfl) : Ch P n ops w (⟨some dd, .binOp .and t x y t2, tt, pos, af, none⟩ :: L) T L' T' := .c ht (fun _ h => y_and h hx hy hr) tl
theorem Ch.or (hx : evT T x = some (.int k p)) (hy : evT T y = some (.int k q)) (hr : k.wrap (BitVec.ofInt k.bits p ||| BitVec.ofInt k.bits q).toNat = r) (tl : Ch P n ops w L ((dd, (.int k r)) :: T) L' T') (ht : Nat.blt dd n = true := by rfl) : Ch P n ops w (⟨some dd, .binOp .or t x y t2, tt, pos, af, none⟩ :: L) T L' T' := .c ht (fun _ h => y_or h hx hy hr) tl
theorem Ch.xor (hx : evT T x = some (.int k p)) (hy : evT T y = some (.int k q)) (hr : k.wrap (BitVec.ofInt k.bits p ^^^ BitVec.ofInt k.bits q).toNat = r) (tl : Ch P n ops w L ((dd, (.int k r)) :: T) L' T') (ht : Nat.blt dd n = true := by rfl) : Ch P n ops w (⟨some dd, .binOp .xor t x y t2, tt, pos, af, none⟩ :: L) T L' T' := .c ht (fun _ h => y_xor h hx hy hr) tl
theorem Ch.shl {yk : IntKind} (hx : evT T x = some (.int k p)) (hy : evT T y = some (.int yk q)) (h0 : 0 ≤ q) (hr : k.wrap (p * 2 ^ min q.toNat k.bits) = r) (tl : Ch P n ops w L ((dd, (.int k r)) :: T) L' T') (ht : Nat.blt dd n = true := by rfl) : Ch P n ops w (⟨some dd, .binOp .shl t x y t2, tt, pos, af, none⟩ :: L) T L' T' := .c ht (fun _ h => y_shl h hx hy h0 hr) tl
theorem Ch.lss (hx : evT T x = some (.int k p)) (hy : evT T y = some (.int k q)) (tl : Ch P n ops w L ((dd, (.bool (decide (p < q)))) :: T) L' T') (ht : Nat.blt dd n = true := by rfl) : Ch P n ops w (⟨some dd, .binOp .lss t x y t2, tt, pos, af, none⟩ :: L) T L' T' := .c ht (fun _ h => y_lss h hx hy) tl
theorem Ch.lssZ (hx : evT T x = some (.int k p)) (hy : evT T y = some (.int k q)) {j tg : Nat} {bb : Bool} (tl : Ch P n ops w L ((dd, (.bool (decide (p < q)))) :: T) L' T') (hj : (ops[j]?).bind (·.dst) = some tg := by rfl) (hb : lk T tg = some (.bool bb) := by rfl) (ht2 : Nat.blt tg n = true := by rfl) (ht : Nat.blt dd n = true := by rfl) : Ch P n ops w (⟨some dd, .binOp .lss t x y t2, tt, pos, af, some (j, bb)⟩ :: L) T L' T' := .g hj hb ht2 ht (fun _ h => y_lss h hx hy) tl
theorem Ch.leq (hx : evT T x = some (.int k p)) (hy : evT T y = some (.int k q)) (tl : Ch P n ops w L ((dd, (.bool (decide (p ≤ q)))) :: T) L' T') (ht : Nat.blt dd n = true := by rfl) : Ch P n ops w (⟨some dd, .binOp .leq t x y t2, tt, pos, af, none⟩ :: L) T L' T' := .c ht (fun _ h => y_leq h hx hy) tl
theorem Ch.gtr (hx : evT T x = some (.int k p)) (hy : evT T y = some (.int k q)) (tl : Ch P n ops w L ((dd, (.bool (decide (q < p)))) :: T) L' T') (ht : Nat.blt dd n = true := by rfl) : Ch P n ops w (⟨some dd, .binOp .gtr t x y t2, tt, pos, af, none⟩ :: L) T L' T' := .c ht (fun _ h => y_gtr h hx hy) tl
theorem Ch.gtrZ (hx : evT T x = some (.int k p)) (hy : evT T y = some (.int k q)) {j tg : Nat} {bb : Bool} (tl : Ch P n ops w L ((dd, (.bool (decide (q < p)))) :: T) L' T') (hj : (ops[j]?).bind (·.dst) = some tg := by rfl) (hb : lk T tg = some (.bool bb) := by rfl) (ht2 : Nat.blt tg n = true := by rfl) (ht : Nat.blt dd n = true := by rfl) : Ch P n ops w (⟨some dd, .binOp .gtr t x y t2, tt, pos, af, some (j, bb)⟩ :: L) T L' T' := .g hj hb ht2 ht (fun _ h => y_gtr h hx hy) tl
theorem Ch.geq (hx : evT T x = some (.int k p)) (hy : evT T y = some (.int k q)) (tl : Ch P n ops w L ((dd, (.bool (decide (q ≤ p)))) :: T) L' T') (ht : Nat.blt dd n = true := by rfl) : Ch P n ops w (⟨some dd, .binOp .geq t x y t2, tt, pos, af, none⟩ :: L) T L' T' := .c ht (fun _ h => y_geq h hx hy) tl
theorem Ch.eql (hx : evT T x = some (.int k p)) (hy : evT T y = some (.int k q)) (tl : Ch P n ops w L ((dd, (.bool (decide (p = q)))) :: T) L' T') (ht : Nat.blt dd n = true := by rfl) : Ch P n ops w (⟨some dd, .binOp .eql t x y t2, tt, pos, af, none⟩ :: L) T L' T' := .c ht (fun _ h => y_eql h hx hy) tl
theorem Ch.eqlZ (hx : evT T x = some (.int k p)) (hy : evT T y = some (.int k q)) {j tg : Nat} {bb : Bool} (tl : Ch P n ops w L ((dd, (.bool (decide (p = q)))) :: T) L' T') (hj : (ops[j]?).bind (·.dst) = some tg := by rfl) (hb : lk T tg = some (.bool bb) := by rfl) (ht2 : Nat.blt tg n = true := by rfl) (ht : Nat.blt dd n = true := by rfl) : Ch P n ops w (⟨some dd, .binOp .eql t x y t2, tt, pos, af, some (j, bb)⟩ :: L) T L' T' := .g hj hb ht2 ht (fun _ h => y_eql h hx hy) tl
theorem Ch.neq (hx : evT T x = some (.int k p)) (hy : evT T y = some (.int k q)) (tl : Ch P n ops w L ((dd, (.bool (decide (p ≠ q)))) :: T) L' T') (ht : Nat.blt dd n = true := by rfl) : Ch P n ops w (⟨some dd, .binOp .neq t x y t2, tt, pos, af, none⟩ :: L) T L' T' := .c ht (fun _ h => y_neq h hx hy) tl
theorem Ch.neqZ (hx : evT T x = some (.int k p)) (hy : evT T y = some (.int k q)) {j tg : Nat} {bb : Bool} (tl : Ch P n ops w L ((dd, (.bool (decide (p ≠ q)))) :: T) L' T') (hj : (ops[j]?).bind (·.dst) = some tg := by rfl) (hb : lk T tg = some (.bool bb) := by rfl) (ht2 : Nat.blt tg n = true := by rfl) (ht : Nat.blt dd n = true := by rfl) : Ch P n ops w (⟨some dd, .binOp .neq t x y t2, tt, pos, af, some (j, bb)⟩ :: L) T L' T' := .g hj hb ht2 ht (fun _ h => y_neq h hx hy) tl
theorem Ch.eqlP {e : TypeId} {b : Option Addr} (hx : evT T x = some (.pointer b)) (hy : evT T y = some (.pointer none)) (hu : P.underlying t = some (.pointer e)) (tl : Ch P n ops w L ((dd, (.bool b.isNone)) :: T) L' T') (ht : Nat.blt dd n = true := by rfl) : Ch P n ops w (⟨some dd, .binOp .eql t x y t2, tt, pos, af, none⟩ :: L) T L' T' := .c ht (fun _ h => y_eqlP h hx hy hu) tl
theorem Ch.conv {s e : TypeId} {k' : IntKind} {ds : TypeDesc} (hx : evT T x = some (.int k p)) (hs : P.underlying s = some ds) (hd : P.underlying e = some (.int k')) (hr : k'.wrap p = r) (tl : Ch P n ops w L ((dd, (.int k' r)) :: T) L' T') (ht : Nat.blt dd n = true := by rfl) : Ch P n ops w (⟨some dd, .convert s e x, tt, pos, af, none⟩ :: L) T L' T' := .c ht (fun _ h => y_conv h hx hs hd hr) tl
theorem Ch.extract {x : Operand} {vs : Array Value} {i : Nat} {v : Value} (hx : evT T x = some (.tuple vs)) (hv : nthL vs.toList i = some v) (tl : Ch P n ops w L ((dd, v) :: T) L' T') (ht : Nat.blt dd n = true := by rfl) : Ch P n ops w (⟨some dd, .extract x i, tt, pos, af, none⟩ :: L) T L' T' := .c ht (fun _ h => y_extract h hx hv) tl
theorem Ch.nilCheck {x : Operand} {p : Addr} (hx : evT T x = some (.pointer (some p))) (tl : Ch P n ops w L ((dd, (.pointer (some p))) :: T) L' T') (ht : Nat.blt dd n = true := by rfl) : Ch P n ops w (⟨some dd, .nilCheck x, tt, pos, af, none⟩ :: L) T L' T' := .c ht (fun _ h => y_nilCheck h hx) tl
theorem Ch.fieldAddr {t : TypeId} {x : Operand} {i g o : Nat} {fs : Array Field} {f : Field} {s off : Nat} (hx : evT T x = some (.pointer (some ⟨g, o, none⟩))) (hu : P.underlying t = some (.struct fs)) (hf : fs[i]? = some f) (hs : (P.info? f.type).map (·.size) = some (s + 1)) (ho : o + f.offset = off) (tl : Ch P n ops w L ((dd, (.pointer (some ⟨g, off, none⟩))) :: T) L' T') (ht : Nat.blt dd n = true := by rfl) : Ch P n ops w (⟨some dd, .fieldAddr t x i, tt, pos, af, none⟩ :: L) T L' T' := .c ht (fun _ h => y_fieldAddr h hx hu hf hs ho) tl
theorem Ch.fieldAddrZ {t : TypeId} {x : Operand} {i g o : Nat} {fs : Array Field} {f : Field} {s off : Nat} (hx : evT T x = some (.pointer (some ⟨g, o, none⟩))) (hu : P.underlying t = some (.struct fs)) (hf : fs[i]? = some f) (hs : (P.info? f.type).map (·.size) = some (s + 1)) (ho : o + f.offset = off) {j tg : Nat} {bb : Bool} (tl : Ch P n ops w L ((dd, (.pointer (some ⟨g, off, none⟩))) :: T) L' T') (hj : (ops[j]?).bind (·.dst) = some tg := by rfl) (hb : lk T tg = some (.bool bb) := by rfl) (ht2 : Nat.blt tg n = true := by rfl) (ht : Nat.blt dd n = true := by rfl) : Ch P n ops w (⟨some dd, .fieldAddr t x i, tt, pos, af, some (j, bb)⟩ :: L) T L' T' := .g hj hb ht2 ht (fun _ h => y_fieldAddr h hx hu hf hs ho) tl
theorem Ch.build {t : TypeId} {parts : Array (Nat × Operand)} {z cs : List Value} {pl : List (Nat × Value)} (hp : K.evP T parts.toList = some pl) (hz : ((P.info? t).bind (·.zero)).map (·.cells.toList) = some z) (hf : flatS P t z = true) (h1 : pl.all (fun p => decide (p.1 < z.length) && p.2.oneCell') = true) (hc : setL z pl = cs) (tl : Ch P n ops w L ((dd, (.agg cs.toArray)) :: T) L' T') (ht : Nat.blt dd n = true := by rfl) : Ch P n ops w (⟨some dd, .build t parts, tt, pos, af, none⟩ :: L) T L' T' := .c ht (fun _ h => y_build h hp hz hf h1 hc) tl
theorem Ch.loadB1 (m : MemOk X w0 M w) {t : TypeId} {td : TypeDesc} {x : Operand} {i g o : Nat} {e : TypeId} {cs : List Value} {v : Value} (hm : lk M i = some (.box g e cs)) (hx : evT T x = some (.pointer (some ⟨g, o, none⟩))) (hv : cs[o]? = some v) (hu : P.underlying t = some td) (hr : td.isRow = false) (tl : Ch P n ops w L ((dd, v) :: T) L' T') (ht : Nat.blt dd n = true := by rfl) : Ch P n ops w (⟨some dd, .load t x, tt, pos, af, none⟩ :: L) T L' T' := .c ht (fun _ h => y_loadB1 h m hm hx hv hu hr) tl
theorem Ch.loadB1Z (m : MemOk X w0 M w) {t : TypeId} {td : TypeDesc} {x : Operand} {i g o : Nat} {e : TypeId} {cs : List Value} {v : Value} (hm : lk M i = some (.box g e cs)) (hx : evT T x = some (.pointer (some ⟨g, o, none⟩))) (hv : cs[o]? = some v) (hu : P.underlying t = some td) (hr : td.isRow = false) {j tg : Nat} {bb : Bool} (tl : Ch P n ops w L ((dd, v) :: T) L' T') (hj : (ops[j]?).bind (·.dst) = some tg := by rfl) (hb : lk T tg = some (.bool bb) := by rfl) (ht2 : Nat.blt tg n = true := by rfl) (ht : Nat.blt dd n = true := by rfl) : Ch P n ops w (⟨some dd, .load t x, tt, pos, af, some (j, bb)⟩ :: L) T L' T' := .g hj hb ht2 ht (fun _ h => y_loadB1 h m hm hx hv hu hr) tl
theorem Ch.loadBR (m : MemOk X w0 M w) {t : TypeId} {td : TypeDesc} {x : Operand} {i g o k : Nat} {e : TypeId} {cs vs : List Value} (hm : lk M i = some (.box g e cs)) (hx : evT T x = some (.pointer (some ⟨g, o, none⟩))) (hu : P.underlying t = some td) (hr : td.isRow = true) (hs : (P.info? t).map (·.size) = some k) (hk : o + k ≤ cs.length) (hv : (cs.drop o).take k = vs) (tl : Ch P n ops w L ((dd, (.agg vs.toArray)) :: T) L' T') (ht : Nat.blt dd n = true := by rfl) : Ch P n ops w (⟨some dd, .load t x, tt, pos, af, none⟩ :: L) T L' T' := .c ht (fun _ h => y_loadBR h m hm hx hu hr hs hk hv) tl
theorem Ch.loadBRZ (m : MemOk X w0 M w) {t : TypeId} {td : TypeDesc} {x : Operand} {i g o k : Nat} {e : TypeId} {cs vs : List Value} (hm : lk M i = some (.box g e cs)) (hx : evT T x = some (.pointer (some ⟨g, o, none⟩))) (hu : P.underlying t = some td) (hr : td.isRow = true) (hs : (P.info? t).map (·.size) = some k) (hk : o + k ≤ cs.length) (hv : (cs.drop o).take k = vs) {j tg : Nat} {bb : Bool} (tl : Ch P n ops w L ((dd, (.agg vs.toArray)) :: T) L' T') (hj : (ops[j]?).bind (·.dst) = some tg := by rfl) (hb : lk T tg = some (.bool bb) := by rfl) (ht2 : Nat.blt tg n = true := by rfl) (ht : Nat.blt dd n = true := by rfl) : Ch P n ops w (⟨some dd, .load t x, tt, pos, af, some (j, bb)⟩ :: L) T L' T' := .g hj hb ht2 ht (fun _ h => y_loadBR h m hm hx hu hr hs hk hv) tl
theorem Ch.loadC0 (m : MemOk X w0 M w) {t : TypeId} {td : TypeDesc} {x : Operand} {i b o : Nat} {vs : List Value} {v : Value} (hm : lk M i = some (.cel b o (v :: vs))) (hx : evT T x = some (.pointer (some ⟨b, o, none⟩))) (hu : P.underlying t = some td) (hr : td.isRow = false) (tl : Ch P n ops w L ((dd, v) :: T) L' T') (ht : Nat.blt dd n = true := by rfl) : Ch P n ops w (⟨some dd, .load t x, tt, pos, af, none⟩ :: L) T L' T' := .c ht (fun _ h => y_loadC0 h m hm hx hu hr) tl
theorem Ch.str {s t e : TypeId} {x : Operand} {v : Value} {bs : List Int} (hx : evT T x = some v) (hv : IsNums .u8 w v bs) (hs : P.underlying s = some (.slice e)) (he : P.underlying e = some (.int .u8)) (hd : P.underlying t = some .string) (tl : Ch P n ops w L ((dd, (.string (strOfNums bs))) :: T) L' T') (ht : Nat.blt dd n = true := by rfl) : Ch P n ops w (⟨some dd, .convert s t x, tt, pos, af, none⟩ :: L) T L' T' := .c ht (fun _ h => y_str h hx hv hs he hd) tl
theorem Ch.loadAt {t : TypeId} {td : TypeDesc} {x : Operand} {b o : Nat} {vs : List Value} (hr : w.rangeAt b o vs) (hx : evT T x = some (.pointer (some ⟨b, o, none⟩))) (hu : P.underlying t = some td) (hd : td.isRow = true) (hs : (P.info? t).map (·.size) = some vs.length) (tl : Ch P n ops w L ((dd, (.agg vs.toArray)) :: T) L' T') (ht : Nat.blt dd n = true := by rfl) : Ch P n ops w (⟨some dd, .load t x, tt, pos, af, none⟩ :: L) T L' T' := .c ht (fun _ h => y_loadAt h hr hx hu hd hs) tl
theorem Ch.loadAt1 {t : TypeId} {td : TypeDesc} {x : Operand} {b o q q' : Nat} {vs : List Value} {v : Value} (hr : w.rangeAt b o vs) (hx : evT T x = some (.pointer (some ⟨b, q', none⟩))) (hq : q' = o + q) (hv : nthL vs q = some v) (hu : P.underlying t = some td) (hd : td.isRow = false) (tl : Ch P n ops w L ((dd, v) :: T) L' T') (ht : Nat.blt dd n = true := by rfl) : Ch P n ops w (⟨some dd, .load t x, tt, pos, af, none⟩ :: L) T L' T' := .c ht (fun _ h => y_loadAt1 h hr hx hq hv hu hd) tl
theorem Ch.cap {t e : TypeId} {x : Operand} {p : Option Addr} {l c : Nat} (hx : evT T x = some (.slice p l c)) (hu : P.underlying t = some (.slice e)) (tl : Ch P n ops w L ((dd, (.int .i64 c)) :: T) L' T') (ht : Nat.blt dd n = true := by rfl) : Ch P n ops w (⟨some dd, .call { callee := .builtin .cap, args := #[x], argTypes := #[t] }, tt, pos, af, none⟩ :: L) T L' T' := .c ht (fun _ h => y_cap h hx hu) tl
theorem Ch.buildG {t : TypeId} {parts : Array (Nat × Operand)} {z cs : List Value} {pl : List (Nat × Value)} {ps : List (Nat × Nat)} (hp : K.evP T parts.toList = some pl) (hz : ((P.info? t).bind (·.zero)).map (·.cells.toList) = some z) (hps : placesS P t = some ps) (hc : putL z ps pl = some cs) (tl : Ch P n ops w L ((dd, (.agg cs.toArray)) :: T) L' T') (ht : Nat.blt dd n = true := by rfl) : Ch P n ops w (⟨some dd, .build t parts, tt, pos, af, none⟩ :: L) T L' T' := .c ht (fun _ h => y_buildG h hp hz hps hc) tl
theorem Ch.buildGZ {t : TypeId} {parts : Array (Nat × Operand)} {z cs : List Value} {pl : List (Nat × Value)} {ps : List (Nat × Nat)} (hp : K.evP T parts.toList = some pl) (hz : ((P.info? t).bind (·.zero)).map (·.cells.toList) = some z) (hps : placesS P t = some ps) (hc : putL z ps pl = some cs) {j tg : Nat} {bb : Bool} (tl : Ch P n ops w L ((dd, (.agg cs.toArray)) :: T) L' T') (hj : (ops[j]?).bind (·.dst) = some tg := by rfl) (hb : lk T tg = some (.bool bb) := by rfl) (ht2 : Nat.blt tg n = true := by rfl) (ht : Nat.blt dd n = true := by rfl) : Ch P n ops w (⟨some dd, .build t parts, tt, pos, af, some (j, bb)⟩ :: L) T L' T' := .g hj hb ht2 ht (fun _ h => y_buildG h hp hz hps hc) tl
theorem Ch.makeFunc {f : FuncId} {caps : Array Operand} {vs : List Value} (hargs : evA T caps.toList = some vs) (tl : Ch P n ops w L ((dd, (.func (.func f) #[] vs.toArray)) :: T) L' T') (ht : Nat.blt dd n = true := by rfl) : Ch P n ops w (⟨some dd, .makeFunc (.func f) #[] caps, tt, pos, af, none⟩ :: L) T L' T' := .c ht (fun _ h => y_makeFunc h hargs) tl
theorem Ch.sk {op : Op} {j tg : Nat} {bb : Bool} (tl : Ch P n ops w L ((dd, undef) :: T) L' T') (hj : (ops[j]?).bind (·.dst) = some tg := by rfl) (hb : lk T tg = some (.bool !bb) := by rfl) (ht2 : Nat.blt tg n = true := by rfl) (ht : Nat.blt dd n = true := by rfl) : Ch P n ops w (⟨some dd, op, tt, pos, af, some (j, bb)⟩ :: L) T L' T' := .s hj hb ht2 ht tl
end
end
section
def gdB (ops : Array Oper) (n : Nat) (T : List (Nat × Value)) : Option (Nat × Bool) → Bool
 | none => true
 | some (j, b) => match (ops[j]?).bind (·.dst) with
   | some t => Nat.blt t n && match lk T t with
     | some (.bool x) => x == b
     | _ => false
   | none => false
theorem gd_wanted {ops : Array Oper} {n : Nat} {T : List (Nat × Value)} {a : Act} (ha : Has n T a) {o : Oper} (h : gdB ops n T o.guard = true) : Region.wanted o (Go.yielded ops a.tmps) = true := by
 unfold gdB at h
 split at h
 · next e => simp [Region.wanted, e]
 · next j b e =>
   split at h
   · next t hj =>
     rw [Bool.and_eq_true] at h
     split at h
     · next x hb =>
       obtain rfl : x = b := by simpa using h.2
       simp [Region.wanted, e, ha.yielded hj hb h.1]
     · cases h.2
   · cases h
inductive Cd (P : Program) (n : Nat) (ops : Array Oper) (S : World → Prop) : List (Oper × Bool) → List (Nat × Value) → List (Nat × Value) → Prop
 | nil {T : List (Nat × Value)} : Cd P n ops S [] T T
 | c {d : Tmp} {op : Op} {v : Value} {L : List (Oper × Bool)} {T T' : List (Nat × Value)} {tt : TypeId} {pos : String} {af : Array Edge} {gd : Option (Nat × Bool)} (hy : ∀ W, S W → ∀ a, Has n T a → Yl P a W ⟨some d, op, tt, pos, af, gd⟩ v) (tl : Cd P n ops S L ((d, v) :: T) T') (hg : gdB ops n T gd = true := by rfl) (ht : Nat.blt d n = true := by rfl) : Cd P n ops S ((⟨some d, op, tt, pos, af, gd⟩, true) :: L) T T'
 | p {d : Tmp} {op : Op} {v : Value} {L : List (Oper × Bool)} {T T' : List (Nat × Value)} {tt : TypeId} {pos : String} {af : Array Edge} {gd : Option (Nat × Bool)} (hy : ∀ W, ∀ a, Has n T a → Yl P a W ⟨some d, op, tt, pos, af, gd⟩ v) (tl : Cd P n ops S L ((d, v) :: T) T') (hg : gdB ops n T gd = true := by rfl) (ht : Nat.blt d n = true := by rfl) : Cd P n ops S ((⟨some d, op, tt, pos, af, gd⟩, false) :: L) T T'
 | s {d : Tmp} {op : Op} {L : List (Oper × Bool)} {T T' : List (Nat × Value)} {tt : TypeId} {pos : String} {af : Array Edge} {j t : Nat} {b : Bool} (tl : Cd P n ops S L ((d, undef) :: T) T') (hj : (ops[j]?).bind (·.dst) = some t := by rfl) (hb : lk T t = some (.bool !b) := by rfl) (ht2 : Nat.blt t n = true := by rfl) (ht : Nat.blt d n = true := by rfl) : Cd P n ops S ((⟨some d, op, tt, pos, af, some (j, b)⟩, false) :: L) T T'
 | u {d : Tmp} {op : Op} {L : List (Oper × Bool)} {T T' : List (Nat × Value)} {tt : TypeId} {pos : String} {af : Array Edge} {j t : Nat} {b : Bool} (tl : Cd P n ops S L ((d, undef) :: T) T') (hj : (ops[j]?).bind (·.dst) = some t := by rfl) (hb : lk T t = some undef := by rfl) (ht2 : Nat.blt t n = true := by rfl) (ht : Nat.blt d n = true := by rfl) : Cd P n ops S ((⟨some d, op, tt, pos, af, some (j, b)⟩, false) :: L) T T'
def opsAt (ops : Array Oper) (rs : List Nat) : List Nat → List (Oper × Bool)
 | [] => []
 | i :: is => match ops[i]? with
   | some o => (o, rs.contains i) :: opsAt ops rs is
   | none => opsAt ops rs is
def lst (s m : Nat) : Array Bool := ((List.range s).map fun i => m.testBit i).toArray
theorem lst_size (s m : Nat) : (lst s m).size = s := by simp [lst]
theorem lst_getD (s m i : Nat) (d : Bool) : (lst s m).getD i d = if i < s then m.testBit i else d := by
 unfold Array.getD
 by_cases h : i < s
 · rw [dif_pos (show i < (lst s m).size by rw [lst_size]; exact h), if_pos h]; simp [lst]
 · rw [dif_neg (show ¬ i < (lst s m).size by rw [lst_size]; exact h), if_neg h]
theorem lst_set (s m i : Nat) : (lst s m).setIfInBounds i true = lst s (m ||| (1 <<< i)) := by
 apply Array.ext
 · simp [lst_size]
 · intro k h1 h2
   rw [Array.getElem_setIfInBounds (by rw [lst_size]; simpa [lst_size] using h1)]
   have hk : k < s := by rw [lst_size] at h2; exact h2
   by_cases hik : i = k
   · subst hik; simp [lst, Nat.testBit_or, Nat.one_shiftLeft, Nat.testBit_two_pow_self]
   · rw [if_neg hik]; simp [lst, Nat.testBit_or, Nat.one_shiftLeft, Nat.testBit_two_pow_of_ne hik]
def pairB (md : Region.Mode) (ops : Array Oper) : Bool := (List.range ops.size).all fun i => match ops[i]? with
 | none => true
 | some oi => (List.range ops.size).all fun j => j == i || match ops[j]? with
   | none => true
   | some oj => oj.after.any (fun e => Region.binds md e && e.on == i) || oi.after.any (fun e => Region.binds md e && e.on == j) || oi.apart ops oj
def rdM (md : Region.Mode) (ops : Array Oper) (e : Nat) (rs : List Nat) : Nat → List Nat → Bool
 | _, [] => true
 | m, i :: is => (match ops[i]? with
   | none => false
   | some o => !(m.testBit i) && o.after.all fun ed => !Region.binds md ed || (m.testBit ed.on && Nat.blt ed.on ops.size)) && Nat.blt i ops.size && decide (i ≠ e) && (!(rs.contains i) || (decide (ops.size ≤ e) || waits md ops e i)) && rdM md ops e rs (m ||| (1 <<< i)) is
def bitsM : Nat → List Nat → Nat
 | m, [] => m
 | m, i :: is => bitsM (m ||| (1 <<< i)) is
theorem rd_ready {md : Region.Mode} {ops : Array Oper} {m i : Nat} {o : Oper} (ho : ops[i]? = some o) (hn : m.testBit i = false) (ha : ∀ ed ∈ o.after, Region.binds md ed = true → m.testBit ed.on = true ∧ ed.on < ops.size) : i ∈ Region.ready md ops (lst ops.size m) := by
 have hi' : i < ops.size := (Array.getElem?_eq_some_iff.1 ho).1
 refine mem_ready.2 ⟨by rw [lst_getD, if_pos hi', hn], o, ho, fun ed hed hb => ?_⟩
 rw [lst_getD, if_pos (ha ed hed hb).2, (ha ed hed hb).1]
theorem pair_free {md : Region.Mode} {ops : Array Oper} {m i : Nat} {o : Oper} (hp : pairB md ops = true) (ho : ops[i]? = some o) (ha : ∀ ed ∈ o.after, Region.binds md ed = true → m.testBit ed.on = true ∧ ed.on < ops.size) : Region.free md ops (lst ops.size m) i = true := by
 simp only [pairB, List.all_eq_true, List.mem_range] at hp
 have hi := hp i (Array.getElem?_eq_some_iff.1 ho).1
 simp only [ho, List.all_eq_true, List.mem_range] at hi
 simp only [Region.free, ho, List.all_eq_true, List.mem_range]
 intro j hj
 have hij := hi j hj
 rw [lst_getD, if_pos hj]
 rw [Bool.or_eq_true] at hij
 rcases hij with h1 | h1
 · rw [h1]; simp
 · cases hoj : ops[j]? with
   | none => simp
   | some oj =>
     simp only [hoj, Bool.or_eq_true] at h1
     rcases h1 with (h3 | h3) | h3
     · simp [h3]
     · obtain ⟨ed, hed, h4⟩ := Array.any_eq_true'.1 h3
       rw [Bool.and_eq_true, beq_iff_eq] at h4
       have h5 := ha ed hed h4.1
       rw [h4.2] at h5
       simp [h5.1]
     · simp [h3]
theorem rd_after {md : Region.Mode} {ops : Array Oper} {m : Nat} {o : Oper} (h : (o.after.all fun ed => !Region.binds md ed || (m.testBit ed.on && Nat.blt ed.on ops.size)) = true) : ∀ ed ∈ o.after, Region.binds md ed = true → m.testBit ed.on = true ∧ ed.on < ops.size := fun ed hed hb => by
 have h5 := Array.all_eq_true_iff_forall_mem.1 h ed hed
 rw [hb] at h5
 simpa [Nat.blt_eq] using h5
section
variable {P : Program} {n : Nat} {ops : Array Oper} {Q : Exit → Act → World → Prop} {md : Region.Mode} {e fuel : Nat} {S S' : World → Prop}
theorem closedB_of {L : Array Bool} (h : Closed md ops L) : closedB md ops L = true := by
 unfold closedB
 rw [Bool.and_eq_true, decide_eq_true_eq, List.all_eq_true]
 refine ⟨h.1, fun j _ => ?_⟩
 cases hl : L.getD j false with
 | false => rfl
 | true =>
   cases ho : ops[j]? with
   | none => rfl
   | some oj =>
     simp only [Bool.not_true, Bool.false_or]
     rw [Array.all_eq_true_iff_forall_mem]
     intro ed hed
     cases hb : Region.binds md ed with
     | false => rfl
     | true => simpa using h.2 j oj ho hl ed hed hb
theorem hh : ∀ W, S W → S W := fun _ h => h
theorem stepsR (rs : List Nat) (hp : pairB md ops = true) (hs : Region.noSelect ops = true) (hQ : ∀ c a d v w, Q (.panic c) (a.put (some d) v) w → Q (.panic c) a w) : ∀ (is : List Nat) {k m : Nat} {T T' : List (Nat × Value)} {a : Act} {w : World}, is.length = k → Has n T a → (S w ∨ (Nat.testBit m e = true ∧ e < ops.size ∧ rs = [])) → (rs = [] ∨ closedB md ops (lst ops.size m) = true) → Cd P n ops S (opsAt ops rs is) T T' → rdM md ops e rs m is = true → (∀ a', Has n T' a' → wpAnyE P md ops Q e S fuel (lst ops.size (bitsM m is)) a' w) → wpAnyE P md ops Q e S (fuel + k) (lst ops.size m) a w
 | [], k, m, T, T', a, w, hk, ha, hS, hcl, hc, _, h => by
   subst hk
   cases hc
   exact h a ha
 | i :: is, k, m, T, T', a, w, hk, ha, hS, hcl, hc, hr, h => by
   subst hk
   simp only [rdM, Bool.and_eq_true] at hr
   obtain ⟨⟨⟨⟨h1, h2⟩, h4⟩, h6⟩, h7⟩ := hr
   cases ho : ops[i]? with
   | none => rw [ho] at h1; cases h1
   | some o =>
     rw [ho] at h1
     simp only [Bool.and_eq_true, Bool.not_eq_true'] at h1
     have haf := rd_after h1.2
     have hop : opsAt ops rs (i :: is) = (o, rs.contains i) :: opsAt ops rs is := by simp only [opsAt, ho]
     rw [hop] at hc
     have h4' : i ≠ e := of_decide_eq_true h4
     have hrd := rd_ready ho h1.1 haf
     have hrb : (Region.ready md ops (lst ops.size m)).contains i = true := List.contains_iff_mem.2 hrd
     have hf := pair_free hp ho haf
     have hS1 : (lst ops.size m).getD e false = false → S w := fun h => hS.elim (fun h => h) (fun h9 => by rw [lst_getD, if_pos h9.2.1, h9.1] at h; cases h)
     have hS2 : S w ∨ (Nat.testBit (m ||| (1 <<< i)) e = true ∧ e < ops.size ∧ rs = []) := hS.imp (fun h => h) (fun h9 => ⟨by rw [Nat.testBit_or, h9.1]; rfl, h9.2⟩)
     have hcl2 : rs = [] ∨ closedB md ops (lst ops.size (m ||| (1 <<< i))) = true := hcl.imp (fun h => h) (fun h => by
       have := (closedB_spec h).set hrd
       rw [lst_set] at this
       exact closedB_of this)
     have go {d : Tmp} {v : Value} (ha' : Has n ((d, v) :: T) (a.put (some d) v)) (tl : Cd P n ops S (opsAt ops rs is) ((d, v) :: T) T') : wpAnyE P md ops Q e S (fuel + is.length) ((lst ops.size m).setIfInBounds i true) (a.put (some d) v) w := by
       rw [lst_set]
       exact stepsR rs hp hs hQ is rfl ha' hS2 hcl2 tl h7 h
     generalize hb : rs.contains i = b at hc
     cases hc with
     | c hy tl hg ht =>
       rw [hb] at h6
       simp only [Bool.not_true, Bool.false_or, Bool.or_eq_true] at h6
       have hne : rs ≠ [] := fun h => by rw [h] at hb; cases hb
       have hS0 : S w := hS.elim (fun h => h) (fun h9 => absurd h9.2.2 hne)
       have hc0 := hcl.resolve_left hne
       rcases h6 with h9 | h9
       · exact stepE_held i (some _) hS0 ho rfl hs hf hrb hc0 (by rw [h9, h4]; rfl) (fun c a w => hQ c a _ _ w) (gd_wanted ha hg) (fun W hW => hy W hW a ha) (go (ha.put ht _) tl)
       · exact stepE_readW i (some _) hS0 ho rfl hs hf hrb hc0 (by rw [h9, h4]; rfl) (fun c a w => hQ c a _ _ w) (gd_wanted ha hg) (fun W hW => hy W hW a ha) (go (ha.put ht _) tl)
     | p hy tl hg ht => exact stepE_any i (some _) hS1 ho rfl hs hf hrb h4 (fun c a w => hQ c a _ _ w) (gd_wanted ha hg) (fun W => hy W a ha) (go (ha.put ht _) tl)
     | s tl hj hb ht2 ht => exact stepE_skip i (some _) hS1 ho rfl hs hf hrb h4 (fun c a w => hQ c a _ _ w) (by simp [Region.wanted, ha.yielded hj hb ht2]) (go (ha.put ht _) tl)
     | u tl hj hb ht2 ht => exact stepE_skip i (some _) hS1 ho rfl hs hf hrb h4 (fun c a w => hQ c a _ _ w) (by simp [Region.wanted, ha.unyielded hj hb ht2]) (go (ha.put ht _) tl)
theorem region_p {P : Program} {a : Act} {w w0 : World} {X : Cx} {M B : Mm} {ops : Array Oper} {Q : Exit → Act → World → Prop} (e : Nat) (mB : MemOk X w0 B w) (m : MemOk X w0 M w) {id : Nat} (hm : P.follows .mixedOrders = true)
   (h : ∀ w', pairB .any ops = true → MemOk X w0 M w' → wpAnyE P .any ops Q e (MemOk X w0 B) ops.size (Array.replicate ops.size false) a w') (hp : pairB .any ops = true := by kernel_rfl) : (Code.region id ops true).wp P Q a w := region_m e mB m hm (fun w' _ m' => h w' hp m')
theorem goR (hp : pairB md ops = true) (is rs : List Nat) (k m m' : Nat) {T T' : List (Nat × Value)} {a : Act} {w : World} {listed : Array Bool} (ha : Has n T a) (hS : S w) (hc : Cd P n ops S (opsAt ops rs is) T T') (h : ∀ a', Has n T' a' → wpAnyE P md ops Q e S fuel (lst ops.size m') a' w) (hl : listed = lst ops.size m := by kernel_rfl) (hm : m' = bitsM m is := by kernel_rfl) (hk : is.length = k := by rfl) (hcl : closedB md ops (lst ops.size m) = true := by kernel_rfl) (hs : Region.noSelect ops = true := by kernel_rfl) (hr : rdM md ops e rs m is = true := by kernel_rfl) (hQ : ∀ c a d v w, Q (.panic c) (a.put (some d) v) w → Q (.panic c) a w := by exact fun _ _ _ _ _ h => h) : wpAnyE P md ops Q e S (fuel + k) listed a w := by
 subst hl; subst hm
 exact stepsR rs hp hs hQ is hk ha (.inl hS) (.inr hcl) hc hr h
theorem goA (hp : pairB md ops = true) (is : List Nat) (k m m' : Nat) {T T' : List (Nat × Value)} {a : Act} {w : World} {listed : Array Bool} (ha : Has n T a) (hS : S w) (hc : Cd P n ops S (opsAt ops [] is) T T') (h : ∀ a', Has n T' a' → wpAnyE P md ops Q e S fuel (lst ops.size m') a' w) (hl : listed = lst ops.size m := by kernel_rfl) (hm : m' = bitsM m is := by kernel_rfl) (hk : is.length = k := by rfl) (hs : Region.noSelect ops = true := by kernel_rfl) (hr : rdM md ops e [] m is = true := by kernel_rfl) (hQ : ∀ c a d v w, Q (.panic c) (a.put (some d) v) w → Q (.panic c) a w := by exact fun _ _ _ _ _ h => h) : wpAnyE P md ops Q e S (fuel + k) listed a w := by
 subst hl; subst hm
 exact stepsR [] hp hs hQ is hk ha (.inl hS) (.inl rfl) hc hr h
theorem goB (hp : pairB md ops = true) (is : List Nat) (k m m' : Nat) {T T' : List (Nat × Value)} {a : Act} {w : World} {listed : Array Bool} (ha : Has n T a) (hc : Cd P n ops S (opsAt ops [] is) T T') (h : ∀ a', Has n T' a' → wpAnyE P md ops Q e S fuel (lst ops.size m') a' w) (hl : listed = lst ops.size m := by kernel_rfl) (hm : m' = bitsM m is := by kernel_rfl) (hk : is.length = k := by rfl) (hb : (Nat.testBit m e && Nat.blt e ops.size) = true := by kernel_rfl) (hs : Region.noSelect ops = true := by kernel_rfl) (hr : rdM md ops e [] m is = true := by kernel_rfl) (hQ : ∀ c a d v w, Q (.panic c) (a.put (some d) v) w → Q (.panic c) a w := by exact fun _ _ _ _ _ h => h) : wpAnyE P md ops Q e S (fuel + k) listed a w := by
 subst hl; subst hm
 rw [Bool.and_eq_true] at hb
 exact stepsR [] hp hs hQ is hk ha (.inr ⟨hb.1, by simpa [Nat.blt_eq] using hb.2, rfl⟩) (.inl rfl) hc hr h
end
/-! short -/
section
variable {P : Program} {n : Nat} {ops : Array Oper} {S : World → Prop} {L : List (Oper × Bool)} {T T' : List (Nat × Value)} {w0 : World} {X : Cx} {M : Mm} {dd : Tmp} {tt : TypeId} {pos : String} {af : Array Edge} {gd : Option (Nat × Bool)} {x y z : Operand} {k : IntKind} {p q r : Int} {t t2 : TypeId}
theorem Cd.move {x : Operand} {v : Value} (hx : evT T x = some v) (tl : Cd P n ops S L ((dd, v) :: T) T') (hg : gdB ops n T gd = true := by rfl) (ht : Nat.blt dd n = true := by rfl) : Cd P n ops S ((⟨some dd, .move x, tt, pos, af, gd⟩, false) :: L) T T' := .p (fun W _ h => y_move h hx) tl hg ht
theorem Cd.assign {x : Operand} {v : Value} (hx : evT T x = some v) (tl : Cd P n ops S L ((dd, v) :: T) T') (hg : gdB ops n T gd = true := by rfl) (ht : Nat.blt dd n = true := by rfl) : Cd P n ops S ((⟨some dd, .assign x, tt, pos, af, gd⟩, false) :: L) T T' := .p (fun W _ h => y_assign h hx) tl hg ht
theorem Cd.pickT {c x y : Operand} {v : Value} (hc : evT T c = some (.bool true)) (hx : evT T x = some v) (tl : Cd P n ops S L ((dd, v) :: T) T') (hg : gdB ops n T gd = true := by rfl) (ht : Nat.blt dd n = true := by rfl) : Cd P n ops S ((⟨some dd, .pick c x y, tt, pos, af, gd⟩, false) :: L) T T' := .p (fun W _ h => y_pickT h hc hx) tl hg ht
theorem Cd.pickF {c x y : Operand} {v : Value} (hc : evT T c = some (.bool false)) (hx : evT T y = some v) (tl : Cd P n ops S L ((dd, v) :: T) T') (hg : gdB ops n T gd = true := by rfl) (ht : Nat.blt dd n = true := by rfl) : Cd P n ops S ((⟨some dd, .pick c x y, tt, pos, af, gd⟩, false) :: L) T T' := .p (fun W _ h => y_pickF h hc hx) tl hg ht
theorem Cd.not {t : TypeId} {x : Operand} {b : Bool} (hx : evT T x = some (.bool b)) (tl : Cd P n ops S L ((dd, (.bool !b)) :: T) T') (hg : gdB ops n T gd = true := by rfl) (ht : Nat.blt dd n = true := by rfl) : Cd P n ops S ((⟨some dd, .unOp .not t x, tt, pos, af, gd⟩, false) :: L) T T' := .p (fun W _ h => y_not h hx) tl hg ht
theorem Cd.len {t e : TypeId} {x : Operand} {p : Option Addr} {l c : Nat} (hx : evT T x = some (.slice p l c)) (hu : P.underlying t = some (.slice e)) (tl : Cd P n ops S L ((dd, (.int .i64 l)) :: T) T') (hg : gdB ops n T gd = true := by rfl) (ht : Nat.blt dd n = true := by rfl) : Cd P n ops S ((⟨some dd, .call { callee := .builtin .len, args := #[x], argTypes := #[t] }, tt, pos, af, gd⟩, false) :: L) T T' := .p (fun W _ h => y_len h hx hu) tl hg ht
theorem Cd.add (hx : evT T x = some (.int k p)) (hy : evT T y = some (.int k q)) (hr : k.wrap (p + q) = r) (tl : Cd P n ops S L ((dd, (.int k r)) :: T) T') (hg : gdB ops n T gd = true := by rfl) (ht : Nat.blt dd n = true := by rfl) : Cd P n ops S ((⟨some dd, .binOp .add t x y t2, tt, pos, af, gd⟩, false) :: L) T T' := .p (fun W _ h => y_add h hx hy hr) tl hg ht
theorem Cd.sub (hx : evT T x = some (.int k p)) (hy : evT T y = some (.int k q)) (hr : k.wrap (p - q) = r) (tl : Cd P n ops S L ((dd, (.int k r)) :: T) T') (hg : gdB ops n T gd = true := by rfl) (ht : Nat.blt dd n = true := by rfl) : Cd P n ops S ((⟨some dd, .binOp .sub t x y t2, tt, pos, af, gd⟩, false) :: L) T T' := .p (fun W _ h => y_sub h hx hy hr) tl hg ht
theorem Cd.mul (hx : evT T x = some (.int k p)) (hy : evT T y = some (.int k q)) (hr : k.wrap (p * q) = r) (tl : Cd P n ops S L ((dd, (.int k r)) :: T) T') (hg : gdB ops n T gd = true := by rfl) (ht : Nat.blt dd n = true := by rfl) : Cd P n ops S ((⟨some dd, .binOp .mul t x y t2, tt, pos, af, gd⟩, false) :: L) T T' := .p (fun W _ h => y_mul h hx hy hr) tl hg ht
theorem Cd.quo (hx : evT T x = some (.int k p)) (hy : evT T y = some (.int k q)) (h0 : q ≠ 0) (hr : k.wrap (p.tdiv q) = r) (tl : Cd P n ops S L ((dd, (.int k r)) :: T) T') (hg : gdB ops n T gd = true := by rfl) (ht : Nat.blt dd n = true := by rfl) : Cd P n ops S ((⟨some dd, .binOp .quo t x y t2, tt, pos, af, gd⟩, false) :: L) T T' := .p (fun W _ h => y_quo h hx hy h0 hr) tl hg ht
theorem Cd.rem (hx : evT T x = some (.int k p)) (hy : evT T y = some (.int k q)) (h0 : q ≠ 0) (hr : p.tmod q = r) (tl : Cd P n ops S L ((dd, (.int k r)) :: T) T') (hg : gdB ops n T gd = true := by rfl) (ht : Nat.blt dd n = true := by rfl) : Cd P n ops S ((⟨some dd, .binOp .rem t x y t2, tt, pos, af, gd⟩, false) :: L) T T' := .p (fun W _ h => y_rem h hx hy h0 hr) tl hg ht
theorem Cd.and (hx : evT T x = some (.int k p)) (hy : evT T y = some (.int k q)) (hr : k.wrap (BitVec.ofInt k.bits p &&& BitVec.ofInt k.bits q).toNat = r) (tl : Cd P n ops S L ((dd, (.int k r)) :: T) T') (hg : gdB ops n T gd = true := by rfl) (ht : Nat.blt dd n = true := by rfl) : Cd P n ops S ((⟨some dd, .binOp .and t x y t2, tt, pos, af, gd⟩, false) :: L) T T' := .p (fun W _ h => y_and h hx hy hr) tl hg ht
theorem Cd.or (hx : evT T x = some (.int k p)) (hy : evT T y = some (.int k q)) (hr : k.wrap (BitVec.ofInt k.bits p ||| BitVec.ofInt k.bits q).toNat = r) (tl : Cd P n ops S L ((dd, (.int k r)) :: T) T') (hg : gdB ops n T gd = true := by rfl) (ht : Nat.blt dd n = true := by rfl) : Cd P n ops S ((⟨some dd, .binOp .or t x y t2, tt, pos, af, gd⟩, false) :: L) T T' := .p (fun W _ h => y_or h hx hy hr) tl hg ht
theorem Cd.xor (hx : evT T x = some (.int k p)) (hy : evT T y = some (.int k q)) (hr : k.wrap (BitVec.ofInt k.bits p ^^^ BitVec.ofInt k.bits q).toNat = r) (tl : Cd P n ops S L ((dd, (.int k r)) :: T) T') (hg : gdB ops n T gd = true := by rfl) (ht : Nat.blt dd n = true := by rfl) : Cd P n ops S ((⟨some dd, .binOp .xor t x y t2, tt, pos, af, gd⟩, false) :: L) T T' := .p (fun W _ h => y_xor h hx hy hr) tl hg ht
theorem Cd.shl {yk : IntKind} (hx : evT T x = some (.int k p)) (hy : evT T y = some (.int yk q)) (h0 : 0 ≤ q) (hr : k.wrap (p * 2 ^ min q.toNat k.bits) = r) (tl : Cd P n ops S L ((dd, (.int k r)) :: T) T') (hg : gdB ops n T gd = true := by rfl) (ht : Nat.blt dd n = true := by rfl) : Cd P n ops S ((⟨some dd, .binOp .shl t x y t2, tt, pos, af, gd⟩, false) :: L) T T' := .p (fun W _ h => y_shl h hx hy h0 hr) tl hg ht
theorem Cd.lss (hx : evT T x = some (.int k p)) (hy : evT T y = some (.int k q)) (tl : Cd P n ops S L ((dd, (.bool (decide (p < q)))) :: T) T') (hg : gdB ops n T gd = true := by rfl) (ht : Nat.blt dd n = true := by rfl) : Cd P n ops S ((⟨some dd, .binOp .lss t x y t2, tt, pos, af, gd⟩, false) :: L) T T' := .p (fun W _ h => y_lss h hx hy) tl hg ht
theorem Cd.leq (hx : evT T x = some (.int k p)) (hy : evT T y = some (.int k q)) (tl : Cd P n ops S L ((dd, (.bool (decide (p ≤ q)))) :: T) T') (hg : gdB ops n T gd = true := by rfl) (ht : Nat.blt dd n = true := by rfl) : Cd P n ops S ((⟨some dd, .binOp .leq t x y t2, tt, pos, af, gd⟩, false) :: L) T T' := .p (fun W _ h => y_leq h hx hy) tl hg ht
theorem Cd.gtr (hx : evT T x = some (.int k p)) (hy : evT T y = some (.int k q)) (tl : Cd P n ops S L ((dd, (.bool (decide (q < p)))) :: T) T') (hg : gdB ops n T gd = true := by rfl) (ht : Nat.blt dd n = true := by rfl) : Cd P n ops S ((⟨some dd, .binOp .gtr t x y t2, tt, pos, af, gd⟩, false) :: L) T T' := .p (fun W _ h => y_gtr h hx hy) tl hg ht
theorem Cd.geq (hx : evT T x = some (.int k p)) (hy : evT T y = some (.int k q)) (tl : Cd P n ops S L ((dd, (.bool (decide (q ≤ p)))) :: T) T') (hg : gdB ops n T gd = true := by rfl) (ht : Nat.blt dd n = true := by rfl) : Cd P n ops S ((⟨some dd, .binOp .geq t x y t2, tt, pos, af, gd⟩, false) :: L) T T' := .p (fun W _ h => y_geq h hx hy) tl hg ht
theorem Cd.eql (hx : evT T x = some (.int k p)) (hy : evT T y = some (.int k q)) (tl : Cd P n ops S L ((dd, (.bool (decide (p = q)))) :: T) T') (hg : gdB ops n T gd = true := by rfl) (ht : Nat.blt dd n = true := by rfl) : Cd P n ops S ((⟨some dd, .binOp .eql t x y t2, tt, pos, af, gd⟩, false) :: L) T T' := .p (fun W _ h => y_eql h hx hy) tl hg ht
theorem Cd.neq (hx : evT T x = some (.int k p)) (hy : evT T y = some (.int k q)) (tl : Cd P n ops S L ((dd, (.bool (decide (p ≠ q)))) :: T) T') (hg : gdB ops n T gd = true := by rfl) (ht : Nat.blt dd n = true := by rfl) : Cd P n ops S ((⟨some dd, .binOp .neq t x y t2, tt, pos, af, gd⟩, false) :: L) T T' := .p (fun W _ h => y_neq h hx hy) tl hg ht
theorem Cd.eqlP {e : TypeId} {b : Option Addr} (hx : evT T x = some (.pointer b)) (hy : evT T y = some (.pointer none)) (hu : P.underlying t = some (.pointer e)) (tl : Cd P n ops S L ((dd, (.bool b.isNone)) :: T) T') (hg : gdB ops n T gd = true := by rfl) (ht : Nat.blt dd n = true := by rfl) : Cd P n ops S ((⟨some dd, .binOp .eql t x y t2, tt, pos, af, gd⟩, false) :: L) T T' := .p (fun W _ h => y_eqlP h hx hy hu) tl hg ht
theorem Cd.conv {s e : TypeId} {k' : IntKind} {ds : TypeDesc} (hx : evT T x = some (.int k p)) (hs : P.underlying s = some ds) (hd : P.underlying e = some (.int k')) (hr : k'.wrap p = r) (tl : Cd P n ops S L ((dd, (.int k' r)) :: T) T') (hg : gdB ops n T gd = true := by rfl) (ht : Nat.blt dd n = true := by rfl) : Cd P n ops S ((⟨some dd, .convert s e x, tt, pos, af, gd⟩, false) :: L) T T' := .p (fun W _ h => y_conv h hx hs hd hr) tl hg ht
theorem Cd.extract {x : Operand} {vs : Array Value} {i : Nat} {v : Value} (hx : evT T x = some (.tuple vs)) (hv : nthL vs.toList i = some v) (tl : Cd P n ops S L ((dd, v) :: T) T') (hg : gdB ops n T gd = true := by rfl) (ht : Nat.blt dd n = true := by rfl) : Cd P n ops S ((⟨some dd, .extract x i, tt, pos, af, gd⟩, false) :: L) T T' := .p (fun W _ h => y_extract h hx hv) tl hg ht
theorem Cd.nilCheck {x : Operand} {p : Addr} (hx : evT T x = some (.pointer (some p))) (tl : Cd P n ops S L ((dd, (.pointer (some p))) :: T) T') (hg : gdB ops n T gd = true := by rfl) (ht : Nat.blt dd n = true := by rfl) : Cd P n ops S ((⟨some dd, .nilCheck x, tt, pos, af, gd⟩, false) :: L) T T' := .p (fun W _ h => y_nilCheck h hx) tl hg ht
theorem Cd.fieldAddr {t : TypeId} {x : Operand} {i g o : Nat} {fs : Array Field} {f : Field} {s off : Nat} (hx : evT T x = some (.pointer (some ⟨g, o, none⟩))) (hu : P.underlying t = some (.struct fs)) (hf : fs[i]? = some f) (hs : (P.info? f.type).map (·.size) = some (s + 1)) (ho : o + f.offset = off) (tl : Cd P n ops S L ((dd, (.pointer (some ⟨g, off, none⟩))) :: T) T') (hg : gdB ops n T gd = true := by rfl) (ht : Nat.blt dd n = true := by rfl) : Cd P n ops S ((⟨some dd, .fieldAddr t x i, tt, pos, af, gd⟩, false) :: L) T T' := .p (fun W _ h => y_fieldAddr h hx hu hf hs ho) tl hg ht
theorem Cd.build {t : TypeId} {parts : Array (Nat × Operand)} {z cs : List Value} {pl : List (Nat × Value)} (hp : K.evP T parts.toList = some pl) (hz : ((P.info? t).bind (·.zero)).map (·.cells.toList) = some z) (hf : flatS P t z = true) (h1 : pl.all (fun p => decide (p.1 < z.length) && p.2.oneCell') = true) (hc : setL z pl = cs) (tl : Cd P n ops S L ((dd, (.agg cs.toArray)) :: T) T') (hg : gdB ops n T gd = true := by rfl) (ht : Nat.blt dd n = true := by rfl) : Cd P n ops S ((⟨some dd, .build t parts, tt, pos, af, gd⟩, false) :: L) T T' := .p (fun W _ h => y_build h hp hz hf h1 hc) tl hg ht
theorem Cd.loadB1 (m : ∀ W, S W → MemOk X w0 M W) {t : TypeId} {td : TypeDesc} {x : Operand} {i g o : Nat} {e : TypeId} {cs : List Value} {v : Value} (hm : lk M i = some (.box g e cs)) (hx : evT T x = some (.pointer (some ⟨g, o, none⟩))) (hv : cs[o]? = some v) (hu : P.underlying t = some td) (hr : td.isRow = false) (tl : Cd P n ops S L ((dd, v) :: T) T') (hg : gdB ops n T gd = true := by rfl) (ht : Nat.blt dd n = true := by rfl) : Cd P n ops S ((⟨some dd, .load t x, tt, pos, af, gd⟩, true) :: L) T T' := .c (fun W hW _ h => y_loadB1 h (m W hW) hm hx hv hu hr) tl hg ht
theorem Cd.loadBR (m : ∀ W, S W → MemOk X w0 M W) {t : TypeId} {td : TypeDesc} {x : Operand} {i g o k : Nat} {e : TypeId} {cs vs : List Value} (hm : lk M i = some (.box g e cs)) (hx : evT T x = some (.pointer (some ⟨g, o, none⟩))) (hu : P.underlying t = some td) (hr : td.isRow = true) (hs : (P.info? t).map (·.size) = some k) (hk : o + k ≤ cs.length) (hv : (cs.drop o).take k = vs) (tl : Cd P n ops S L ((dd, (.agg vs.toArray)) :: T) T') (hg : gdB ops n T gd = true := by rfl) (ht : Nat.blt dd n = true := by rfl) : Cd P n ops S ((⟨some dd, .load t x, tt, pos, af, gd⟩, true) :: L) T T' := .c (fun W hW _ h => y_loadBR h (m W hW) hm hx hu hr hs hk hv) tl hg ht
theorem Cd.loadC0 (m : ∀ W, S W → MemOk X w0 M W) {t : TypeId} {td : TypeDesc} {x : Operand} {i b o : Nat} {vs : List Value} {v : Value} (hm : lk M i = some (.cel b o (v :: vs))) (hx : evT T x = some (.pointer (some ⟨b, o, none⟩))) (hu : P.underlying t = some td) (hr : td.isRow = false) (tl : Cd P n ops S L ((dd, v) :: T) T') (hg : gdB ops n T gd = true := by rfl) (ht : Nat.blt dd n = true := by rfl) : Cd P n ops S ((⟨some dd, .load t x, tt, pos, af, gd⟩, true) :: L) T T' := .c (fun W hW _ h => y_loadC0 h (m W hW) hm hx hu hr) tl hg ht
theorem Cd.str {s t e : TypeId} {x : Operand} {v : Value} {bs : List Int} (hx : evT T x = some v) (hv : ∀ W, S W → IsNums .u8 W v bs) (hs : P.underlying s = some (.slice e)) (he : P.underlying e = some (.int .u8)) (hd : P.underlying t = some .string) (tl : Cd P n ops S L ((dd, (.string (strOfNums bs))) :: T) T') (hg : gdB ops n T gd = true := by rfl) (ht : Nat.blt dd n = true := by rfl) : Cd P n ops S ((⟨some dd, .convert s t x, tt, pos, af, gd⟩, true) :: L) T T' := .c (fun W hW _ h => y_str h hx (hv W hW) hs he hd) tl hg ht
theorem Cd.loadAt {t : TypeId} {td : TypeDesc} {x : Operand} {b o : Nat} {vs : List Value} (hr : ∀ W, S W → W.rangeAt b o vs) (hx : evT T x = some (.pointer (some ⟨b, o, none⟩))) (hu : P.underlying t = some td) (hd : td.isRow = true) (hs : (P.info? t).map (·.size) = some vs.length) (tl : Cd P n ops S L ((dd, (.agg vs.toArray)) :: T) T') (hg : gdB ops n T gd = true := by rfl) (ht : Nat.blt dd n = true := by rfl) : Cd P n ops S ((⟨some dd, .load t x, tt, pos, af, gd⟩, true) :: L) T T' := .c (fun W hW _ h => y_loadAt h (hr W hW) hx hu hd hs) tl hg ht
theorem Cd.loadAt1 {t : TypeId} {td : TypeDesc} {x : Operand} {b o q q' : Nat} {vs : List Value} {v : Value} (hr : ∀ W, S W → W.rangeAt b o vs) (hx : evT T x = some (.pointer (some ⟨b, q', none⟩))) (hq : q' = o + q) (hv : nthL vs q = some v) (hu : P.underlying t = some td) (hd : td.isRow = false) (tl : Cd P n ops S L ((dd, v) :: T) T') (hg : gdB ops n T gd = true := by rfl) (ht : Nat.blt dd n = true := by rfl) : Cd P n ops S ((⟨some dd, .load t x, tt, pos, af, gd⟩, true) :: L) T T' := .c (fun W hW _ h => y_loadAt1 h (hr W hW) hx hq hv hu hd) tl hg ht
theorem Cd.cap {t e : TypeId} {x : Operand} {p : Option Addr} {l c : Nat} (hx : evT T x = some (.slice p l c)) (hu : P.underlying t = some (.slice e)) (tl : Cd P n ops S L ((dd, (.int .i64 c)) :: T) T') (hg : gdB ops n T gd = true := by rfl) (ht : Nat.blt dd n = true := by rfl) : Cd P n ops S ((⟨some dd, .call { callee := .builtin .cap, args := #[x], argTypes := #[t] }, tt, pos, af, gd⟩, false) :: L) T T' := .p (fun W _ h => y_cap h hx hu) tl hg ht
end
end
section
section
variable {P : Program} {ops : Array Oper} {Q : Exit → Act → World → Prop} {md : Region.Mode} {listed : Array Bool} {fuel e : Nat} {S : World → Prop} {a : Act} {w : World}
theorem dsuf {I : Act → World → Prop} (k m' : Nat) (h : ∀ a w, I a w → wpAnyE P md ops Q e S k (lst ops.size m') a w) (g : (∀ a w, I a w → wpAnyE P md ops Q e S k (lst ops.size m') a w) → wpAnyE P md ops Q e S fuel listed a w) : wpAnyE P md ops Q e S fuel listed a w := g h
theorem ldl (m : Nat) (h : wpAnyE P md ops Q e S fuel (lst ops.size m) a w) (hl : listed = lst ops.size m := by kernel_rfl) : wpAnyE P md ops Q e S fuel listed a w := hl ▸ h
end
end
section
def BytesL (d : List Int) : Prop := ∀ x ∈ d, 0 ≤ x ∧ x ≤ 255
def bD (l : List Int) : List D := [.ns .u8 l]
theorem shx {k : Nat} (hk : k ≤ 9) : min (7 * (k : Int)).toNat IntKind.u64.bits = 7 * k := by
 have : IntKind.u64.bits = 64 := rfl
 omega
theorem getD_bd {b : List Int} {k : Nat} (h : BytesL b) (hk : k < b.length) : 0 ≤ b.getD k 0 ∧ b.getD k 0 ≤ 255 := by
 rw [List.getD, List.getElem?_eq_getElem hk]; exact h _ (List.getElem_mem hk)
theorem dec_at {b : List Int} {u k : Nat} (hk : k < b.length) : dec u k (b.drop k) = if (k = 9 ∧ 1 < b.getD k 0) ∨ (0 < k ∧ b.getD k 0 = 0) then .err 20 else if b.getD k 0 < 128 then .ok (u + (b.getD k 0 % 128).toNat * 2 ^ (7 * k)) (k + 1) else dec (u + (b.getD k 0 % 128).toNat * 2 ^ (7 * k)) (k + 1) (b.drop (k + 1)) := by
 rw [List.drop_eq_getElem_cons hk, dec, List.getD, List.getElem?_eq_getElem hk]; rfl
theorem encs_one (x : Int) : encs [x] = enc x := by simp [encs]
theorem one63 {x : Int} (h : 0 ≤ x ∧ x ≤ 9223372036854775807) : ∀ k, k < [x].length → 0 ≤ [x].getD k 0 ∧ [x].getD k 0 ≤ 9223372036854775807 := fun k hk => by
 obtain rfl : k = 0 := by simpa using hk
 simpa using h
end
section
theorem bytesLB {bs : List Int} (h : BytesL bs) : Bytes bs := fun j hj => by
 rw [List.getD, List.getElem?_eq_getElem hj]; exact h _ (List.getElem_mem hj)
theorem lists_rd {S : Nat → Prop} {w : World} {v : Value} {ls : List (List Int)} (h : Rd S w v (.l 1 (ls.map bD))) : IsLists w v ls := by
 rcases h.l_out with h0 | ⟨b, off, c, f, rfl, h1, h2, h3, h4, h5⟩
 · have e : ls = [] := List.map_eq_nil_iff.1 h0
   subst e
   obtain ⟨p, c, rfl, -⟩ := h.l_shape
   exact ⟨p, c, rfl, .inl rfl⟩
 · refine ⟨_, c, by rw [List.length_map], .inr ⟨b, off, rfl, h2, fun j hj => ?_⟩⟩
   have hj' : j < (ls.map bD).length := by rw [List.length_map]; exact hj
   have h6 := (h4 j 0 hj' (by decide)).1
   refine ⟨_, by rw [show off + j = off + j * 1 + 0 by omega]; exact h6, ?_⟩
   have h7 := h5 j 0 (bD (ls.getD j [])) (.ns .u8 (ls.getD j [])) (by rw [List.getElem?_map, List.getD, List.getElem?_eq_getElem hj]; rfl) rfl
   exact h7.ns_out.nums
theorem pput_x (v : Value) (xs : List Int) (w0 : World) (h : Rd (fun _ => True) w0 v (.ns .u64 xs)) (hl : xs.length ≤ 1000) (hxb : ∀ k, k < xs.length → 0 ≤ xs.getD k 0 ∧ xs.getD k 0 ≤ 9223372036854775807) :
   Calls Tryd.prog 28 #[v] w0 fun e w' => ∃ p c, e = .returned (.slice p (encs xs).length c) ∧ w'.ownsRow w0.heap.size 5 1 (.slice p (encs xs).length c) (encs xs).length ((encs xs).map (Value.int .u8)) ∧ Below w0.heap.size w0 w' := by
 refine (put_any v xs w0 h.ns_out.nums (fun j hj => ⟨(hxb j hj).1, by have := (hxb j hj).2; omega⟩) hl).mono fun e w' h => ?_
 obtain ⟨u, rfl, hown, hbel⟩ := h
 obtain ⟨p, c, rfl⟩ := ownsRow_shape hown
 exact ⟨p, c, rfl, hown, hbel⟩
theorem pjoin_x (v : Value) (ls : List (List Int)) (w0 : World) (h : Rd (fun _ => True) w0 v (.l 1 (ls.map bD))) (hl : ls.length ≤ 1000) (hs : sumLen ls ≤ 1000000) :
   Calls Tryd.prog 14 #[v] w0 fun e w' => ∃ p c, e = .returned (.slice p (ls.flatten).length c) ∧ w'.ownsRow w0.heap.size 5 1 (.slice p (ls.flatten).length c) (ls.flatten).length ((ls.flatten).map (Value.int .u8)) ∧ Below w0.heap.size w0 w' := by
 refine (join_any v ls w0 (lists_rd h) hl hs).mono fun e w' h => ?_
 obtain ⟨u, rfl, hown, hbel⟩ := h
 obtain ⟨p, c, rfl⟩ := ownsRow_shape hown
 exact ⟨p, c, rfl, hown, hbel⟩
theorem pseal_x (v : Value) (bs : List Int) (w0 : World) (hT : TabOk w0) (h1 : 1 ≤ w0.heap.size) (h : Rd (fun _ => True) w0 v (.ns .u8 bs)) (hb : BytesL bs) (hl : bs.length ≤ 10000) :
   Calls Tryd.prog 13 #[v] w0 fun e w' => ∃ p c, e = .returned (.slice p (sealC bs).length c) ∧ w'.ownsRow w0.heap.size 5 1 (.slice p (sealC bs).length c) (sealC bs).length ((sealC bs).map (Value.int .u8)) ∧ Below w0.heap.size w0 w' := by
 refine (seal_any v bs w0 hT h1 h.ns_out.nums (bytesLB hb) hl).mono fun e w' h => ?_
 obtain ⟨u, rfl, hown, hbel⟩ := h
 obtain ⟨p, c, rfl⟩ := ownsRow_shape hown
 exact ⟨p, c, rfl, hown, hbel⟩
end
section
abbrev cxt (w : World) : Cx := cx (fun _ => True) w
theorem MemOk.own_new {w0 w : World} {M : Mm} (m : MemOk (cxt w0) w0 M w) {b : Nat} (h : Own M b) : w0.heap.size ≤ b := by
 obtain ⟨i, r, hl, hb⟩ := h
 have hok := m.ok i r hl
 have hn : ¬ b ∈ (cxt w0).bad := List.not_mem_nil
 cases r with
 | dat v d => cases hb
 | box g e cs => injection hb with hb; subst hb; exact hok.2.resolve_right hn
 | num v e k zs => exact (World.ownsRow.lt hok b hb).1
 | row v e k rows => obtain ⟨cs, q, _⟩ := hok; exact (World.ownsRow.lt q b hb).1
 | cel b o vs => cases hb
 | rowC v e k rows cs => exact (World.ownsRow.lt hok.1 b hb).1
 | seg v e k rows => exact (hok.2 b hb).resolve_right hn
 | any g => injection hb with hb; subst hb; exact hok.2.resolve_right hn
 | gone => cases hb
theorem MemOk.old {w0 w : World} {M : Mm} (m : MemOk (cxt w0) w0 M w) {S : Nat → Prop} {v : Value} {d : D} (h : Rd S w0 v d) : Rd (Free (cxt w0) M) w v d :=
 h.mono m.keep.2.2.2.1 (fun b hlt _ => ⟨m.keep.2.2.2.2 b hlt (by simp [cx]), fun _ => trivial, fun ho => by have := m.own_new ho; omega⟩)
theorem pjoin_is {v : Value} {ls : List (List Int)} {w0 : World} {S : List Int} (h : Rd (fun _ => True) w0 v (.l 1 (ls.map bD))) (hl : ls.length ≤ 1000) (hs : sumLen ls ≤ 1000000) (hS : ls.flatten = S) :
   Calls Tryd.prog 14 #[v] w0 fun e w' => ∃ p c, e = .returned (.slice p S.length c) ∧ w'.ownsRow w0.heap.size 5 1 (.slice p S.length c) S.length (S.map (Value.int .u8)) ∧ Below w0.heap.size w0 w' := by
 subst hS; exact pjoin_x v ls w0 h hl hs
theorem b63 {l : List Int} (h : ∀ x ∈ l, 0 ≤ x ∧ x ≤ 9223372036854775807) : ∀ k, k < l.length → 0 ≤ l.getD k 0 ∧ l.getD k 0 ≤ 9223372036854775807 := fun k hk => by
 rw [List.getD, List.getElem?_eq_getElem hk]; exact h _ (List.getElem_mem hk)
theorem bytesApp {a b : List Int} (ha : BytesL a) (hb : BytesL b) : BytesL (a ++ b) := fun x hx => (List.mem_append.1 hx).elim (ha x) (hb x)
theorem encBytes {x : Int} (h : x ≤ 18446744073709551615) : BytesL (enc x) := enc_bytes x h
theorem encsBytes {l : List Int} (h : ∀ x ∈ l, x ≤ 18446744073709551615) : BytesL (encs l) := fun x hx => by
 obtain ⟨y, hy, hxy⟩ := List.mem_flatMap.1 hx
 exact enc_bytes y (h y hy) x hxy
theorem fourBytes (c : Int) : BytesL (fourC c) := fun x hx => by
 simp only [fourC, List.mem_cons, List.not_mem_nil, or_false] at hx
 omega
theorem sealBytes {l : List Int} (h : BytesL l) : BytesL (sealC l) := bytesApp h (fourBytes _)
end
section
theorem y_andNot {P : Program} {T : List (Nat × Value)} {n : Nat} {a : Act} {w : World} {k : IntKind} {p q r : Int} {d : Option Tmp} {x y : Operand} {t t2 tt : TypeId} {pos : String} {af : Array Edge} {gd : Option (Nat × Bool)} (h : Has n T a) (hx : evT T x = some (.int k p)) (hy : evT T y = some (.int k q)) (hr : bits .andNot k p q = r) : Yl P a w ⟨d, .binOp .andNot t x y t2, tt, pos, af, gd⟩ (.int k r) := by
 subst hr
 show (execOp _ _).run P w = _; simp only [execOp, eqGuard, binOp, Op.intBits, h.ev hx, h.ev hy, bits]; simp
end
section
theorem sz26pfa : (Tryd.prog.info? 26).map (·.size) = some 1 := by kernel_rfl
theorem sz31pfa : (Tryd.prog.info? 31).map (·.size) = some 1 := by kernel_rfl
theorem sz5pno : (Tryd.prog.info? 5).map (·.size) = some 1 := by kernel_rfl
theorem sz26pno : (Tryd.prog.info? 26).map (·.size) = some 1 := by kernel_rfl
theorem sz5pne : (Tryd.prog.info? 5).map (·.size) = some 1 := by kernel_rfl
theorem sz26pne : (Tryd.prog.info? 26).map (·.size) = some 1 := by kernel_rfl





set_option maxRecDepth 100000
set_option maxHeartbeats 4000000
theorem pfail_x (X : Cx) (B : Nat) (v : Value) (er cd : Int) (w0 : World) (m0 : MemOk X w0 [(1, .box B 85 [v, .int .i64 er])] w0) :
   Calls Tryd.prog 49 #[.pointer (some ⟨B, 0, none⟩), .int .i64 cd] w0 fun e w' => e = .returned (.tuple #[]) ∧ MemOk X w0 [(1, .box B 85 [.slice none 0 0, .int .i64 cd])] w' := by
 refine enter (fn := Tryd.f49) Tryd.func49 rfl Tryd.ntmps49 rfl (fun Az Hz => ?_)
 simp only [List.zipIdx_cons, List.zipIdx_nil, List.map_cons, List.map_nil, Nat.reduceAdd, Nat.zero_add] at Hz
 refine wp_region_lit ?_
 refine goCh Hz (.move rfl <| .move rfl <| .move rfl <| .nilCheck rfl <| .fieldAddr (off := 0) rfl Tryd.underlying83 rfl (s := 0) (by kernel_rfl) rfl <| .nil) ?_
 clear Hz Az; intro Az Hz
 refine wpList_plain rfl (fun K hK => ?_)
 refine e_store1 Hz m0 1 rfl rfl rfl rfl rfl sz26pfa (by dsimp only [List.set] <;> rfl) ?_
 clear m0; intro w6 m6 hB6
 clear hB6
 refine hK _ _ ?_; clear hK K
 refine goCh Hz (.nilCheck rfl <| .fieldAddr (off := 1) rfl Tryd.underlying83 rfl (s := 0) (by kernel_rfl) rfl <| .nil) ?_
 clear Hz Az; intro Az Hz
 refine wpList_plain rfl (fun K hK => ?_)
 refine e_store1 Hz m6 1 rfl rfl rfl rfl rfl sz31pfa (by dsimp only [List.set] <;> rfl) ?_
 clear m6; intro w9 m9 hB9
 clear hB9
 refine hK _ _ ?_; clear hK K
 refine wpList_nil ?_
 try dsimp only [Exit.then]
 try refine out_here ?_
 refine (ret0 (fn := Tryd.f49) Hz rfl ?_)
 exact ⟨rfl, m9.only [1]⟩
theorem pnumber_ok (X : Cx) (B : Nat) (b : List Int) (er : Int) (p : Option Addr) (c : Nat) (w0 : World) (n j : Nat) (hb : b.length ≤ 1000000) (hbb : BytesL b) (hd : dec 0 0 b = .ok n j) (m0 : MemOk X w0 [(1, .box B 85 [.slice p (b).length c, .int .i64 er]), (2, .dat (.slice p (b).length c) (.ns .u8 (b)))] w0) :
   Calls Tryd.prog 48 #[.pointer (some ⟨B, 0, none⟩)] w0 fun e w' => ∃ (p' : Option Addr) (c' : Nat), e = .returned (.tuple #[.int .u64 (n : Int), .int .i64 0]) ∧ MemOk X w0 [(1, .box B 85 [.slice p' (b.drop j).length c', .int .i64 er]), (2, .dat (.slice p' (b.drop j).length c') (.ns .u8 (b.drop j)))] w' := by
 refine enter (fn := Tryd.f48) Tryd.func48 rfl Tryd.ntmps48 rfl (fun Az Hz => ?_)
 simp only [List.zipIdx_cons, List.zipIdx_nil, List.map_cons, List.map_nil, Nat.reduceAdd, Nat.zero_add] at Hz
 refine regS Hz (.assign rfl <| .assign rfl <| .nil) ?_
 clear Hz Az; intro Az Hz
 refine regS Hz (.assign rfl <| .nil) ?_
 clear Hz Az; intro Az Hz
 refine wp_seq_k (fun K0 hK0 => ?_)
 refine regS Hz (.move rfl <| .nilCheck rfl <| .fieldAddr (off := 0) rfl Tryd.underlying83 rfl (s := 0) (by kernel_rfl) rfl <| .loadB1 m0 (i := 1) rfl rfl rfl Tryd.underlying26 rfl <| .len rfl Tryd.underlying26 <| .move rfl <| .nil) ?_
 clear Hz Az; intro Az Hz
 refine wp_block ?_
 refine wp_loop_ghost (fun g a w => ∃ (k u : Nat), k ≤ b.length ∧ k ≤ 9 ∧ g = b.length - k ∧ u < 2 ^ (7 * k) ∧ dec u k (b.drop k) = dec 0 0 b ∧ Has 53 [(0, .pointer (some ⟨B, 0, none⟩)), (4, .int .u64 (u : Int)), (10, .slice p b.length c), (11, .int .i64 b.length), (12, .int .i64 k)] a ∧ MemOk X w0 [(1, .box B 85 [.slice p (b).length c, .int .i64 er]), (2, .dat (.slice p (b).length c) (.ns .u8 (b)))] w) (b.length) ?_ ?_
 · exact ⟨0, 0, Nat.zero_le _, Nat.zero_le _, rfl, by decide, rfl, Hz.only [0, 4, 10, 11, 12], m0.only [1, 2]⟩
 ·
  clear Hz m0
  rintro g Az w10 ⟨k, u, hkl, hk9, hg, hu, hD0, Hz, m10⟩
  refine regS Hz (.lss rfl rfl <| .nil) ?_
  clear Hz Az; intro Az Hz
  refine wp_seq_k (fun K1 hK1 => ?_)
  refine bool_cases Hz (t := 13) rfl ?_ ?_
  ·
   clear Hz; intro hb12 Hz
   try simp only [Q1x, Q2x, Q3x, Q4x, Q5x, Q6x, Q7x, Q8x, Q9x, Q0x, Qax, Qbx] at hb12
   have hk : k < b.length := by omega
   have hxb := getD_bd hbb hk
   have hD := hD0
   rw [dec_at hk] at hD
   refine wp_cond_true (Hz.ev (x := .tmp 13) rfl) ?_
   refine wp_skip ?_
   refine hK1 _ _ ?_; clear hK1; try clear K1
   refine wp_seq_k (fun K2 hK2 => ?_)
   refine wp_block ?_
   refine wp_seq_k (fun K3 hK3 => ?_)
   refine wp_region_lit ?_
   refine goCh Hz (.move rfl .nil) ?_
   clear Hz Az; intro Az Hz
   obtain ⟨b16, o16, hp16, m16⟩ := m10.openN (i := 2) rfl (k) hk 100 rfl
   cases hp16; clear m10
   refine goCh Hz (.c rfl (fun _ h_ => y_idx h_ rfl rfl Tryd.underlying26 sz5pno (k) rfl hk) <| .loadC0 m16 (i := 100) rfl rfl Tryd.underlying5 rfl <| .assign rfl <| .assign rfl <| .nil) ?_
   clear Hz Az; intro Az Hz
   refine wpList_nil ?_
   refine hK3 _ _ ?_; clear hK3; try clear K3
   refine wp_seq_k (fun K4 hK4 => ?_)
   refine wp_seq_k (fun K5 hK5 => ?_)
   refine wp_region_lit ?_
   refine goCh Hz (.move rfl <| .eql rfl rfl <| .move rfl <| .nil) ?_
   clear Hz Az; intro Az Hz
   refine bool_cases Hz (t := 19) rfl ?_ ?_
   ·
    clear Hz; intro hb27 Hz
    try simp only [Q1x, Q2x, Q3x, Q4x, Q5x, Q6x, Q7x, Q8x, Q9x, Q0x, Qax, Qbx] at hb27
    refine goCh Hz (.moveZ rfl <| .gtrZ rfl rfl <| .pickT rfl rfl <| .move rfl <| .nil) ?_
    clear Hz Az; intro Az Hz
    refine bool_cases Hz (t := 23) rfl ?_ ?_
    ·
     clear Hz; intro hb32 Hz
     try simp only [Q1x, Q2x, Q3x, Q4x, Q5x, Q6x, Q7x, Q8x, Q9x, Q0x, Qax, Qbx] at hb32
     have hE : dec 0 0 b = .err 20 := by rw [← hD, if_pos (by omega)]
     refine goCh Hz (.sk <| .sk <| .sk <| .nil) ?_
     clear Hz Az; intro Az Hz
     refine st_skipU Hz rfl rfl rfl rfl ?_
     clear Hz Az; intro Az Hz
     refine st_skipU Hz rfl rfl rfl rfl ?_
     clear Hz Az; intro Az Hz
     refine goCh Hz (.sk <| .pickT rfl rfl <| .nil) ?_
     clear Hz Az; intro Az Hz
     refine wpList_nil ?_
     refine hK5 _ _ ?_; clear hK5; try clear K5
     refine wp_cond_true (Hz.ev (x := .tmp 30) rfl) ?_
     replace Hz : Has 53 [(0, _), (4, _), (10, _), (11, _), (12, _), (5, _), (6, _), (19, _), (23, _), (26, _), (30, _)] Az := Hz.only [0, 4, 10, 11, 12, 5, 6, 19, 23, 26, 30]
     refine regS Hz (.assign rfl <| .assign rfl <| .nil) ?_
     clear Hz Az; intro Az Hz
     refine wp_ret ?_
     try dsimp only [Exit.then, Exit.inBlock]
     refine (ret2 (fn := Tryd.f48) Hz rfl rfl rfl ?_)
     rw [hE] at hd; cases hd
    ·
     clear Hz; intro hb32 Hz
     try simp only [Q1x, Q2x, Q3x, Q4x, Q5x, Q6x, Q7x, Q8x, Q9x, Q0x, Qax, Qbx] at hb32
     refine goCh Hz (.moveZ rfl <| .gtrZ rfl rfl <| .moveZ rfl <| .nil) ?_
     clear Hz Az; intro Az Hz
     refine bool_cases Hz (t := 26) rfl ?_ ?_
     ·
      clear Hz; intro hb46 Hz
      try simp only [Q1x, Q2x, Q3x, Q4x, Q5x, Q6x, Q7x, Q8x, Q9x, Q0x, Qax, Qbx] at hb46
      refine goCh Hz (.moveZ rfl <| .eqlZ rfl rfl <| .pickTZ rfl rfl <| .pickF rfl rfl <| .nil) ?_
      clear Hz Az; intro Az Hz
      refine wpList_nil ?_
      refine hK5 _ _ ?_; clear hK5; try clear K5
      refine bool_cases Hz (t := 30) rfl ?_ ?_
      ·
       clear Hz; intro hb51 Hz
       try simp only [Q1x, Q2x, Q3x, Q4x, Q5x, Q6x, Q7x, Q8x, Q9x, Q0x, Qax, Qbx] at hb51
       have hE : dec 0 0 b = .err 20 := by rw [← hD, if_pos (by omega)]
       refine wp_cond_true (Hz.ev (x := .tmp 30) rfl) ?_
       replace Hz : Has 53 [(0, _), (4, _), (10, _), (11, _), (12, _), (5, _), (6, _), (19, _), (23, _), (26, _), (30, _)] Az := Hz.only [0, 4, 10, 11, 12, 5, 6, 19, 23, 26, 30]
       refine regS Hz (.assign rfl <| .assign rfl <| .nil) ?_
       clear Hz Az; intro Az Hz
       refine wp_ret ?_
       try dsimp only [Exit.then, Exit.inBlock]
       refine (ret2 (fn := Tryd.f48) Hz rfl rfl rfl ?_)
       rw [hE] at hd; cases hd
      ·
       clear Hz; intro hb51 Hz
       try simp only [Q1x, Q2x, Q3x, Q4x, Q5x, Q6x, Q7x, Q8x, Q9x, Q0x, Qax, Qbx] at hb51
       have hno : ¬ ((k = 9 ∧ 1 < (b.getD k 0)) ∨ (0 < k ∧ (b.getD k 0) = 0)) := by omega
       have h9 : k = 9 → (b.getD k 0) ≤ 1 := by omega
       obtain ⟨v, hv⟩ : ∃ v, u + ((b.getD k 0) % 128).toNat * 2 ^ (7 * k) = v := ⟨_, rfl⟩
       refine wp_cond_false (Hz.ev (x := .tmp 30) rfl) ?_
       refine wp_skip ?_
       refine hK4 _ _ ?_; clear hK4; try clear K4
       replace Hz : Has 53 [(0, _), (4, _), (10, _), (11, _), (12, _), (5, _), (6, _), (19, _), (23, _), (26, _), (30, _)] Az := Hz.only [0, 4, 10, 11, 12, 5, 6, 19, 23, 26, 30]
       refine regS Hz (.move rfl <| .move rfl <| .c rfl (fun _ h_ => y_andNot h_ rfl rfl (r := (b.getD k 0) % 128) (andNot128 _ hxb.1 hxb.2)) <| .conv rfl Tryd.underlying5 Tryd.underlying66 (r := (b.getD k 0) % 128) (IntWalk.u64_in _ (by omega)) <| .move rfl <| .mul rfl rfl (r := 7 * (k : Int)) (IntWalk.i64_in _ (by omega)) <| .shl rfl rfl (by omega) (r := IntKind.u64.wrap ((b.getD k 0) % 128 * 2 ^ (7 * k))) (by rw [shx hk9]) <| .or rfl rfl (r := (v : Int)) (by rw [← hv]; exact or_shift u k (b.getD k 0) hu hk9 hxb.1 hxb.2 h9) <| .assign rfl <| .nil) ?_
       clear Hz Az; intro Az Hz
       replace Hz : Has 53 [(0, _), (4, _), (10, _), (11, _), (12, _), (5, _), (6, _), (19, _), (23, _), (26, _), (30, _)] Az := Hz.only [0, 4, 10, 11, 12, 5, 6, 19, 23, 26, 30]
       refine regS Hz (.move rfl <| .lss rfl rfl <| .nil) ?_
       clear Hz Az; intro Az Hz
       refine bool_cases Hz (t := 40) rfl ?_ ?_
       ·
        clear Hz; intro hb68 Hz
        try simp only [Q1x, Q2x, Q3x, Q4x, Q5x, Q6x, Q7x, Q8x, Q9x, Q0x, Qax, Qbx] at hb68
        have hO : dec 0 0 b = .ok v (k + 1) := by rw [← hD, if_neg hno, if_pos (by omega), hv]
        refine wp_cond_true (Hz.ev (x := .tmp 40) rfl) ?_
        refine wp_seq_k (fun K6 hK6 => ?_)
        refine wp_region_lit ?_
        refine goCh Hz (.move rfl <| .move rfl <| .nilCheck rfl <| .fieldAddr (off := 0) rfl Tryd.underlying83 rfl (s := 0) (by kernel_rfl) rfl <| .loadB1 m16 (i := 1) rfl rfl rfl Tryd.underlying26 rfl <| .move rfl <| .add rfl rfl (r := ((k + 1 : Nat) : Int)) (by rw [IntWalk.i64_in _ (by omega)]; omega) <| .nil) ?_
        clear Hz Az; intro Az Hz
        have m84 := m16.dropN (i := 2) rfl (k + 1) (show k + 1 ≤ b.length by omega) 101 rfl; clear m16
        refine goCh Hz (.c rfl (fun _ h_ => y_sliceLn h_ (k + 1) rfl rfl Tryd.underlying26 sz5pno rfl (show k + 1 ≤ b.length by omega)) <| .nilCheck rfl <| .fieldAddr (off := 0) rfl Tryd.underlying83 rfl (s := 0) (by kernel_rfl) rfl <| .nil) ?_
        clear Hz Az; intro Az Hz
        refine wpList_plain rfl (fun K hK => ?_)
        refine e_store1 Hz m84 1 rfl rfl rfl rfl rfl sz26pno (by dsimp only [List.set] <;> rfl) ?_
        clear m84; intro w88 m88 hB88
        clear hB88
        refine hK _ _ ?_; clear hK K
        refine wpList_nil ?_
        refine hK6 _ _ ?_; clear hK6; try clear K6
        replace Hz : Has 53 [(0, _), (4, _), (10, _), (11, _), (12, _), (19, _), (23, _), (26, _), (30, _), (40, _)] Az := Hz.only [0, 4, 10, 11, 12, 19, 23, 26, 30, 40]
        refine regS Hz (.move rfl <| .assign rfl <| .assign rfl <| .nil) ?_
        clear Hz Az; intro Az Hz
        refine wp_ret ?_
        try dsimp only [Exit.then, Exit.inBlock]
        refine (ret2 (fn := Tryd.f48) Hz rfl rfl rfl ?_)
        have hl9 : b.length - (k + 1) = (b.drop (k + 1)).length := by rw [List.length_drop]
        rw [hl9] at m88
        obtain ⟨rfl, rfl⟩ : n = v ∧ j = k + 1 := by rw [hO] at hd; injection hd with q1 q2; exact ⟨q1.symm, q2.symm⟩
        exact ⟨_, _, rfl, m88.ren [(1, 1), (2, 101)] (by decide)⟩
       ·
        clear Hz; intro hb68 Hz
        try simp only [Q1x, Q2x, Q3x, Q4x, Q5x, Q6x, Q7x, Q8x, Q9x, Q0x, Qax, Qbx] at hb68
        refine wp_cond_false (Hz.ev (x := .tmp 40) rfl) ?_
        refine wp_skip ?_
        refine hK2 _ _ ?_; clear hK2; try clear K2
        refine wp_region_lit ?_
        refine goCh Hz (.add rfl rfl (r := ((k + 1 : Nat) : Int)) (by rw [IntWalk.i64_in _ (by omega)]; omega) <| .move rfl <| .nil) ?_
        clear Hz Az; intro Az Hz
        refine wpList_nil ?_
        show ∃ n', n' < _ ∧ _
        exact ⟨b.length - (k + 1), by omega, k + 1, v, by omega, by omega, rfl, by rw [← hv]; exact acc_bound u k (b.getD k 0) hu, by rw [← hD, if_neg hno, if_neg (by omega), hv], Hz.only [0, 4, 10, 11, 12], m16.only [1, 2]⟩
     ·
      clear Hz; intro hb46 Hz
      try simp only [Q1x, Q2x, Q3x, Q4x, Q5x, Q6x, Q7x, Q8x, Q9x, Q0x, Qax, Qbx] at hb46
      have hno : ¬ ((k = 9 ∧ 1 < (b.getD k 0)) ∨ (0 < k ∧ (b.getD k 0) = 0)) := by omega
      have h9 : k = 9 → (b.getD k 0) ≤ 1 := by omega
      obtain ⟨v, hv⟩ : ∃ v, u + ((b.getD k 0) % 128).toNat * 2 ^ (7 * k) = v := ⟨_, rfl⟩
      refine goCh Hz (.sk <| .sk <| .pickFZ rfl rfl <| .pickF rfl rfl <| .nil) ?_
      clear Hz Az; intro Az Hz
      refine wpList_nil ?_
      refine hK5 _ _ ?_; clear hK5; try clear K5
      refine wp_cond_false (Hz.ev (x := .tmp 30) rfl) ?_
      refine wp_skip ?_
      refine hK4 _ _ ?_; clear hK4; try clear K4
      replace Hz : Has 53 [(0, _), (4, _), (10, _), (11, _), (12, _), (5, _), (6, _), (19, _), (23, _), (26, _), (30, _)] Az := Hz.only [0, 4, 10, 11, 12, 5, 6, 19, 23, 26, 30]
      refine regS Hz (.move rfl <| .move rfl <| .c rfl (fun _ h_ => y_andNot h_ rfl rfl (r := (b.getD k 0) % 128) (andNot128 _ hxb.1 hxb.2)) <| .conv rfl Tryd.underlying5 Tryd.underlying66 (r := (b.getD k 0) % 128) (IntWalk.u64_in _ (by omega)) <| .move rfl <| .mul rfl rfl (r := 7 * (k : Int)) (IntWalk.i64_in _ (by omega)) <| .shl rfl rfl (by omega) (r := IntKind.u64.wrap ((b.getD k 0) % 128 * 2 ^ (7 * k))) (by rw [shx hk9]) <| .or rfl rfl (r := (v : Int)) (by rw [← hv]; exact or_shift u k (b.getD k 0) hu hk9 hxb.1 hxb.2 h9) <| .assign rfl <| .nil) ?_
      clear Hz Az; intro Az Hz
      replace Hz : Has 53 [(0, _), (4, _), (10, _), (11, _), (12, _), (5, _), (6, _), (19, _), (23, _), (26, _), (30, _)] Az := Hz.only [0, 4, 10, 11, 12, 5, 6, 19, 23, 26, 30]
      refine regS Hz (.move rfl <| .lss rfl rfl <| .nil) ?_
      clear Hz Az; intro Az Hz
      refine bool_cases Hz (t := 40) rfl ?_ ?_
      ·
       clear Hz; intro hb112 Hz
       try simp only [Q1x, Q2x, Q3x, Q4x, Q5x, Q6x, Q7x, Q8x, Q9x, Q0x, Qax, Qbx] at hb112
       have hO : dec 0 0 b = .ok v (k + 1) := by rw [← hD, if_neg hno, if_pos (by omega), hv]
       refine wp_cond_true (Hz.ev (x := .tmp 40) rfl) ?_
       refine wp_seq_k (fun K7 hK7 => ?_)
       refine wp_region_lit ?_
       refine goCh Hz (.move rfl <| .move rfl <| .nilCheck rfl <| .fieldAddr (off := 0) rfl Tryd.underlying83 rfl (s := 0) (by kernel_rfl) rfl <| .loadB1 m16 (i := 1) rfl rfl rfl Tryd.underlying26 rfl <| .move rfl <| .add rfl rfl (r := ((k + 1 : Nat) : Int)) (by rw [IntWalk.i64_in _ (by omega)]; omega) <| .nil) ?_
       clear Hz Az; intro Az Hz
       have m128 := m16.dropN (i := 2) rfl (k + 1) (show k + 1 ≤ b.length by omega) 101 rfl; clear m16
       refine goCh Hz (.c rfl (fun _ h_ => y_sliceLn h_ (k + 1) rfl rfl Tryd.underlying26 sz5pno rfl (show k + 1 ≤ b.length by omega)) <| .nilCheck rfl <| .fieldAddr (off := 0) rfl Tryd.underlying83 rfl (s := 0) (by kernel_rfl) rfl <| .nil) ?_
       clear Hz Az; intro Az Hz
       refine wpList_plain rfl (fun K hK => ?_)
       refine e_store1 Hz m128 1 rfl rfl rfl rfl rfl sz26pno (by dsimp only [List.set] <;> rfl) ?_
       clear m128; intro w132 m132 hB132
       clear hB132
       refine hK _ _ ?_; clear hK K
       refine wpList_nil ?_
       refine hK7 _ _ ?_; clear hK7; try clear K7
       replace Hz : Has 53 [(0, _), (4, _), (10, _), (11, _), (12, _), (19, _), (23, _), (26, _), (30, _), (40, _)] Az := Hz.only [0, 4, 10, 11, 12, 19, 23, 26, 30, 40]
       refine regS Hz (.move rfl <| .assign rfl <| .assign rfl <| .nil) ?_
       clear Hz Az; intro Az Hz
       refine wp_ret ?_
       try dsimp only [Exit.then, Exit.inBlock]
       refine (ret2 (fn := Tryd.f48) Hz rfl rfl rfl ?_)
       have hl9 : b.length - (k + 1) = (b.drop (k + 1)).length := by rw [List.length_drop]
       rw [hl9] at m132
       obtain ⟨rfl, rfl⟩ : n = v ∧ j = k + 1 := by rw [hO] at hd; injection hd with q1 q2; exact ⟨q1.symm, q2.symm⟩
       exact ⟨_, _, rfl, m132.ren [(1, 1), (2, 101)] (by decide)⟩
      ·
       clear Hz; intro hb112 Hz
       try simp only [Q1x, Q2x, Q3x, Q4x, Q5x, Q6x, Q7x, Q8x, Q9x, Q0x, Qax, Qbx] at hb112
       refine wp_cond_false (Hz.ev (x := .tmp 40) rfl) ?_
       refine wp_skip ?_
       refine hK2 _ _ ?_; clear hK2; try clear K2
       refine wp_region_lit ?_
       refine goCh Hz (.add rfl rfl (r := ((k + 1 : Nat) : Int)) (by rw [IntWalk.i64_in _ (by omega)]; omega) <| .move rfl <| .nil) ?_
       clear Hz Az; intro Az Hz
       refine wpList_nil ?_
       show ∃ n', n' < _ ∧ _
       exact ⟨b.length - (k + 1), by omega, k + 1, v, by omega, by omega, rfl, by rw [← hv]; exact acc_bound u k (b.getD k 0) hu, by rw [← hD, if_neg hno, if_neg (by omega), hv], Hz.only [0, 4, 10, 11, 12], m16.only [1, 2]⟩
   ·
    clear Hz; intro hb27 Hz
    try simp only [Q1x, Q2x, Q3x, Q4x, Q5x, Q6x, Q7x, Q8x, Q9x, Q0x, Qax, Qbx] at hb27
    refine goCh Hz (.sk <| .sk <| .pickF rfl rfl <| .move rfl <| .moveZ rfl <| .gtrZ rfl rfl <| .moveZ rfl <| .nil) ?_
    clear Hz Az; intro Az Hz
    refine bool_cases Hz (t := 26) rfl ?_ ?_
    ·
     clear Hz; intro hb146 Hz
     try simp only [Q1x, Q2x, Q3x, Q4x, Q5x, Q6x, Q7x, Q8x, Q9x, Q0x, Qax, Qbx] at hb146
     refine goCh Hz (.moveZ rfl <| .eqlZ rfl rfl <| .pickTZ rfl rfl <| .pickF rfl rfl <| .nil) ?_
     clear Hz Az; intro Az Hz
     refine wpList_nil ?_
     refine hK5 _ _ ?_; clear hK5; try clear K5
     refine bool_cases Hz (t := 30) rfl ?_ ?_
     ·
      clear Hz; intro hb151 Hz
      try simp only [Q1x, Q2x, Q3x, Q4x, Q5x, Q6x, Q7x, Q8x, Q9x, Q0x, Qax, Qbx] at hb151
      have hE : dec 0 0 b = .err 20 := by rw [← hD, if_pos (by omega)]
      refine wp_cond_true (Hz.ev (x := .tmp 30) rfl) ?_
      replace Hz : Has 53 [(0, _), (4, _), (10, _), (11, _), (12, _), (5, _), (6, _), (19, _), (23, _), (26, _), (30, _)] Az := Hz.only [0, 4, 10, 11, 12, 5, 6, 19, 23, 26, 30]
      refine regS Hz (.assign rfl <| .assign rfl <| .nil) ?_
      clear Hz Az; intro Az Hz
      refine wp_ret ?_
      try dsimp only [Exit.then, Exit.inBlock]
      refine (ret2 (fn := Tryd.f48) Hz rfl rfl rfl ?_)
      rw [hE] at hd; cases hd
     ·
      clear Hz; intro hb151 Hz
      try simp only [Q1x, Q2x, Q3x, Q4x, Q5x, Q6x, Q7x, Q8x, Q9x, Q0x, Qax, Qbx] at hb151
      have hno : ¬ ((k = 9 ∧ 1 < (b.getD k 0)) ∨ (0 < k ∧ (b.getD k 0) = 0)) := by omega
      have h9 : k = 9 → (b.getD k 0) ≤ 1 := by omega
      obtain ⟨v, hv⟩ : ∃ v, u + ((b.getD k 0) % 128).toNat * 2 ^ (7 * k) = v := ⟨_, rfl⟩
      refine wp_cond_false (Hz.ev (x := .tmp 30) rfl) ?_
      refine wp_skip ?_
      refine hK4 _ _ ?_; clear hK4; try clear K4
      replace Hz : Has 53 [(0, _), (4, _), (10, _), (11, _), (12, _), (5, _), (6, _), (19, _), (23, _), (26, _), (30, _)] Az := Hz.only [0, 4, 10, 11, 12, 5, 6, 19, 23, 26, 30]
      refine regS Hz (.move rfl <| .move rfl <| .c rfl (fun _ h_ => y_andNot h_ rfl rfl (r := (b.getD k 0) % 128) (andNot128 _ hxb.1 hxb.2)) <| .conv rfl Tryd.underlying5 Tryd.underlying66 (r := (b.getD k 0) % 128) (IntWalk.u64_in _ (by omega)) <| .move rfl <| .mul rfl rfl (r := 7 * (k : Int)) (IntWalk.i64_in _ (by omega)) <| .shl rfl rfl (by omega) (r := IntKind.u64.wrap ((b.getD k 0) % 128 * 2 ^ (7 * k))) (by rw [shx hk9]) <| .or rfl rfl (r := (v : Int)) (by rw [← hv]; exact or_shift u k (b.getD k 0) hu hk9 hxb.1 hxb.2 h9) <| .assign rfl <| .nil) ?_
      clear Hz Az; intro Az Hz
      replace Hz : Has 53 [(0, _), (4, _), (10, _), (11, _), (12, _), (5, _), (6, _), (19, _), (23, _), (26, _), (30, _)] Az := Hz.only [0, 4, 10, 11, 12, 5, 6, 19, 23, 26, 30]
      refine regS Hz (.move rfl <| .lss rfl rfl <| .nil) ?_
      clear Hz Az; intro Az Hz
      refine bool_cases Hz (t := 40) rfl ?_ ?_
      ·
       clear Hz; intro hb168 Hz
       try simp only [Q1x, Q2x, Q3x, Q4x, Q5x, Q6x, Q7x, Q8x, Q9x, Q0x, Qax, Qbx] at hb168
       have hO : dec 0 0 b = .ok v (k + 1) := by rw [← hD, if_neg hno, if_pos (by omega), hv]
       refine wp_cond_true (Hz.ev (x := .tmp 40) rfl) ?_
       refine wp_seq_k (fun K8 hK8 => ?_)
       refine wp_region_lit ?_
       refine goCh Hz (.move rfl <| .move rfl <| .nilCheck rfl <| .fieldAddr (off := 0) rfl Tryd.underlying83 rfl (s := 0) (by kernel_rfl) rfl <| .loadB1 m16 (i := 1) rfl rfl rfl Tryd.underlying26 rfl <| .move rfl <| .add rfl rfl (r := ((k + 1 : Nat) : Int)) (by rw [IntWalk.i64_in _ (by omega)]; omega) <| .nil) ?_
       clear Hz Az; intro Az Hz
       have m184 := m16.dropN (i := 2) rfl (k + 1) (show k + 1 ≤ b.length by omega) 101 rfl; clear m16
       refine goCh Hz (.c rfl (fun _ h_ => y_sliceLn h_ (k + 1) rfl rfl Tryd.underlying26 sz5pno rfl (show k + 1 ≤ b.length by omega)) <| .nilCheck rfl <| .fieldAddr (off := 0) rfl Tryd.underlying83 rfl (s := 0) (by kernel_rfl) rfl <| .nil) ?_
       clear Hz Az; intro Az Hz
       refine wpList_plain rfl (fun K hK => ?_)
       refine e_store1 Hz m184 1 rfl rfl rfl rfl rfl sz26pno (by dsimp only [List.set] <;> rfl) ?_
       clear m184; intro w188 m188 hB188
       clear hB188
       refine hK _ _ ?_; clear hK K
       refine wpList_nil ?_
       refine hK8 _ _ ?_; clear hK8; try clear K8
       replace Hz : Has 53 [(0, _), (4, _), (10, _), (11, _), (12, _), (19, _), (23, _), (26, _), (30, _), (40, _)] Az := Hz.only [0, 4, 10, 11, 12, 19, 23, 26, 30, 40]
       refine regS Hz (.move rfl <| .assign rfl <| .assign rfl <| .nil) ?_
       clear Hz Az; intro Az Hz
       refine wp_ret ?_
       try dsimp only [Exit.then, Exit.inBlock]
       refine (ret2 (fn := Tryd.f48) Hz rfl rfl rfl ?_)
       have hl9 : b.length - (k + 1) = (b.drop (k + 1)).length := by rw [List.length_drop]
       rw [hl9] at m188
       obtain ⟨rfl, rfl⟩ : n = v ∧ j = k + 1 := by rw [hO] at hd; injection hd with q1 q2; exact ⟨q1.symm, q2.symm⟩
       exact ⟨_, _, rfl, m188.ren [(1, 1), (2, 101)] (by decide)⟩
      ·
       clear Hz; intro hb168 Hz
       try simp only [Q1x, Q2x, Q3x, Q4x, Q5x, Q6x, Q7x, Q8x, Q9x, Q0x, Qax, Qbx] at hb168
       refine wp_cond_false (Hz.ev (x := .tmp 40) rfl) ?_
       refine wp_skip ?_
       refine hK2 _ _ ?_; clear hK2; try clear K2
       refine wp_region_lit ?_
       refine goCh Hz (.add rfl rfl (r := ((k + 1 : Nat) : Int)) (by rw [IntWalk.i64_in _ (by omega)]; omega) <| .move rfl <| .nil) ?_
       clear Hz Az; intro Az Hz
       refine wpList_nil ?_
       show ∃ n', n' < _ ∧ _
       exact ⟨b.length - (k + 1), by omega, k + 1, v, by omega, by omega, rfl, by rw [← hv]; exact acc_bound u k (b.getD k 0) hu, by rw [← hD, if_neg hno, if_neg (by omega), hv], Hz.only [0, 4, 10, 11, 12], m16.only [1, 2]⟩
    ·
     clear Hz; intro hb146 Hz
     try simp only [Q1x, Q2x, Q3x, Q4x, Q5x, Q6x, Q7x, Q8x, Q9x, Q0x, Qax, Qbx] at hb146
     have hno : ¬ ((k = 9 ∧ 1 < (b.getD k 0)) ∨ (0 < k ∧ (b.getD k 0) = 0)) := by omega
     have h9 : k = 9 → (b.getD k 0) ≤ 1 := by omega
     obtain ⟨v, hv⟩ : ∃ v, u + ((b.getD k 0) % 128).toNat * 2 ^ (7 * k) = v := ⟨_, rfl⟩
     refine goCh Hz (.sk <| .sk <| .pickFZ rfl rfl <| .pickF rfl rfl <| .nil) ?_
     clear Hz Az; intro Az Hz
     refine wpList_nil ?_
     refine hK5 _ _ ?_; clear hK5; try clear K5
     refine wp_cond_false (Hz.ev (x := .tmp 30) rfl) ?_
     refine wp_skip ?_
     refine hK4 _ _ ?_; clear hK4; try clear K4
     replace Hz : Has 53 [(0, _), (4, _), (10, _), (11, _), (12, _), (5, _), (6, _), (19, _), (23, _), (26, _), (30, _)] Az := Hz.only [0, 4, 10, 11, 12, 5, 6, 19, 23, 26, 30]
     refine regS Hz (.move rfl <| .move rfl <| .c rfl (fun _ h_ => y_andNot h_ rfl rfl (r := (b.getD k 0) % 128) (andNot128 _ hxb.1 hxb.2)) <| .conv rfl Tryd.underlying5 Tryd.underlying66 (r := (b.getD k 0) % 128) (IntWalk.u64_in _ (by omega)) <| .move rfl <| .mul rfl rfl (r := 7 * (k : Int)) (IntWalk.i64_in _ (by omega)) <| .shl rfl rfl (by omega) (r := IntKind.u64.wrap ((b.getD k 0) % 128 * 2 ^ (7 * k))) (by rw [shx hk9]) <| .or rfl rfl (r := (v : Int)) (by rw [← hv]; exact or_shift u k (b.getD k 0) hu hk9 hxb.1 hxb.2 h9) <| .assign rfl <| .nil) ?_
     clear Hz Az; intro Az Hz
     replace Hz : Has 53 [(0, _), (4, _), (10, _), (11, _), (12, _), (5, _), (6, _), (19, _), (23, _), (26, _), (30, _)] Az := Hz.only [0, 4, 10, 11, 12, 5, 6, 19, 23, 26, 30]
     refine regS Hz (.move rfl <| .lss rfl rfl <| .nil) ?_
     clear Hz Az; intro Az Hz
     refine bool_cases Hz (t := 40) rfl ?_ ?_
     ·
      clear Hz; intro hb212 Hz
      try simp only [Q1x, Q2x, Q3x, Q4x, Q5x, Q6x, Q7x, Q8x, Q9x, Q0x, Qax, Qbx] at hb212
      have hO : dec 0 0 b = .ok v (k + 1) := by rw [← hD, if_neg hno, if_pos (by omega), hv]
      refine wp_cond_true (Hz.ev (x := .tmp 40) rfl) ?_
      refine wp_seq_k (fun K9 hK9 => ?_)
      refine wp_region_lit ?_
      refine goCh Hz (.move rfl <| .move rfl <| .nilCheck rfl <| .fieldAddr (off := 0) rfl Tryd.underlying83 rfl (s := 0) (by kernel_rfl) rfl <| .loadB1 m16 (i := 1) rfl rfl rfl Tryd.underlying26 rfl <| .move rfl <| .add rfl rfl (r := ((k + 1 : Nat) : Int)) (by rw [IntWalk.i64_in _ (by omega)]; omega) <| .nil) ?_
      clear Hz Az; intro Az Hz
      have m228 := m16.dropN (i := 2) rfl (k + 1) (show k + 1 ≤ b.length by omega) 101 rfl; clear m16
      refine goCh Hz (.c rfl (fun _ h_ => y_sliceLn h_ (k + 1) rfl rfl Tryd.underlying26 sz5pno rfl (show k + 1 ≤ b.length by omega)) <| .nilCheck rfl <| .fieldAddr (off := 0) rfl Tryd.underlying83 rfl (s := 0) (by kernel_rfl) rfl <| .nil) ?_
      clear Hz Az; intro Az Hz
      refine wpList_plain rfl (fun K hK => ?_)
      refine e_store1 Hz m228 1 rfl rfl rfl rfl rfl sz26pno (by dsimp only [List.set] <;> rfl) ?_
      clear m228; intro w232 m232 hB232
      clear hB232
      refine hK _ _ ?_; clear hK K
      refine wpList_nil ?_
      refine hK9 _ _ ?_; clear hK9; try clear K9
      replace Hz : Has 53 [(0, _), (4, _), (10, _), (11, _), (12, _), (19, _), (23, _), (26, _), (30, _), (40, _)] Az := Hz.only [0, 4, 10, 11, 12, 19, 23, 26, 30, 40]
      refine regS Hz (.move rfl <| .assign rfl <| .assign rfl <| .nil) ?_
      clear Hz Az; intro Az Hz
      refine wp_ret ?_
      try dsimp only [Exit.then, Exit.inBlock]
      refine (ret2 (fn := Tryd.f48) Hz rfl rfl rfl ?_)
      have hl9 : b.length - (k + 1) = (b.drop (k + 1)).length := by rw [List.length_drop]
      rw [hl9] at m232
      obtain ⟨rfl, rfl⟩ : n = v ∧ j = k + 1 := by rw [hO] at hd; injection hd with q1 q2; exact ⟨q1.symm, q2.symm⟩
      exact ⟨_, _, rfl, m232.ren [(1, 1), (2, 101)] (by decide)⟩
     ·
      clear Hz; intro hb212 Hz
      try simp only [Q1x, Q2x, Q3x, Q4x, Q5x, Q6x, Q7x, Q8x, Q9x, Q0x, Qax, Qbx] at hb212
      refine wp_cond_false (Hz.ev (x := .tmp 40) rfl) ?_
      refine wp_skip ?_
      refine hK2 _ _ ?_; clear hK2; try clear K2
      refine wp_region_lit ?_
      refine goCh Hz (.add rfl rfl (r := ((k + 1 : Nat) : Int)) (by rw [IntWalk.i64_in _ (by omega)]; omega) <| .move rfl <| .nil) ?_
      clear Hz Az; intro Az Hz
      refine wpList_nil ?_
      show ∃ n', n' < _ ∧ _
      exact ⟨b.length - (k + 1), by omega, k + 1, v, by omega, by omega, rfl, by rw [← hv]; exact acc_bound u k (b.getD k 0) hu, by rw [← hD, if_neg hno, if_neg (by omega), hv], Hz.only [0, 4, 10, 11, 12], m16.only [1, 2]⟩
  ·
   clear Hz; intro hb12 Hz
   try simp only [Q1x, Q2x, Q3x, Q4x, Q5x, Q6x, Q7x, Q8x, Q9x, Q0x, Qax, Qbx] at hb12
   obtain rfl : k = b.length := by omega
   have hE : dec 0 0 b = .err 21 := by rw [← hD0, List.drop_length]; rfl
   refine wp_cond_false (Hz.ev (x := .tmp 13) rfl) ?_
   refine wp_exit ?_
   refine hK0 _ _ ?_; clear hK0; try clear K0
   refine regS Hz (.assign rfl <| .assign rfl <| .nil) ?_
   clear Hz Az; intro Az Hz
   refine wp_ret ?_
   try dsimp only [Exit.then, Exit.inBlock]
   refine (ret2 (fn := Tryd.f48) Hz rfl rfl rfl ?_)
   rw [hE] at hd; cases hd
theorem pnumber_err (X : Cx) (B : Nat) (b : List Int) (er : Int) (p : Option Addr) (c : Nat) (w0 : World) (er1 : Int) (hb : b.length ≤ 1000000) (hbb : BytesL b) (hd : dec 0 0 b = .err er1) (m0 : MemOk X w0 [(1, .box B 85 [.slice p (b).length c, .int .i64 er]), (2, .dat (.slice p (b).length c) (.ns .u8 (b)))] w0) :
   Calls Tryd.prog 48 #[.pointer (some ⟨B, 0, none⟩)] w0 fun e w' => e = .returned (.tuple #[.int .u64 0, .int .i64 er1]) ∧ MemOk X w0 [(1, .box B 85 [.slice p (b).length c, .int .i64 er]), (2, .dat (.slice p (b).length c) (.ns .u8 (b)))] w' := by
 refine enter (fn := Tryd.f48) Tryd.func48 rfl Tryd.ntmps48 rfl (fun Az Hz => ?_)
 simp only [List.zipIdx_cons, List.zipIdx_nil, List.map_cons, List.map_nil, Nat.reduceAdd, Nat.zero_add] at Hz
 refine regS Hz (.assign rfl <| .assign rfl <| .nil) ?_
 clear Hz Az; intro Az Hz
 refine regS Hz (.assign rfl <| .nil) ?_
 clear Hz Az; intro Az Hz
 refine wp_seq_k (fun K0 hK0 => ?_)
 refine regS Hz (.move rfl <| .nilCheck rfl <| .fieldAddr (off := 0) rfl Tryd.underlying83 rfl (s := 0) (by kernel_rfl) rfl <| .loadB1 m0 (i := 1) rfl rfl rfl Tryd.underlying26 rfl <| .len rfl Tryd.underlying26 <| .move rfl <| .nil) ?_
 clear Hz Az; intro Az Hz
 refine wp_block ?_
 refine wp_loop_ghost (fun g a w => ∃ (k u : Nat), k ≤ b.length ∧ k ≤ 9 ∧ g = b.length - k ∧ u < 2 ^ (7 * k) ∧ dec u k (b.drop k) = dec 0 0 b ∧ Has 53 [(0, .pointer (some ⟨B, 0, none⟩)), (4, .int .u64 (u : Int)), (10, .slice p b.length c), (11, .int .i64 b.length), (12, .int .i64 k)] a ∧ MemOk X w0 [(1, .box B 85 [.slice p (b).length c, .int .i64 er]), (2, .dat (.slice p (b).length c) (.ns .u8 (b)))] w) (b.length) ?_ ?_
 · exact ⟨0, 0, Nat.zero_le _, Nat.zero_le _, rfl, by decide, rfl, Hz.only [0, 4, 10, 11, 12], m0.only [1, 2]⟩
 ·
  clear Hz m0
  rintro g Az w10 ⟨k, u, hkl, hk9, hg, hu, hD0, Hz, m10⟩
  refine regS Hz (.lss rfl rfl <| .nil) ?_
  clear Hz Az; intro Az Hz
  refine wp_seq_k (fun K1 hK1 => ?_)
  refine bool_cases Hz (t := 13) rfl ?_ ?_
  ·
   clear Hz; intro hb12 Hz
   try simp only [Q1x, Q2x, Q3x, Q4x, Q5x, Q6x, Q7x, Q8x, Q9x, Q0x, Qax, Qbx] at hb12
   have hk : k < b.length := by omega
   have hxb := getD_bd hbb hk
   have hD := hD0
   rw [dec_at hk] at hD
   refine wp_cond_true (Hz.ev (x := .tmp 13) rfl) ?_
   refine wp_skip ?_
   refine hK1 _ _ ?_; clear hK1; try clear K1
   refine wp_seq_k (fun K2 hK2 => ?_)
   refine wp_block ?_
   refine wp_seq_k (fun K3 hK3 => ?_)
   refine wp_region_lit ?_
   refine goCh Hz (.move rfl .nil) ?_
   clear Hz Az; intro Az Hz
   obtain ⟨b16, o16, hp16, m16⟩ := m10.openN (i := 2) rfl (k) hk 100 rfl
   cases hp16; clear m10
   refine goCh Hz (.c rfl (fun _ h_ => y_idx h_ rfl rfl Tryd.underlying26 sz5pne (k) rfl hk) <| .loadC0 m16 (i := 100) rfl rfl Tryd.underlying5 rfl <| .assign rfl <| .assign rfl <| .nil) ?_
   clear Hz Az; intro Az Hz
   refine wpList_nil ?_
   refine hK3 _ _ ?_; clear hK3; try clear K3
   refine wp_seq_k (fun K4 hK4 => ?_)
   refine wp_seq_k (fun K5 hK5 => ?_)
   refine wp_region_lit ?_
   refine goCh Hz (.move rfl <| .eql rfl rfl <| .move rfl <| .nil) ?_
   clear Hz Az; intro Az Hz
   refine bool_cases Hz (t := 19) rfl ?_ ?_
   ·
    clear Hz; intro hb27 Hz
    try simp only [Q1x, Q2x, Q3x, Q4x, Q5x, Q6x, Q7x, Q8x, Q9x, Q0x, Qax, Qbx] at hb27
    refine goCh Hz (.moveZ rfl <| .gtrZ rfl rfl <| .pickT rfl rfl <| .move rfl <| .nil) ?_
    clear Hz Az; intro Az Hz
    refine bool_cases Hz (t := 23) rfl ?_ ?_
    ·
     clear Hz; intro hb32 Hz
     try simp only [Q1x, Q2x, Q3x, Q4x, Q5x, Q6x, Q7x, Q8x, Q9x, Q0x, Qax, Qbx] at hb32
     have hE : dec 0 0 b = .err 20 := by rw [← hD, if_pos (by omega)]
     refine goCh Hz (.sk <| .sk <| .sk <| .nil) ?_
     clear Hz Az; intro Az Hz
     refine st_skipU Hz rfl rfl rfl rfl ?_
     clear Hz Az; intro Az Hz
     refine st_skipU Hz rfl rfl rfl rfl ?_
     clear Hz Az; intro Az Hz
     refine goCh Hz (.sk <| .pickT rfl rfl <| .nil) ?_
     clear Hz Az; intro Az Hz
     refine wpList_nil ?_
     refine hK5 _ _ ?_; clear hK5; try clear K5
     refine wp_cond_true (Hz.ev (x := .tmp 30) rfl) ?_
     replace Hz : Has 53 [(0, _), (4, _), (10, _), (11, _), (12, _), (5, _), (6, _), (19, _), (23, _), (26, _), (30, _)] Az := Hz.only [0, 4, 10, 11, 12, 5, 6, 19, 23, 26, 30]
     refine regS Hz (.assign rfl <| .assign rfl <| .nil) ?_
     clear Hz Az; intro Az Hz
     refine wp_ret ?_
     try dsimp only [Exit.then, Exit.inBlock]
     refine (ret2 (fn := Tryd.f48) Hz rfl rfl rfl ?_)
     rw [hE] at hd
     injection hd with hd
     subst hd
     exact ⟨rfl, m16.ren [(1, 1), (2, 2)] (by decide)⟩
    ·
     clear Hz; intro hb32 Hz
     try simp only [Q1x, Q2x, Q3x, Q4x, Q5x, Q6x, Q7x, Q8x, Q9x, Q0x, Qax, Qbx] at hb32
     refine goCh Hz (.moveZ rfl <| .gtrZ rfl rfl <| .moveZ rfl <| .nil) ?_
     clear Hz Az; intro Az Hz
     refine bool_cases Hz (t := 26) rfl ?_ ?_
     ·
      clear Hz; intro hb46 Hz
      try simp only [Q1x, Q2x, Q3x, Q4x, Q5x, Q6x, Q7x, Q8x, Q9x, Q0x, Qax, Qbx] at hb46
      refine goCh Hz (.moveZ rfl <| .eqlZ rfl rfl <| .pickTZ rfl rfl <| .pickF rfl rfl <| .nil) ?_
      clear Hz Az; intro Az Hz
      refine wpList_nil ?_
      refine hK5 _ _ ?_; clear hK5; try clear K5
      refine bool_cases Hz (t := 30) rfl ?_ ?_
      ·
       clear Hz; intro hb51 Hz
       try simp only [Q1x, Q2x, Q3x, Q4x, Q5x, Q6x, Q7x, Q8x, Q9x, Q0x, Qax, Qbx] at hb51
       have hE : dec 0 0 b = .err 20 := by rw [← hD, if_pos (by omega)]
       refine wp_cond_true (Hz.ev (x := .tmp 30) rfl) ?_
       replace Hz : Has 53 [(0, _), (4, _), (10, _), (11, _), (12, _), (5, _), (6, _), (19, _), (23, _), (26, _), (30, _)] Az := Hz.only [0, 4, 10, 11, 12, 5, 6, 19, 23, 26, 30]
       refine regS Hz (.assign rfl <| .assign rfl <| .nil) ?_
       clear Hz Az; intro Az Hz
       refine wp_ret ?_
       try dsimp only [Exit.then, Exit.inBlock]
       refine (ret2 (fn := Tryd.f48) Hz rfl rfl rfl ?_)
       rw [hE] at hd
       injection hd with hd
       subst hd
       exact ⟨rfl, m16.ren [(1, 1), (2, 2)] (by decide)⟩
      ·
       clear Hz; intro hb51 Hz
       try simp only [Q1x, Q2x, Q3x, Q4x, Q5x, Q6x, Q7x, Q8x, Q9x, Q0x, Qax, Qbx] at hb51
       have hno : ¬ ((k = 9 ∧ 1 < (b.getD k 0)) ∨ (0 < k ∧ (b.getD k 0) = 0)) := by omega
       have h9 : k = 9 → (b.getD k 0) ≤ 1 := by omega
       obtain ⟨v, hv⟩ : ∃ v, u + ((b.getD k 0) % 128).toNat * 2 ^ (7 * k) = v := ⟨_, rfl⟩
       refine wp_cond_false (Hz.ev (x := .tmp 30) rfl) ?_
       refine wp_skip ?_
       refine hK4 _ _ ?_; clear hK4; try clear K4
       replace Hz : Has 53 [(0, _), (4, _), (10, _), (11, _), (12, _), (5, _), (6, _), (19, _), (23, _), (26, _), (30, _)] Az := Hz.only [0, 4, 10, 11, 12, 5, 6, 19, 23, 26, 30]
       refine regS Hz (.move rfl <| .move rfl <| .c rfl (fun _ h_ => y_andNot h_ rfl rfl (r := (b.getD k 0) % 128) (andNot128 _ hxb.1 hxb.2)) <| .conv rfl Tryd.underlying5 Tryd.underlying66 (r := (b.getD k 0) % 128) (IntWalk.u64_in _ (by omega)) <| .move rfl <| .mul rfl rfl (r := 7 * (k : Int)) (IntWalk.i64_in _ (by omega)) <| .shl rfl rfl (by omega) (r := IntKind.u64.wrap ((b.getD k 0) % 128 * 2 ^ (7 * k))) (by rw [shx hk9]) <| .or rfl rfl (r := (v : Int)) (by rw [← hv]; exact or_shift u k (b.getD k 0) hu hk9 hxb.1 hxb.2 h9) <| .assign rfl <| .nil) ?_
       clear Hz Az; intro Az Hz
       replace Hz : Has 53 [(0, _), (4, _), (10, _), (11, _), (12, _), (5, _), (6, _), (19, _), (23, _), (26, _), (30, _)] Az := Hz.only [0, 4, 10, 11, 12, 5, 6, 19, 23, 26, 30]
       refine regS Hz (.move rfl <| .lss rfl rfl <| .nil) ?_
       clear Hz Az; intro Az Hz
       refine bool_cases Hz (t := 40) rfl ?_ ?_
       ·
        clear Hz; intro hb68 Hz
        try simp only [Q1x, Q2x, Q3x, Q4x, Q5x, Q6x, Q7x, Q8x, Q9x, Q0x, Qax, Qbx] at hb68
        have hO : dec 0 0 b = .ok v (k + 1) := by rw [← hD, if_neg hno, if_pos (by omega), hv]
        refine wp_cond_true (Hz.ev (x := .tmp 40) rfl) ?_
        refine wp_seq_k (fun K6 hK6 => ?_)
        refine wp_region_lit ?_
        refine goCh Hz (.move rfl <| .move rfl <| .nilCheck rfl <| .fieldAddr (off := 0) rfl Tryd.underlying83 rfl (s := 0) (by kernel_rfl) rfl <| .loadB1 m16 (i := 1) rfl rfl rfl Tryd.underlying26 rfl <| .move rfl <| .add rfl rfl (r := ((k + 1 : Nat) : Int)) (by rw [IntWalk.i64_in _ (by omega)]; omega) <| .nil) ?_
        clear Hz Az; intro Az Hz
        have m84 := m16.dropN (i := 2) rfl (k + 1) (show k + 1 ≤ b.length by omega) 101 rfl; clear m16
        refine goCh Hz (.c rfl (fun _ h_ => y_sliceLn h_ (k + 1) rfl rfl Tryd.underlying26 sz5pne rfl (show k + 1 ≤ b.length by omega)) <| .nilCheck rfl <| .fieldAddr (off := 0) rfl Tryd.underlying83 rfl (s := 0) (by kernel_rfl) rfl <| .nil) ?_
        clear Hz Az; intro Az Hz
        refine wpList_plain rfl (fun K hK => ?_)
        refine e_store1 Hz m84 1 rfl rfl rfl rfl rfl sz26pne (by dsimp only [List.set] <;> rfl) ?_
        clear m84; intro w88 m88 hB88
        clear hB88
        refine hK _ _ ?_; clear hK K
        refine wpList_nil ?_
        refine hK6 _ _ ?_; clear hK6; try clear K6
        replace Hz : Has 53 [(0, _), (4, _), (10, _), (11, _), (12, _), (19, _), (23, _), (26, _), (30, _), (40, _)] Az := Hz.only [0, 4, 10, 11, 12, 19, 23, 26, 30, 40]
        refine regS Hz (.move rfl <| .assign rfl <| .assign rfl <| .nil) ?_
        clear Hz Az; intro Az Hz
        refine wp_ret ?_
        try dsimp only [Exit.then, Exit.inBlock]
        refine (ret2 (fn := Tryd.f48) Hz rfl rfl rfl ?_)
        rw [hO] at hd; cases hd
       ·
        clear Hz; intro hb68 Hz
        try simp only [Q1x, Q2x, Q3x, Q4x, Q5x, Q6x, Q7x, Q8x, Q9x, Q0x, Qax, Qbx] at hb68
        refine wp_cond_false (Hz.ev (x := .tmp 40) rfl) ?_
        refine wp_skip ?_
        refine hK2 _ _ ?_; clear hK2; try clear K2
        refine wp_region_lit ?_
        refine goCh Hz (.add rfl rfl (r := ((k + 1 : Nat) : Int)) (by rw [IntWalk.i64_in _ (by omega)]; omega) <| .move rfl <| .nil) ?_
        clear Hz Az; intro Az Hz
        refine wpList_nil ?_
        show ∃ n', n' < _ ∧ _
        exact ⟨b.length - (k + 1), by omega, k + 1, v, by omega, by omega, rfl, by rw [← hv]; exact acc_bound u k (b.getD k 0) hu, by rw [← hD, if_neg hno, if_neg (by omega), hv], Hz.only [0, 4, 10, 11, 12], m16.only [1, 2]⟩
     ·
      clear Hz; intro hb46 Hz
      try simp only [Q1x, Q2x, Q3x, Q4x, Q5x, Q6x, Q7x, Q8x, Q9x, Q0x, Qax, Qbx] at hb46
      have hno : ¬ ((k = 9 ∧ 1 < (b.getD k 0)) ∨ (0 < k ∧ (b.getD k 0) = 0)) := by omega
      have h9 : k = 9 → (b.getD k 0) ≤ 1 := by omega
      obtain ⟨v, hv⟩ : ∃ v, u + ((b.getD k 0) % 128).toNat * 2 ^ (7 * k) = v := ⟨_, rfl⟩
      refine goCh Hz (.sk <| .sk <| .pickFZ rfl rfl <| .pickF rfl rfl <| .nil) ?_
      clear Hz Az; intro Az Hz
      refine wpList_nil ?_
      refine hK5 _ _ ?_; clear hK5; try clear K5
      refine wp_cond_false (Hz.ev (x := .tmp 30) rfl) ?_
      refine wp_skip ?_
      refine hK4 _ _ ?_; clear hK4; try clear K4
      replace Hz : Has 53 [(0, _), (4, _), (10, _), (11, _), (12, _), (5, _), (6, _), (19, _), (23, _), (26, _), (30, _)] Az := Hz.only [0, 4, 10, 11, 12, 5, 6, 19, 23, 26, 30]
      refine regS Hz (.move rfl <| .move rfl <| .c rfl (fun _ h_ => y_andNot h_ rfl rfl (r := (b.getD k 0) % 128) (andNot128 _ hxb.1 hxb.2)) <| .conv rfl Tryd.underlying5 Tryd.underlying66 (r := (b.getD k 0) % 128) (IntWalk.u64_in _ (by omega)) <| .move rfl <| .mul rfl rfl (r := 7 * (k : Int)) (IntWalk.i64_in _ (by omega)) <| .shl rfl rfl (by omega) (r := IntKind.u64.wrap ((b.getD k 0) % 128 * 2 ^ (7 * k))) (by rw [shx hk9]) <| .or rfl rfl (r := (v : Int)) (by rw [← hv]; exact or_shift u k (b.getD k 0) hu hk9 hxb.1 hxb.2 h9) <| .assign rfl <| .nil) ?_
      clear Hz Az; intro Az Hz
      replace Hz : Has 53 [(0, _), (4, _), (10, _), (11, _), (12, _), (5, _), (6, _), (19, _), (23, _), (26, _), (30, _)] Az := Hz.only [0, 4, 10, 11, 12, 5, 6, 19, 23, 26, 30]
      refine regS Hz (.move rfl <| .lss rfl rfl <| .nil) ?_
      clear Hz Az; intro Az Hz
      refine bool_cases Hz (t := 40) rfl ?_ ?_
      ·
       clear Hz; intro hb112 Hz
       try simp only [Q1x, Q2x, Q3x, Q4x, Q5x, Q6x, Q7x, Q8x, Q9x, Q0x, Qax, Qbx] at hb112
       have hO : dec 0 0 b = .ok v (k + 1) := by rw [← hD, if_neg hno, if_pos (by omega), hv]
       refine wp_cond_true (Hz.ev (x := .tmp 40) rfl) ?_
       refine wp_seq_k (fun K7 hK7 => ?_)
       refine wp_region_lit ?_
       refine goCh Hz (.move rfl <| .move rfl <| .nilCheck rfl <| .fieldAddr (off := 0) rfl Tryd.underlying83 rfl (s := 0) (by kernel_rfl) rfl <| .loadB1 m16 (i := 1) rfl rfl rfl Tryd.underlying26 rfl <| .move rfl <| .add rfl rfl (r := ((k + 1 : Nat) : Int)) (by rw [IntWalk.i64_in _ (by omega)]; omega) <| .nil) ?_
       clear Hz Az; intro Az Hz
       have m128 := m16.dropN (i := 2) rfl (k + 1) (show k + 1 ≤ b.length by omega) 101 rfl; clear m16
       refine goCh Hz (.c rfl (fun _ h_ => y_sliceLn h_ (k + 1) rfl rfl Tryd.underlying26 sz5pne rfl (show k + 1 ≤ b.length by omega)) <| .nilCheck rfl <| .fieldAddr (off := 0) rfl Tryd.underlying83 rfl (s := 0) (by kernel_rfl) rfl <| .nil) ?_
       clear Hz Az; intro Az Hz
       refine wpList_plain rfl (fun K hK => ?_)
       refine e_store1 Hz m128 1 rfl rfl rfl rfl rfl sz26pne (by dsimp only [List.set] <;> rfl) ?_
       clear m128; intro w132 m132 hB132
       clear hB132
       refine hK _ _ ?_; clear hK K
       refine wpList_nil ?_
       refine hK7 _ _ ?_; clear hK7; try clear K7
       replace Hz : Has 53 [(0, _), (4, _), (10, _), (11, _), (12, _), (19, _), (23, _), (26, _), (30, _), (40, _)] Az := Hz.only [0, 4, 10, 11, 12, 19, 23, 26, 30, 40]
       refine regS Hz (.move rfl <| .assign rfl <| .assign rfl <| .nil) ?_
       clear Hz Az; intro Az Hz
       refine wp_ret ?_
       try dsimp only [Exit.then, Exit.inBlock]
       refine (ret2 (fn := Tryd.f48) Hz rfl rfl rfl ?_)
       rw [hO] at hd; cases hd
      ·
       clear Hz; intro hb112 Hz
       try simp only [Q1x, Q2x, Q3x, Q4x, Q5x, Q6x, Q7x, Q8x, Q9x, Q0x, Qax, Qbx] at hb112
       refine wp_cond_false (Hz.ev (x := .tmp 40) rfl) ?_
       refine wp_skip ?_
       refine hK2 _ _ ?_; clear hK2; try clear K2
       refine wp_region_lit ?_
       refine goCh Hz (.add rfl rfl (r := ((k + 1 : Nat) : Int)) (by rw [IntWalk.i64_in _ (by omega)]; omega) <| .move rfl <| .nil) ?_
       clear Hz Az; intro Az Hz
       refine wpList_nil ?_
       show ∃ n', n' < _ ∧ _
       exact ⟨b.length - (k + 1), by omega, k + 1, v, by omega, by omega, rfl, by rw [← hv]; exact acc_bound u k (b.getD k 0) hu, by rw [← hD, if_neg hno, if_neg (by omega), hv], Hz.only [0, 4, 10, 11, 12], m16.only [1, 2]⟩
   ·
    clear Hz; intro hb27 Hz
    try simp only [Q1x, Q2x, Q3x, Q4x, Q5x, Q6x, Q7x, Q8x, Q9x, Q0x, Qax, Qbx] at hb27
    refine goCh Hz (.sk <| .sk <| .pickF rfl rfl <| .move rfl <| .moveZ rfl <| .gtrZ rfl rfl <| .moveZ rfl <| .nil) ?_
    clear Hz Az; intro Az Hz
    refine bool_cases Hz (t := 26) rfl ?_ ?_
    ·
     clear Hz; intro hb146 Hz
     try simp only [Q1x, Q2x, Q3x, Q4x, Q5x, Q6x, Q7x, Q8x, Q9x, Q0x, Qax, Qbx] at hb146
     refine goCh Hz (.moveZ rfl <| .eqlZ rfl rfl <| .pickTZ rfl rfl <| .pickF rfl rfl <| .nil) ?_
     clear Hz Az; intro Az Hz
     refine wpList_nil ?_
     refine hK5 _ _ ?_; clear hK5; try clear K5
     refine bool_cases Hz (t := 30) rfl ?_ ?_
     ·
      clear Hz; intro hb151 Hz
      try simp only [Q1x, Q2x, Q3x, Q4x, Q5x, Q6x, Q7x, Q8x, Q9x, Q0x, Qax, Qbx] at hb151
      have hE : dec 0 0 b = .err 20 := by rw [← hD, if_pos (by omega)]
      refine wp_cond_true (Hz.ev (x := .tmp 30) rfl) ?_
      replace Hz : Has 53 [(0, _), (4, _), (10, _), (11, _), (12, _), (5, _), (6, _), (19, _), (23, _), (26, _), (30, _)] Az := Hz.only [0, 4, 10, 11, 12, 5, 6, 19, 23, 26, 30]
      refine regS Hz (.assign rfl <| .assign rfl <| .nil) ?_
      clear Hz Az; intro Az Hz
      refine wp_ret ?_
      try dsimp only [Exit.then, Exit.inBlock]
      refine (ret2 (fn := Tryd.f48) Hz rfl rfl rfl ?_)
      rw [hE] at hd
      injection hd with hd
      subst hd
      exact ⟨rfl, m16.ren [(1, 1), (2, 2)] (by decide)⟩
     ·
      clear Hz; intro hb151 Hz
      try simp only [Q1x, Q2x, Q3x, Q4x, Q5x, Q6x, Q7x, Q8x, Q9x, Q0x, Qax, Qbx] at hb151
      have hno : ¬ ((k = 9 ∧ 1 < (b.getD k 0)) ∨ (0 < k ∧ (b.getD k 0) = 0)) := by omega
      have h9 : k = 9 → (b.getD k 0) ≤ 1 := by omega
      obtain ⟨v, hv⟩ : ∃ v, u + ((b.getD k 0) % 128).toNat * 2 ^ (7 * k) = v := ⟨_, rfl⟩
      refine wp_cond_false (Hz.ev (x := .tmp 30) rfl) ?_
      refine wp_skip ?_
      refine hK4 _ _ ?_; clear hK4; try clear K4
      replace Hz : Has 53 [(0, _), (4, _), (10, _), (11, _), (12, _), (5, _), (6, _), (19, _), (23, _), (26, _), (30, _)] Az := Hz.only [0, 4, 10, 11, 12, 5, 6, 19, 23, 26, 30]
      refine regS Hz (.move rfl <| .move rfl <| .c rfl (fun _ h_ => y_andNot h_ rfl rfl (r := (b.getD k 0) % 128) (andNot128 _ hxb.1 hxb.2)) <| .conv rfl Tryd.underlying5 Tryd.underlying66 (r := (b.getD k 0) % 128) (IntWalk.u64_in _ (by omega)) <| .move rfl <| .mul rfl rfl (r := 7 * (k : Int)) (IntWalk.i64_in _ (by omega)) <| .shl rfl rfl (by omega) (r := IntKind.u64.wrap ((b.getD k 0) % 128 * 2 ^ (7 * k))) (by rw [shx hk9]) <| .or rfl rfl (r := (v : Int)) (by rw [← hv]; exact or_shift u k (b.getD k 0) hu hk9 hxb.1 hxb.2 h9) <| .assign rfl <| .nil) ?_
      clear Hz Az; intro Az Hz
      replace Hz : Has 53 [(0, _), (4, _), (10, _), (11, _), (12, _), (5, _), (6, _), (19, _), (23, _), (26, _), (30, _)] Az := Hz.only [0, 4, 10, 11, 12, 5, 6, 19, 23, 26, 30]
      refine regS Hz (.move rfl <| .lss rfl rfl <| .nil) ?_
      clear Hz Az; intro Az Hz
      refine bool_cases Hz (t := 40) rfl ?_ ?_
      ·
       clear Hz; intro hb168 Hz
       try simp only [Q1x, Q2x, Q3x, Q4x, Q5x, Q6x, Q7x, Q8x, Q9x, Q0x, Qax, Qbx] at hb168
       have hO : dec 0 0 b = .ok v (k + 1) := by rw [← hD, if_neg hno, if_pos (by omega), hv]
       refine wp_cond_true (Hz.ev (x := .tmp 40) rfl) ?_
       refine wp_seq_k (fun K8 hK8 => ?_)
       refine wp_region_lit ?_
       refine goCh Hz (.move rfl <| .move rfl <| .nilCheck rfl <| .fieldAddr (off := 0) rfl Tryd.underlying83 rfl (s := 0) (by kernel_rfl) rfl <| .loadB1 m16 (i := 1) rfl rfl rfl Tryd.underlying26 rfl <| .move rfl <| .add rfl rfl (r := ((k + 1 : Nat) : Int)) (by rw [IntWalk.i64_in _ (by omega)]; omega) <| .nil) ?_
       clear Hz Az; intro Az Hz
       have m184 := m16.dropN (i := 2) rfl (k + 1) (show k + 1 ≤ b.length by omega) 101 rfl; clear m16
       refine goCh Hz (.c rfl (fun _ h_ => y_sliceLn h_ (k + 1) rfl rfl Tryd.underlying26 sz5pne rfl (show k + 1 ≤ b.length by omega)) <| .nilCheck rfl <| .fieldAddr (off := 0) rfl Tryd.underlying83 rfl (s := 0) (by kernel_rfl) rfl <| .nil) ?_
       clear Hz Az; intro Az Hz
       refine wpList_plain rfl (fun K hK => ?_)
       refine e_store1 Hz m184 1 rfl rfl rfl rfl rfl sz26pne (by dsimp only [List.set] <;> rfl) ?_
       clear m184; intro w188 m188 hB188
       clear hB188
       refine hK _ _ ?_; clear hK K
       refine wpList_nil ?_
       refine hK8 _ _ ?_; clear hK8; try clear K8
       replace Hz : Has 53 [(0, _), (4, _), (10, _), (11, _), (12, _), (19, _), (23, _), (26, _), (30, _), (40, _)] Az := Hz.only [0, 4, 10, 11, 12, 19, 23, 26, 30, 40]
       refine regS Hz (.move rfl <| .assign rfl <| .assign rfl <| .nil) ?_
       clear Hz Az; intro Az Hz
       refine wp_ret ?_
       try dsimp only [Exit.then, Exit.inBlock]
       refine (ret2 (fn := Tryd.f48) Hz rfl rfl rfl ?_)
       rw [hO] at hd; cases hd
      ·
       clear Hz; intro hb168 Hz
       try simp only [Q1x, Q2x, Q3x, Q4x, Q5x, Q6x, Q7x, Q8x, Q9x, Q0x, Qax, Qbx] at hb168
       refine wp_cond_false (Hz.ev (x := .tmp 40) rfl) ?_
       refine wp_skip ?_
       refine hK2 _ _ ?_; clear hK2; try clear K2
       refine wp_region_lit ?_
       refine goCh Hz (.add rfl rfl (r := ((k + 1 : Nat) : Int)) (by rw [IntWalk.i64_in _ (by omega)]; omega) <| .move rfl <| .nil) ?_
       clear Hz Az; intro Az Hz
       refine wpList_nil ?_
       show ∃ n', n' < _ ∧ _
       exact ⟨b.length - (k + 1), by omega, k + 1, v, by omega, by omega, rfl, by rw [← hv]; exact acc_bound u k (b.getD k 0) hu, by rw [← hD, if_neg hno, if_neg (by omega), hv], Hz.only [0, 4, 10, 11, 12], m16.only [1, 2]⟩
    ·
     clear Hz; intro hb146 Hz
     try simp only [Q1x, Q2x, Q3x, Q4x, Q5x, Q6x, Q7x, Q8x, Q9x, Q0x, Qax, Qbx] at hb146
     have hno : ¬ ((k = 9 ∧ 1 < (b.getD k 0)) ∨ (0 < k ∧ (b.getD k 0) = 0)) := by omega
     have h9 : k = 9 → (b.getD k 0) ≤ 1 := by omega
     obtain ⟨v, hv⟩ : ∃ v, u + ((b.getD k 0) % 128).toNat * 2 ^ (7 * k) = v := ⟨_, rfl⟩
     refine goCh Hz (.sk <| .sk <| .pickFZ rfl rfl <| .pickF rfl rfl <| .nil) ?_
     clear Hz Az; intro Az Hz
     refine wpList_nil ?_
     refine hK5 _ _ ?_; clear hK5; try clear K5
     refine wp_cond_false (Hz.ev (x := .tmp 30) rfl) ?_
     refine wp_skip ?_
     refine hK4 _ _ ?_; clear hK4; try clear K4
     replace Hz : Has 53 [(0, _), (4, _), (10, _), (11, _), (12, _), (5, _), (6, _), (19, _), (23, _), (26, _), (30, _)] Az := Hz.only [0, 4, 10, 11, 12, 5, 6, 19, 23, 26, 30]
     refine regS Hz (.move rfl <| .move rfl <| .c rfl (fun _ h_ => y_andNot h_ rfl rfl (r := (b.getD k 0) % 128) (andNot128 _ hxb.1 hxb.2)) <| .conv rfl Tryd.underlying5 Tryd.underlying66 (r := (b.getD k 0) % 128) (IntWalk.u64_in _ (by omega)) <| .move rfl <| .mul rfl rfl (r := 7 * (k : Int)) (IntWalk.i64_in _ (by omega)) <| .shl rfl rfl (by omega) (r := IntKind.u64.wrap ((b.getD k 0) % 128 * 2 ^ (7 * k))) (by rw [shx hk9]) <| .or rfl rfl (r := (v : Int)) (by rw [← hv]; exact or_shift u k (b.getD k 0) hu hk9 hxb.1 hxb.2 h9) <| .assign rfl <| .nil) ?_
     clear Hz Az; intro Az Hz
     replace Hz : Has 53 [(0, _), (4, _), (10, _), (11, _), (12, _), (5, _), (6, _), (19, _), (23, _), (26, _), (30, _)] Az := Hz.only [0, 4, 10, 11, 12, 5, 6, 19, 23, 26, 30]
     refine regS Hz (.move rfl <| .lss rfl rfl <| .nil) ?_
     clear Hz Az; intro Az Hz
     refine bool_cases Hz (t := 40) rfl ?_ ?_
     ·
      clear Hz; intro hb212 Hz
      try simp only [Q1x, Q2x, Q3x, Q4x, Q5x, Q6x, Q7x, Q8x, Q9x, Q0x, Qax, Qbx] at hb212
      have hO : dec 0 0 b = .ok v (k + 1) := by rw [← hD, if_neg hno, if_pos (by omega), hv]
      refine wp_cond_true (Hz.ev (x := .tmp 40) rfl) ?_
      refine wp_seq_k (fun K9 hK9 => ?_)
      refine wp_region_lit ?_
      refine goCh Hz (.move rfl <| .move rfl <| .nilCheck rfl <| .fieldAddr (off := 0) rfl Tryd.underlying83 rfl (s := 0) (by kernel_rfl) rfl <| .loadB1 m16 (i := 1) rfl rfl rfl Tryd.underlying26 rfl <| .move rfl <| .add rfl rfl (r := ((k + 1 : Nat) : Int)) (by rw [IntWalk.i64_in _ (by omega)]; omega) <| .nil) ?_
      clear Hz Az; intro Az Hz
      have m228 := m16.dropN (i := 2) rfl (k + 1) (show k + 1 ≤ b.length by omega) 101 rfl; clear m16
      refine goCh Hz (.c rfl (fun _ h_ => y_sliceLn h_ (k + 1) rfl rfl Tryd.underlying26 sz5pne rfl (show k + 1 ≤ b.length by omega)) <| .nilCheck rfl <| .fieldAddr (off := 0) rfl Tryd.underlying83 rfl (s := 0) (by kernel_rfl) rfl <| .nil) ?_
      clear Hz Az; intro Az Hz
      refine wpList_plain rfl (fun K hK => ?_)
      refine e_store1 Hz m228 1 rfl rfl rfl rfl rfl sz26pne (by dsimp only [List.set] <;> rfl) ?_
      clear m228; intro w232 m232 hB232
      clear hB232
      refine hK _ _ ?_; clear hK K
      refine wpList_nil ?_
      refine hK9 _ _ ?_; clear hK9; try clear K9
      replace Hz : Has 53 [(0, _), (4, _), (10, _), (11, _), (12, _), (19, _), (23, _), (26, _), (30, _), (40, _)] Az := Hz.only [0, 4, 10, 11, 12, 19, 23, 26, 30, 40]
      refine regS Hz (.move rfl <| .assign rfl <| .assign rfl <| .nil) ?_
      clear Hz Az; intro Az Hz
      refine wp_ret ?_
      try dsimp only [Exit.then, Exit.inBlock]
      refine (ret2 (fn := Tryd.f48) Hz rfl rfl rfl ?_)
      rw [hO] at hd; cases hd
     ·
      clear Hz; intro hb212 Hz
      try simp only [Q1x, Q2x, Q3x, Q4x, Q5x, Q6x, Q7x, Q8x, Q9x, Q0x, Qax, Qbx] at hb212
      refine wp_cond_false (Hz.ev (x := .tmp 40) rfl) ?_
      refine wp_skip ?_
      refine hK2 _ _ ?_; clear hK2; try clear K2
      refine wp_region_lit ?_
      refine goCh Hz (.add rfl rfl (r := ((k + 1 : Nat) : Int)) (by rw [IntWalk.i64_in _ (by omega)]; omega) <| .move rfl <| .nil) ?_
      clear Hz Az; intro Az Hz
      refine wpList_nil ?_
      show ∃ n', n' < _ ∧ _
      exact ⟨b.length - (k + 1), by omega, k + 1, v, by omega, by omega, rfl, by rw [← hv]; exact acc_bound u k (b.getD k 0) hu, by rw [← hD, if_neg hno, if_neg (by omega), hv], Hz.only [0, 4, 10, 11, 12], m16.only [1, 2]⟩
  ·
   clear Hz; intro hb12 Hz
   try simp only [Q1x, Q2x, Q3x, Q4x, Q5x, Q6x, Q7x, Q8x, Q9x, Q0x, Qax, Qbx] at hb12
   obtain rfl : k = b.length := by omega
   have hE : dec 0 0 b = .err 21 := by rw [← hD0, List.drop_length]; rfl
   refine wp_cond_false (Hz.ev (x := .tmp 13) rfl) ?_
   refine wp_exit ?_
   refine hK0 _ _ ?_; clear hK0; try clear K0
   refine regS Hz (.assign rfl <| .assign rfl <| .nil) ?_
   clear Hz Az; intro Az Hz
   refine wp_ret ?_
   try dsimp only [Exit.then, Exit.inBlock]
   refine (ret2 (fn := Tryd.f48) Hz rfl rfl rfl ?_)
   rw [hE] at hd
   injection hd with hd
   subst hd
   exact ⟨rfl, m10.ren [(1, 1), (2, 2)] (by decide)⟩
theorem pnum_bad (X : Cx) (B : Nat) (b : List Int) (er mx : Int) (p : Option Addr) (c : Nat) (w0 : World) (hb : b.length ≤ 1000000) (hbb : BytesL b) (he : er ≠ 0) (m0 : MemOk X w0 [(1, .box B 85 [.slice p (b).length c, .int .i64 er]), (2, .dat (.slice p (b).length c) (.ns .u8 (b)))] w0) :
   Calls Tryd.prog 35 #[.pointer (some ⟨B, 0, none⟩), .int .u64 mx] w0 fun e w' => ∃ (p' : Option Addr) (c' : Nat), e = .returned (.int .u64 (numR b er mx).1) ∧ MemOk X w0 [(1, .box B 85 [.slice p' ((numR b er mx).2.1).length c', .int .i64 (numR b er mx).2.2]), (2, .dat (.slice p' ((numR b er mx).2.1).length c') (.ns .u8 ((numR b er mx).2.1)))] w' := by
 have hN : numR b er mx = (0, b, er) := numR_bad b er mx he
 refine enter (fn := Tryd.f35) Tryd.func35 rfl Tryd.ntmps35 rfl (fun Az Hz => ?_)
 simp only [List.zipIdx_cons, List.zipIdx_nil, List.map_cons, List.map_nil, Nat.reduceAdd, Nat.zero_add] at Hz
 refine regS Hz (.assign rfl <| .nil) ?_
 clear Hz Az; intro Az Hz
 refine wp_seq_k (fun K0 hK0 => ?_)
 refine regS Hz (.move rfl <| .nilCheck rfl <| .fieldAddr (off := 0) rfl Tryd.underlying85 rfl (s := 1) (by kernel_rfl) rfl <| .fieldAddr (off := 1) rfl Tryd.underlying83 rfl (s := 0) (by kernel_rfl) rfl <| .loadB1 m0 (i := 1) rfl rfl rfl Tryd.underlying31 rfl <| .neq rfl rfl <| .nil) ?_
 clear Hz Az; intro Az Hz
 refine bool_cases Hz (t := 12) rfl ?_ ?_
 rotate_left
 · intro hb _; exact absurd hb (by simp; omega)
 clear Hz; intro _ Hz
 refine wp_cond_true (Hz.ev (x := .tmp 12) rfl) ?_
 replace Hz : Has 35 [(0, _), (1, _), (4, _)] Az := Hz.only [0, 1, 4]
 refine regS Hz (.assign rfl <| .nil) ?_
 clear Hz Az; intro Az Hz
 refine wp_ret ?_
 try dsimp only [Exit.then, Exit.inBlock]
 refine (ret1 (fn := Tryd.f35) Hz rfl rfl ?_)
 rw [hN]
 exact ⟨_, _, rfl, m0.ren [(1, 1), (2, 2)] (by decide)⟩
theorem pnum_err (X : Cx) (B : Nat) (b : List Int) (mx : Int) (p : Option Addr) (c : Nat) (w0 : World) (hb : b.length ≤ 1000000) (hbb : BytesL b) (er1 : Int) (hd : dec 0 0 b = .err er1) (m0 : MemOk X w0 [(1, .box B 85 [.slice p (b).length c, .int .i64 0]), (2, .dat (.slice p (b).length c) (.ns .u8 (b)))] w0) :
   Calls Tryd.prog 35 #[.pointer (some ⟨B, 0, none⟩), .int .u64 mx] w0 fun e w' => ∃ (p' : Option Addr) (c' : Nat), e = .returned (.int .u64 (numR b 0 mx).1) ∧ MemOk X w0 [(1, .box B 85 [.slice p' ((numR b 0 mx).2.1).length c', .int .i64 (numR b 0 mx).2.2]), (2, .dat (.slice p' ((numR b 0 mx).2.1).length c') (.ns .u8 ((numR b 0 mx).2.1)))] w' := by
 have hN : numR b 0 mx = (0, [], er1) := numR_err mx hd
 have he1 : er1 = 20 ∨ er1 = 21 := dec_err b 0 0 er1 hd
 refine enter (fn := Tryd.f35) Tryd.func35 rfl Tryd.ntmps35 rfl (fun Az Hz => ?_)
 simp only [List.zipIdx_cons, List.zipIdx_nil, List.map_cons, List.map_nil, Nat.reduceAdd, Nat.zero_add] at Hz
 refine regS Hz (.assign rfl <| .nil) ?_
 clear Hz Az; intro Az Hz
 refine wp_seq_k (fun K0 hK0 => ?_)
 refine regS Hz (.move rfl <| .nilCheck rfl <| .fieldAddr (off := 0) rfl Tryd.underlying85 rfl (s := 1) (by kernel_rfl) rfl <| .fieldAddr (off := 1) rfl Tryd.underlying83 rfl (s := 0) (by kernel_rfl) rfl <| .loadB1 m0 (i := 1) rfl rfl rfl Tryd.underlying31 rfl <| .neq rfl rfl <| .nil) ?_
 clear Hz Az; intro Az Hz
 refine bool_cases Hz (t := 12) rfl ?_ ?_
 · intro hb _; exact absurd hb (by simp)
 clear Hz; intro _ Hz
 refine wp_cond_false (Hz.ev (x := .tmp 12) rfl) ?_
 refine wp_skip ?_
 refine hK0 _ _ ?_; clear hK0; try clear K0
 replace Hz : Has 35 [(0, _), (1, _), (4, _)] Az := Hz.only [0, 1, 4]
 refine wp_seq_k (fun K1 hK1 => ?_)
 refine wp_region_lit ?_
 refine goCh Hz (.move rfl <| .nilCheck rfl <| .fieldAddr (off := 0) rfl Tryd.underlying85 rfl (s := 1) (by kernel_rfl) rfl <| .nil) ?_
 clear Hz Az; intro Az Hz
 refine wpList_plain rfl (fun K hK => ?_)
 refine e_call Hz Tryd.func48 rfl rfl rfl rfl (pnumber_err _ _ _ _ _ _ _ _ hb hbb hd (m0.into [(1, 1), (2, 2)] (by decide) rfl)) ?_
 rintro e w16 ⟨rfl, hm16⟩
 have mx16 := m0.back hm16 [(1, 1), (2, 2)] (by decide); clear hm16 m0
 have m16 : MemOk _ _ [(1, _), (2, _)] _ := mx16.only [1, 2]; clear mx16
 refine ⟨_, rfl, ?_⟩; clear Hz Az; intro Az Hz
 refine hK _ _ ?_; clear hK K
 refine goCh Hz (.move rfl <| .extract rfl rfl <| .extract rfl rfl <| .assign rfl <| .assign rfl <| .nil) ?_
 clear Hz Az; intro Az Hz
 refine wpList_nil ?_
 refine hK1 _ _ ?_; clear hK1; try clear K1
 refine wp_seq_k (fun K2 hK2 => ?_)
 replace Hz : Has 35 [(0, _), (1, _), (4, _), (5, _), (6, _)] Az := Hz.only [0, 1, 4, 5, 6]
 refine wp_seq_k (fun K3 hK3 => ?_)
 refine wp_region_lit ?_
 refine goCh Hz (.move rfl <| .eql rfl rfl <| .move rfl <| .nil) ?_
 clear Hz Az; intro Az Hz
 refine bool_cases Hz (t := 22) rfl ?_ ?_
 · intro hb _; exact absurd hb (by simp; omega)
 clear Hz; intro _ Hz
 refine goCh Hz (.sk <| .sk <| .sk <| .pickF rfl rfl <| .nil) ?_
 clear Hz Az; intro Az Hz
 refine wpList_nil ?_
 refine hK3 _ _ ?_; clear hK3; try clear K3
 refine wp_cond_false (Hz.ev (x := .tmp 26) rfl) ?_
 refine wp_skip ?_
 refine hK2 _ _ ?_; clear hK2; try clear K2
 refine wp_seq_k (fun K4 hK4 => ?_)
 replace Hz : Has 35 [(0, _), (4, _), (5, _), (6, _)] Az := Hz.only [0, 4, 5, 6]
 refine regS Hz (.move rfl <| .neq rfl rfl <| .nil) ?_
 clear Hz Az; intro Az Hz
 refine bool_cases Hz (t := 28) rfl ?_ ?_
 rotate_left
 · intro hb _; exact absurd hb (by simp; omega)
 clear Hz; intro _ Hz
 refine wp_cond_true (Hz.ev (x := .tmp 28) rfl) ?_
 refine wp_seq_k (fun K5 hK5 => ?_)
 refine wp_region_lit ?_
 refine goCh Hz (.move rfl <| .nilCheck rfl <| .fieldAddr (off := 0) rfl Tryd.underlying85 rfl (s := 1) (by kernel_rfl) rfl <| .move rfl <| .nil) ?_
 clear Hz Az; intro Az Hz
 refine wpList_plain rfl (fun K hK => ?_)
 refine e_call Hz Tryd.func49 rfl rfl rfl rfl (pfail_x _ _ _ _ _ _ (m16.into [(1, 1)] (by decide) rfl)) ?_
 rintro e w47 ⟨rfl, hm47⟩
 have mx47 := m16.back hm47 [(1, 1)] (by decide); clear hm47 m16
 have m47 : MemOk _ _ [(1, _), (2, _)] _ := mx47.only [1, 2]; clear mx47
 refine ⟨_, rfl, ?_⟩; clear Hz Az; intro Az Hz
 refine hK _ _ ?_; clear hK K
 refine wpList_nil ?_
 refine hK5 _ _ ?_; clear hK5; try clear K5
 replace Hz : Has 35 [(4, _), (5, _)] Az := Hz.only [4, 5]
 refine regS Hz (.assign rfl <| .nil) ?_
 clear Hz Az; intro Az Hz
 refine wp_ret ?_
 try dsimp only [Exit.then, Exit.inBlock]
 refine (ret1 (fn := Tryd.f35) Hz rfl rfl ?_)
 have m51 := m47.dat 90 rfl (Rd.nilN _ _ .u8 none); clear m47
 rw [hN]
 exact ⟨_, _, rfl, m51.ren [(1, 1), (2, 90)] (by decide)⟩
theorem pnum_long (X : Cx) (B : Nat) (b : List Int) (mx : Int) (p : Option Addr) (c : Nat) (w0 : World) (hb : b.length ≤ 1000000) (hbb : BytesL b) (n j : Nat) (hd : dec 0 0 b = .ok n j) (hl : mx < n) (m0 : MemOk X w0 [(1, .box B 85 [.slice p (b).length c, .int .i64 0]), (2, .dat (.slice p (b).length c) (.ns .u8 (b)))] w0) :
   Calls Tryd.prog 35 #[.pointer (some ⟨B, 0, none⟩), .int .u64 mx] w0 fun e w' => ∃ (p' : Option Addr) (c' : Nat), e = .returned (.int .u64 (numR b 0 mx).1) ∧ MemOk X w0 [(1, .box B 85 [.slice p' ((numR b 0 mx).2.1).length c', .int .i64 (numR b 0 mx).2.2]), (2, .dat (.slice p' ((numR b 0 mx).2.1).length c') (.ns .u8 ((numR b 0 mx).2.1)))] w' := by
 have hN : numR b 0 mx = (0, [], 22) := by rw [numR_val mx hd, if_pos hl]
 refine enter (fn := Tryd.f35) Tryd.func35 rfl Tryd.ntmps35 rfl (fun Az Hz => ?_)
 simp only [List.zipIdx_cons, List.zipIdx_nil, List.map_cons, List.map_nil, Nat.reduceAdd, Nat.zero_add] at Hz
 refine regS Hz (.assign rfl <| .nil) ?_
 clear Hz Az; intro Az Hz
 refine wp_seq_k (fun K0 hK0 => ?_)
 refine regS Hz (.move rfl <| .nilCheck rfl <| .fieldAddr (off := 0) rfl Tryd.underlying85 rfl (s := 1) (by kernel_rfl) rfl <| .fieldAddr (off := 1) rfl Tryd.underlying83 rfl (s := 0) (by kernel_rfl) rfl <| .loadB1 m0 (i := 1) rfl rfl rfl Tryd.underlying31 rfl <| .neq rfl rfl <| .nil) ?_
 clear Hz Az; intro Az Hz
 refine bool_cases Hz (t := 12) rfl ?_ ?_
 · intro hb _; exact absurd hb (by simp)
 clear Hz; intro _ Hz
 refine wp_cond_false (Hz.ev (x := .tmp 12) rfl) ?_
 refine wp_skip ?_
 refine hK0 _ _ ?_; clear hK0; try clear K0
 replace Hz : Has 35 [(0, _), (1, _), (4, _)] Az := Hz.only [0, 1, 4]
 refine wp_seq_k (fun K1 hK1 => ?_)
 refine wp_region_lit ?_
 refine goCh Hz (.move rfl <| .nilCheck rfl <| .fieldAddr (off := 0) rfl Tryd.underlying85 rfl (s := 1) (by kernel_rfl) rfl <| .nil) ?_
 clear Hz Az; intro Az Hz
 refine wpList_plain rfl (fun K hK => ?_)
 refine e_call Hz Tryd.func48 rfl rfl rfl rfl (pnumber_ok _ _ _ _ _ _ _ _ _ hb hbb hd (m0.into [(1, 1), (2, 2)] (by decide) rfl)) ?_
 rintro e w16 ⟨p16, c16, rfl, hm16⟩
 have mx16 := m0.back hm16 [(1, 1), (2, 2)] (by decide); clear hm16 m0
 have m16 : MemOk _ _ [(1, _), (2, _)] _ := mx16.only [1, 2]; clear mx16
 refine ⟨_, rfl, ?_⟩; clear Hz Az; intro Az Hz
 refine hK _ _ ?_; clear hK K
 refine goCh Hz (.move rfl <| .extract rfl rfl <| .extract rfl rfl <| .assign rfl <| .assign rfl <| .nil) ?_
 clear Hz Az; intro Az Hz
 refine wpList_nil ?_
 refine hK1 _ _ ?_; clear hK1; try clear K1
 refine wp_seq_k (fun K2 hK2 => ?_)
 replace Hz : Has 35 [(0, _), (1, _), (4, _), (5, _), (6, _)] Az := Hz.only [0, 1, 4, 5, 6]
 refine wp_seq_k (fun K3 hK3 => ?_)
 refine wp_region_lit ?_
 refine goCh Hz (.move rfl <| .eql rfl rfl <| .move rfl <| .nil) ?_
 clear Hz Az; intro Az Hz
 refine bool_cases Hz (t := 22) rfl ?_ ?_
 rotate_left
 · intro hb _; exact absurd hb (by simp)
 clear Hz; intro _ Hz
 refine goCh Hz (.moveZ rfl <| .moveZ rfl <| .gtrZ rfl rfl <| .pickT rfl rfl <| .nil) ?_
 clear Hz Az; intro Az Hz
 refine wpList_nil ?_
 refine hK3 _ _ ?_; clear hK3; try clear K3
 refine bool_cases Hz (t := 26) rfl ?_ ?_
 rotate_left
 · intro hb _; exact absurd hb (by simp; omega)
 clear Hz; intro _ Hz
 refine wp_cond_true (Hz.ev (x := .tmp 26) rfl) ?_
 replace Hz : Has 35 [(0, _), (4, _), (5, _), (6, _)] Az := Hz.only [0, 4, 5, 6]
 refine wp_region_lit ?_
 refine goCh Hz (.assign rfl .nil) ?_
 clear Hz Az; intro Az Hz
 refine wpList_nil ?_
 refine hK2 _ _ ?_; clear hK2; try clear K2
 refine wp_seq_k (fun K4 hK4 => ?_)
 refine regS Hz (.move rfl <| .neq rfl rfl <| .nil) ?_
 clear Hz Az; intro Az Hz
 refine bool_cases Hz (t := 28) rfl ?_ ?_
 rotate_left
 · intro hb _; exact absurd hb (by simp)
 clear Hz; intro _ Hz
 refine wp_cond_true (Hz.ev (x := .tmp 28) rfl) ?_
 refine wp_seq_k (fun K5 hK5 => ?_)
 refine wp_region_lit ?_
 refine goCh Hz (.move rfl <| .nilCheck rfl <| .fieldAddr (off := 0) rfl Tryd.underlying85 rfl (s := 1) (by kernel_rfl) rfl <| .move rfl <| .nil) ?_
 clear Hz Az; intro Az Hz
 refine wpList_plain rfl (fun K hK => ?_)
 refine e_call Hz Tryd.func49 rfl rfl rfl rfl (pfail_x _ _ _ _ _ _ (m16.into [(1, 1)] (by decide) rfl)) ?_
 rintro e w49 ⟨rfl, hm49⟩
 have mx49 := m16.back hm49 [(1, 1)] (by decide); clear hm49 m16
 have m49 : MemOk _ _ [(1, _), (2, _)] _ := mx49.only [1, 2]; clear mx49
 refine ⟨_, rfl, ?_⟩; clear Hz Az; intro Az Hz
 refine hK _ _ ?_; clear hK K
 refine wpList_nil ?_
 refine hK5 _ _ ?_; clear hK5; try clear K5
 replace Hz : Has 35 [(4, _), (5, _)] Az := Hz.only [4, 5]
 refine regS Hz (.assign rfl <| .nil) ?_
 clear Hz Az; intro Az Hz
 refine wp_ret ?_
 try dsimp only [Exit.then, Exit.inBlock]
 refine (ret1 (fn := Tryd.f35) Hz rfl rfl ?_)
 have m53 := m49.dat 90 rfl (Rd.nilN _ _ .u8 none); clear m49
 rw [hN]
 exact ⟨_, _, rfl, m53.ren [(1, 1), (2, 90)] (by decide)⟩
theorem pnum_in (X : Cx) (B : Nat) (b : List Int) (mx : Int) (p : Option Addr) (c : Nat) (w0 : World) (hb : b.length ≤ 1000000) (hbb : BytesL b) (n j : Nat) (hd : dec 0 0 b = .ok n j) (hl : (n : Int) ≤ mx) (m0 : MemOk X w0 [(1, .box B 85 [.slice p (b).length c, .int .i64 0]), (2, .dat (.slice p (b).length c) (.ns .u8 (b)))] w0) :
   Calls Tryd.prog 35 #[.pointer (some ⟨B, 0, none⟩), .int .u64 mx] w0 fun e w' => ∃ (p' : Option Addr) (c' : Nat), e = .returned (.int .u64 (numR b 0 mx).1) ∧ MemOk X w0 [(1, .box B 85 [.slice p' ((numR b 0 mx).2.1).length c', .int .i64 (numR b 0 mx).2.2]), (2, .dat (.slice p' ((numR b 0 mx).2.1).length c') (.ns .u8 ((numR b 0 mx).2.1)))] w' := by
 have hN : numR b 0 mx = ((n : Int), b.drop j, 0) := by rw [numR_val mx hd, if_neg (by omega)]
 refine enter (fn := Tryd.f35) Tryd.func35 rfl Tryd.ntmps35 rfl (fun Az Hz => ?_)
 simp only [List.zipIdx_cons, List.zipIdx_nil, List.map_cons, List.map_nil, Nat.reduceAdd, Nat.zero_add] at Hz
 refine regS Hz (.assign rfl <| .nil) ?_
 clear Hz Az; intro Az Hz
 refine wp_seq_k (fun K0 hK0 => ?_)
 refine regS Hz (.move rfl <| .nilCheck rfl <| .fieldAddr (off := 0) rfl Tryd.underlying85 rfl (s := 1) (by kernel_rfl) rfl <| .fieldAddr (off := 1) rfl Tryd.underlying83 rfl (s := 0) (by kernel_rfl) rfl <| .loadB1 m0 (i := 1) rfl rfl rfl Tryd.underlying31 rfl <| .neq rfl rfl <| .nil) ?_
 clear Hz Az; intro Az Hz
 refine bool_cases Hz (t := 12) rfl ?_ ?_
 · intro hb _; exact absurd hb (by simp)
 clear Hz; intro _ Hz
 refine wp_cond_false (Hz.ev (x := .tmp 12) rfl) ?_
 refine wp_skip ?_
 refine hK0 _ _ ?_; clear hK0; try clear K0
 replace Hz : Has 35 [(0, _), (1, _), (4, _)] Az := Hz.only [0, 1, 4]
 refine wp_seq_k (fun K1 hK1 => ?_)
 refine wp_region_lit ?_
 refine goCh Hz (.move rfl <| .nilCheck rfl <| .fieldAddr (off := 0) rfl Tryd.underlying85 rfl (s := 1) (by kernel_rfl) rfl <| .nil) ?_
 clear Hz Az; intro Az Hz
 refine wpList_plain rfl (fun K hK => ?_)
 refine e_call Hz Tryd.func48 rfl rfl rfl rfl (pnumber_ok _ _ _ _ _ _ _ _ _ hb hbb hd (m0.into [(1, 1), (2, 2)] (by decide) rfl)) ?_
 rintro e w16 ⟨p16, c16, rfl, hm16⟩
 have mx16 := m0.back hm16 [(1, 1), (2, 2)] (by decide); clear hm16 m0
 have m16 : MemOk _ _ [(1, _), (2, _)] _ := mx16.only [1, 2]; clear mx16
 refine ⟨_, rfl, ?_⟩; clear Hz Az; intro Az Hz
 refine hK _ _ ?_; clear hK K
 refine goCh Hz (.move rfl <| .extract rfl rfl <| .extract rfl rfl <| .assign rfl <| .assign rfl <| .nil) ?_
 clear Hz Az; intro Az Hz
 refine wpList_nil ?_
 refine hK1 _ _ ?_; clear hK1; try clear K1
 refine wp_seq_k (fun K2 hK2 => ?_)
 replace Hz : Has 35 [(0, _), (1, _), (4, _), (5, _), (6, _)] Az := Hz.only [0, 1, 4, 5, 6]
 refine wp_seq_k (fun K3 hK3 => ?_)
 refine wp_region_lit ?_
 refine goCh Hz (.move rfl <| .eql rfl rfl <| .move rfl <| .nil) ?_
 clear Hz Az; intro Az Hz
 refine bool_cases Hz (t := 22) rfl ?_ ?_
 rotate_left
 · intro hb _; exact absurd hb (by simp)
 clear Hz; intro _ Hz
 refine goCh Hz (.moveZ rfl <| .moveZ rfl <| .gtrZ rfl rfl <| .pickT rfl rfl <| .nil) ?_
 clear Hz Az; intro Az Hz
 refine wpList_nil ?_
 refine hK3 _ _ ?_; clear hK3; try clear K3
 refine bool_cases Hz (t := 26) rfl ?_ ?_
 · intro hb _; exact absurd hb (by simp; omega)
 clear Hz; intro _ Hz
 refine wp_cond_false (Hz.ev (x := .tmp 26) rfl) ?_
 refine wp_skip ?_
 refine hK2 _ _ ?_; clear hK2; try clear K2
 refine wp_seq_k (fun K4 hK4 => ?_)
 replace Hz : Has 35 [(0, _), (4, _), (5, _), (6, _)] Az := Hz.only [0, 4, 5, 6]
 refine regS Hz (.move rfl <| .neq rfl rfl <| .nil) ?_
 clear Hz Az; intro Az Hz
 refine bool_cases Hz (t := 28) rfl ?_ ?_
 · intro hb _; exact absurd hb (by simp)
 clear Hz; intro _ Hz
 refine wp_cond_false (Hz.ev (x := .tmp 28) rfl) ?_
 refine wp_skip ?_
 refine hK4 _ _ ?_; clear hK4; try clear K4
 refine regS Hz (.move rfl <| .assign rfl <| .nil) ?_
 clear Hz Az; intro Az Hz
 refine wp_ret ?_
 try dsimp only [Exit.then, Exit.inBlock]
 refine (ret1 (fn := Tryd.f35) Hz rfl rfl ?_)
 rw [hN]
 exact ⟨_, _, rfl, m16.ren [(1, 1), (2, 2)] (by decide)⟩
theorem pnum_x (X : Cx) (B : Nat) (b : List Int) (er mx : Int) (p : Option Addr) (c : Nat) (w0 : World) (hb : b.length ≤ 1000000) (hbb : BytesL b) (m0 : MemOk X w0 [(1, .box B 85 [.slice p (b).length c, .int .i64 er]), (2, .dat (.slice p (b).length c) (.ns .u8 (b)))] w0) :
   Calls Tryd.prog 35 #[.pointer (some ⟨B, 0, none⟩), .int .u64 mx] w0 fun e w' => ∃ (p' : Option Addr) (c' : Nat), e = .returned (.int .u64 (numR b er mx).1) ∧ MemOk X w0 [(1, .box B 85 [.slice p' ((numR b er mx).2.1).length c', .int .i64 (numR b er mx).2.2]), (2, .dat (.slice p' ((numR b er mx).2.1).length c') (.ns .u8 ((numR b er mx).2.1)))] w' := by
 by_cases he : er = 0
 · subst he
   cases hd : dec 0 0 b with
   | err er1 => exact pnum_err X B b mx p c w0 hb hbb er1 hd m0
   | ok n j =>
     by_cases hl : mx < n
     · exact pnum_long X B b mx p c w0 hb hbb n j hd hl m0
     · exact pnum_in X B b mx p c w0 hb hbb n j hd (by omega) m0
 · exact pnum_bad X B b er mx p c w0 hb hbb he m0
end
end Go.Proofs.YtmoghepeggohhaaDoor.K
