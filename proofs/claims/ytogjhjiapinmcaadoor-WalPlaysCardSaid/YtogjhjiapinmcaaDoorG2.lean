/- General laws of walks: Ab6, Ab7, Ab8, Ab9, Ab10, Ab11, Ab12, Ab13, Ab14, Ab15, Ab16, Ab17, Ab18, Ab19, Ab20, Ab21, Ab22, Ab23, AbS, AbC, AbD, Ab24, Crc1, Crc2, Crc3, Crc4, Pack1, Pack2, Pack3, Pack4, Pack5, RegionB, PackG, Crc5. -/
import Derived.Test.YtogjhjiapinmcaaDoorG1
import Derived.Lib.SlBytesConst
import Derived.Deep.Slices
import Derived.SizedLaws
import Derived.Laws.MakeOwn
import Derived.Sort.OwnSortedInts
import Derived.Lib.LaidTab
import Derived.Laws.OwnMore
import Derived.Laws.Bits64
import Derived.RegionTactic
import Derived.ChangeAlike
import Derived.Deep.Matrix
section
namespace Go.Proofs.YtogjhjiapinmcaaDoor.K
open Go.ChangeShapes Go.WideShapes Go.ChangeAt Go.RowKit
set_option linter.unusedVariables false

theorem free_add {X : Cx} {M : Mm} {i : Nat} {r : Res} (hr : r.blk = none) {b : Nat} (h : Free X M b) : Free X ((i, r) :: M) b := by
 refine ⟨h.1, ?_⟩
 rintro ⟨j, s, hj, hs⟩
 rw [lk_cons] at hj
 split at hj
 · cases hj; rw [hr] at hs; cases hs
 · exact h.2 ⟨j, s, hj, hs⟩
theorem Rd.cast {S S' : Nat → Prop} {w : World} {v : Value} {d : D} (h : Rd S w v d) (hs : ∀ b, S b → S' b) : Rd S' w v d := h.mono (Nat.le_refl _) (fun b _ hS => ⟨rfl, hs b hS⟩)
theorem Rd.later {S : Nat → Prop} {w w' : World} {v : Value} {d : D} (h : Rd S w v d) (hb : Below w.heap.size w w') : Rd S w' v d := h.mono hb.size (fun b hlt hS => ⟨hb.block b hlt, hS⟩)
theorem Rd.any {S : Nat → Prop} {w : World} {v : Value} {d : D} (h : Rd S w v d) : Rd (fun _ => True) w v d := h.cast (fun _ _ => trivial)
def cx (S : Nat → Prop) (w : World) : Cx := ⟨[], fun b => b < w.heap.size → S b⟩
theorem MemOk.below {S : Nat → Prop} {w0 w w1 : World} {M : Mm} (m : MemOk (cx S w1) w0 M w) : Below w0.heap.size w0 w := ⟨m.keep.1, m.keep.2.1, m.keep.2.2.1, m.keep.2.2.2.1, fun k hk => m.keep.2.2.2.2 k hk (by simp [cx])⟩
theorem MemOk.start (S : Nat → Prop) (w : World) : MemOk (cx S w) w [] w := ⟨Keep.refl _ _, fun b hb hlt => absurd hlt (by omega), fun i r h => (by cases h), fun i j r s b h => (by cases h)⟩
section
variable {P : Program} {ops : Array Oper} {Q : Exit → Act → World → Prop} {md : Region.Mode} {S : World → Prop} {e : Nat}
theorem wpAnyE_held {i : Nat} {oi : Oper} {v : Value} (hi : ops[i]? = some oi) (hsel : ∀ (j : Nat) (o : Oper) cs b, ops[j]? = some o → o.op ≠ .select cs b)
   (hQ : ∀ c a w, Q (.panic c) (a.put oi.dst v) w → Q (.panic c) a w) (hbig : ops.size ≤ e) (hei : i ≠ e) :
   ∀ (fuel : Nat) (listed : Array Bool) (a : Act) (w : World), Closed md ops listed →
     (∀ j oj, ops[j]? = some oj → j ≠ i → listed.getD j true = false → (∀ ed ∈ oj.after, Region.binds md ed = true → ed.on ≠ i) → oi.apart ops oj = true) →
     i ∈ Region.ready md ops listed → YieldsIf P ops S oi v a → S w →
     wpAnyE P md ops Q e S fuel (listed.setIfInBounds i true) (a.put oi.dst v) w → wpAnyE P md ops Q e S (fuel + 1) listed a w := by
 intro fuel
 induction fuel with
 | zero =>
   intro listed a w hc _ hr hy hS H
   refine ⟨fun h => (by rw [h] at hr; cases hr), fun j hj => ?_⟩
   by_cases hji : j = i
   · subst hji; exact hy.wpOp hi hS ⟨fun _ => hS, H⟩
   · have := ready_mono hj hji
     rw [H.1] at this
     cases this
 | succ fuel ih =>
   intro listed a w hc hfree hr hy hS H
   refine ⟨fun h => (by rw [h] at hr; cases hr), fun j hj => ?_⟩
   by_cases hji : j = i
   · subst hji; exact hy.wpOp hi hS ⟨fun _ => hS, H⟩
   · have h1 := H.2 j (ready_mono hj hji)
     obtain ⟨hjun, oj, hoj, hall⟩ := mem_ready.1 hj
     have hnot : ∀ ed ∈ oj.after, Region.binds md ed = true → ed.on ≠ i := fun ed he hb heq => by
       have h1 := hall ed he hb
       have h0 := (mem_ready.1 hr).1
       rw [heq, getD_both h0] at h1
       cases h1
     have h2 := wpOp_putIf hoj (hfree j oj hoj hji hjun hnot) (fun cs b => hsel i oi cs b hi) (fun cs b => hsel j oj cs b hoj) hQ hy h1
     have hfree' : ∀ k ok, ops[k]? = some ok → k ≠ i → (listed.setIfInBounds j true).getD k true = false →
         (∀ ed ∈ ok.after, Region.binds md ed = true → ed.on ≠ i) → oi.apart ops ok = true := fun k ok hk hki hun hno => by
       refine hfree k ok hk hki ?_ hno
       by_cases hjk : j = k
       · subst hjk; exact hjun
       · rw [getD_set_ne true hjk] at hun; exact hun
     have hc' := hc.set hj
     have hr' := ready_mono hr (Ne.symm hji)
     have hen : (listed.setIfInBounds j true).getD e false = false := by
       have hsz : (listed.setIfInBounds j true).size = ops.size := hc'.1
       have hlt : ¬ e < (listed.setIfInBounds j true).size := by omega
       unfold Array.getD
       rw [dif_neg hlt]
     refine wpOp_mono (fun a' w' h3 => ?_) h2
     have hS' : S w' := h3.2.1 (by rw [Array.setIfInBounds_comm _ _ (Ne.symm hji), getD_set_ne false hei]; exact hen)
     refine ⟨fun _ => hS', ih (listed.setIfInBounds j true) a' w' hc' hfree' hr' h3.1 hS' ?_⟩
     rw [Array.setIfInBounds_comm _ _ hji]
     exact h3.2.2

theorem stepE_held (i : Nat) (d : Option Tmp) {oi : Oper} {v : Value} {fuel : Nat} {listed : Array Bool} {a : Act} {w : World} (hS : S w) (hi : ops[i]? = some oi) (hd : oi.dst = d)
   (hs : Region.noSelect ops = true) (hf : Region.free md ops listed i = true) (hr : (Region.ready md ops listed).contains i = true)
   (hc : closedB md ops listed = true) (hre : (decide (ops.size ≤ e) && decide (i ≠ e)) = true)
   (hQ : ∀ c a w, Q (.panic c) (a.put d v) w → Q (.panic c) a w) (hw : Region.wanted oi (Go.yielded ops a.tmps) = true)
   (hy : ∀ W, S W → (execOp a.eval oi).run P W = .ok (.value v) W)
   (h : wpAnyE P md ops Q e S fuel (listed.setIfInBounds i true) (a.put d v) w) : wpAnyE P md ops Q e S (fuel + 1) listed a w := by
 subst hd
 simp only [Bool.and_eq_true, decide_eq_true_eq] at hre
 exact wpAnyE_held hi (Region.noSelect_spec hs) hQ hre.1 hre.2 fuel listed a w (closedB_spec hc) (Region.free_spec hi hf) (by simpa using hr) (.inl ⟨hw, hy⟩) hS h
end
section
variable {P : Program} {n : Nat} {T : List (Nat × Value)} {a : Act} {w w0 : World} {X : Cx} {M : Mm} {tt : TypeId} {pos : String} {af : Array Edge} {ops : Array Oper} {Q : Exit → Act → World → Prop} {md : Region.Mode} {e fuel : Nat} {S : World → Prop} {listed : Array Bool}
theorem wantedG (ha : Has n T a) {oi : Oper} {j t : Nat} {b : Bool} (hg : oi.guard = some (j, b)) (hj : (ops[j]?).bind (·.dst) = some t) (hb : lk T t = some (.bool b)) (ht2 : Nat.blt t n = true) : Region.wanted oi (Go.yielded ops a.tmps) = true := by simp [Region.wanted, hg, ha.yielded hj hb ht2]
theorem d_two (i j : Nat) {oi oj : Oper} (hi : ops[i]? = some oi) (hj : ops[j]? = some oj) (hr : Region.ready md ops listed = [i, j])
   (hwi : Region.wanted oi (Go.yielded ops a.tmps) = true) (hwj : Region.wanted oj (Go.yielded ops a.tmps) = true)
   (h1 : ∀ K' : Act → World → Prop, (∀ a' w', ((listed.setIfInBounds i true).getD e false = false → S w') → wpAnyE P md ops Q e S fuel (listed.setIfInBounds i true) a' w' → K' a' w') → Oper.wp P oi a w K' Q)
   (h2 : ∀ K' : Act → World → Prop, (∀ a' w', ((listed.setIfInBounds j true).getD e false = false → S w') → wpAnyE P md ops Q e S fuel (listed.setIfInBounds j true) a' w' → K' a' w') → Oper.wp P oj a w K' Q) :
   wpAnyE P md ops Q e S (fuel + 1) listed a w := by
 refine ⟨fun h0 => absurd (hr ▸ h0) (by simp), fun q hq => ?_⟩
 rw [hr] at hq
 rcases List.mem_cons.1 hq with rfl | hq
 · refine wpOp_step hi (fun K' hK => ?_)
   rw [if_pos hwi]
   exact h1 K' (fun a' w' h hn => hK a' w' ⟨h, hn⟩)
 · obtain rfl : q = j := by simpa using hq
   refine wpOp_step hj (fun K' hK => ?_)
   rw [if_pos hwj]
   exact h2 K' (fun a' w' h hn => hK a' w' ⟨h, hn⟩)
end
section
variable {P : Program} {n : Nat} {T : List (Nat × Value)} {a : Act} {w w0 : World} {X : Cx} {M : Mm}
end
def WeakL (A : Mm) : Mm → Prop
 | [] => True
 | (i, r) :: t => (lk A i = some r ∨ ∃ g e cs, lk A i = some (.box g e cs) ∧ r = .any g) ∧ WeakL A t
theorem WeakL.get {A : Mm} : ∀ {B : Mm} {i : Nat} {r : Res}, WeakL A B → lk B i = some r → lk A i = some r ∨ ∃ g e cs, lk A i = some (.box g e cs) ∧ r = .any g
 | [], i, r, _, h => by cases h
 | (j, s) :: B, i, r, hw, h => by
   rw [lk_cons] at h
   split at h
   · rename_i e; subst e; cases h; exact hw.1
   · exact WeakL.get hw.2 h
theorem MemOk.to {X : Cx} {w0 w : World} {A B : Mm} (m : MemOk X w0 A w) (h : WeakL A B) : MemOk X w0 B w := by
 have hF : ∀ b, Free X A b → Free X B b := by
   rintro b ⟨hz, hf⟩
   refine ⟨hz, ?_⟩
   rintro ⟨i, r, hi, hr⟩
   rcases h.get hi with h1 | ⟨g, e, cs, h1, rfl⟩
   · exact hf ⟨i, r, h1, hr⟩
   · exact hf ⟨i, _, h1, hr⟩
 refine ⟨m.keep, m.fresh, fun i r hi => ?_, fun i j r s b hi hj hr hs => ?_⟩
 · rcases h.get hi with h1 | ⟨g, e, cs, h1, rfl⟩
   · exact Res.ok_mono (m.ok i r h1) (Nat.le_refl _) (fun b _ hS => ⟨rfl, hF b hS⟩) (fun _ _ => rfl)
   · exact ⟨(m.ok i _ h1).1.lt, (m.ok i _ h1).2⟩
 · obtain ⟨r', h1, h2⟩ : ∃ r', lk A i = some r' ∧ r'.blk = some b := by
     rcases h.get hi with h1 | ⟨g, e, cs, h1, rfl⟩
     · exact ⟨r, h1, hr⟩
     · exact ⟨_, h1, hr⟩
   obtain ⟨s', h3, h4⟩ : ∃ r', lk A j = some r' ∧ r'.blk = some b := by
     rcases h.get hj with h1 | ⟨g, e, cs, h1, rfl⟩
     · exact ⟨s, h1, hs⟩
     · exact ⟨_, h1, hs⟩
   exact m.sep i j r' s' b h1 h3 h2 h4
theorem region_m {P : Program} {a : Act} {w w0 : World} {X : Cx} {M B : Mm} {ops : Array Oper} {Q : Exit → Act → World → Prop} (e : Nat) (mB : MemOk X w0 B w) (m : MemOk X w0 M w) {id : Nat} (hm : P.follows .mixedOrders = true)
   (h : ∀ w', MemOk X w0 B w' → MemOk X w0 M w' → wpAnyE P .any ops Q e (MemOk X w0 B) ops.size (Array.replicate ops.size false) a w') : (Code.region id ops true).wp P Q a w :=
 regionE_begin e (MemOk X w0 B) hm (h _ mB.drew m.drew)
/-! ### Over a call -/
def Out (S : Nat → Prop) (w : World) (b : Nat) : Prop := S b ∨ w.heap.size ≤ b
section
variable {w w0 : World} {X : Cx} {M : Mm}
theorem MemOk.free_out (m : MemOk X w0 M w) {b : Nat} (h : Out (Free X M) w b) : Free X M b := by
 rcases h with h | h
 · exact h
 · refine ⟨m.fresh b (Nat.le_trans m.keep.size h), ?_⟩
   rintro ⟨j, s, hj, hs⟩
   have := (Res.blk_lt (m.ok j s hj) hs).1
   omega
end
theorem Rd.nilN (S : Nat → Prop) (w : World) (k : IntKind) (a : Option Addr) : Rd S w (.slice a 0 0) (.ns k []) := .ns ⟨a, 0, rfl, ⟨Nat.le_refl _, Nat.zero_le _⟩, .inl rfl⟩
section
variable {w w0 : World} {X : Cx} {M : Mm}
theorem NumsS.of {S : Nat → Prop} {k : IntKind} {v u : Value} {zs zs' : List Int} (h : NumsS S k w v zs) {w' : World} (hu : IsNums k w' u zs') (hl : ∀ p c, u = .slice p zs'.length c → zs'.length ≤ c ∧ c ≤ maxLen) (hb : ∀ g, u.ownBlock = some g → v.ownBlock = some g) (h0 : zs.length = 0 → zs'.length = 0) : NumsS S k w' u zs' := by
 obtain ⟨a, c, rfl, hz⟩ := hu
 refine ⟨a, c, rfl, hl a c rfl, ?_⟩
 rcases hz with hz | ⟨b, off, rfl, h1, h2⟩
 · exact .inl hz
 · obtain ⟨a', c', rfl, -, h3 | ⟨b', off', rfl, h4, h5, h6⟩⟩ := h
   · exact .inl (h0 h3)
   · have := hb b rfl
     injection this with this
     subst this
     exact .inr ⟨_, off, rfl, h4, h1, h2⟩
end
end Go.Proofs.YtogjhjiapinmcaaDoor.K
end
section
namespace Go.Proofs.YtogjhjiapinmcaaDoor.K
open Go.ChangeShapes Go.WideShapes Go.ChangeAt Go.RowKit
set_option linter.unusedVariables false

def xor8 (a b : Int) : Int := IntKind.u8.wrap (BitVec.ofInt IntKind.u8.bits a ^^^ BitVec.ofInt IntKind.u8.bits b).toNat
theorem NumsS.blk {S : Nat → Prop} {k : IntKind} {w : World} {p : Option Addr} {l c : Nat} {zs : List Int} (h : NumsS S k w (.slice p l c) zs) : zs.length = 0 ∨ ∃ b o, p = some ⟨b, o, none⟩ ∧ b < w.heap.size := by
 obtain ⟨a, c', e, hc, h0 | ⟨b, off, rfl, h1, h2, h3⟩⟩ := h
 · exact .inl h0
 · injection e with e1; exact .inr ⟨b, off, e1, h2⟩
theorem NumsS.cap {S : Nat → Prop} {k : IntKind} {w : World} {p : Option Addr} {l c : Nat} {zs : List Int} (h : NumsS S k w (.slice p l c) zs) : zs.length ≤ c ∧ c ≤ maxLen := by
 obtain ⟨a, c', e, hc, -⟩ := h
 injection e with e1 e2 e3; subst e3; exact hc
theorem NumsS.ofRow {k : IntKind} {w : World} {a : Option Addr} {len cap : Nat} {zs : List Int}
   (h : (a = none ∧ len = 0 ∧ cap = 0 ∧ zs = []) ∨ ∃ x, a = some x ∧ len ≤ cap ∧ cap ≤ maxLen ∧ zs.length = cap ∧ (∀ i, i < zs.length → w.cell? (x.add i) = some (.int k (zs.getD i 0))) ∧ ∀ n ∈ zs, (Lit.int k n).wf = true) :
   ∃ ys, Rd (fun _ => True) w (.slice a ys.length cap) (.ns k ys) ∧ ys.length = len ∧ ∀ n ∈ ys, (Lit.int k n).wf = true := by
 have hl : len ≤ cap ∧ cap ≤ maxLen := by
   rcases h with ⟨rfl, rfl, rfl, rfl⟩ | ⟨x, -, h1, h2, -⟩
   · exact ⟨Nat.le_refl _, Nat.zero_le _⟩
   · exact ⟨h1, h2⟩
 obtain ⟨ys, hn, e, -, hw⟩ := IsNums.ofRow h
 refine ⟨ys, .ns ?_, e, hw⟩
 subst e
 obtain ⟨p, c, e1, hz⟩ := hn
 injection e1 with e1 _ e3
 subst e1; subst e3
 refine ⟨_, _, rfl, hl, ?_⟩
 rcases hz with hz | ⟨b, off, e2, h1, h2⟩
 · exact .inl hz
 · exact .inr ⟨b, off, e2, trivial, h1, h2⟩

section
variable {P : Program} {n : Nat} {T : List (Nat × Value)} {a : Act} {w w0 : World} {X : Cx} {M : Mm} {tt : TypeId} {pos : String} {af : Array Edge} {gd : Option (Nat × Bool)} {Q : Exit → Act → World → Prop} {K : Act → World → Prop}
theorem e_app0N (ha : Has n T a) (m : MemOk X w0 M w) (i : Nat) {d : Tmp} {t e : TypeId} {k : IntKind} {bytes : Nat} {s x : Operand} {u : Value} {zs : List Int} (hs : evT T s = some (.slice none 0 0)) (hx : evT T x = some u) (hu : IsNums k w u zs)
   (ht : P.underlying t = some (.slice e)) (hinf : (P.info? e).map (fun i => (i.zero, i.size, i.bytes)) = some (some (.int k 0), 1, bytes)) (hb8 : bytes ≤ 8) (hn : zs.length ≤ 1000000000) (hd : Nat.blt d n = true)
   (h : ∀ p c a' w', Has n ((d, .slice p zs.length c) :: T) a' → MemOk X w0 ((i, .num (.slice p zs.length c) e k zs) :: M) w' → K a' w') : Oper.wp P ⟨some d, .call { callee := .builtin .append, args := #[s, x], argTypes := #[t, t] }, tt, pos, af, gd⟩ a w K Q := by
 obtain ⟨v', w', hr, h1, h2, h3⟩ := run_appS (P := P) w0.heap.size t tt e k bytes ht hinf hb8 (.slice none 0 0) [] (World.ownsRow_nil _ _ _ _) u zs hu (by simpa using hn) m.keep.size
 rw [List.nil_append] at h1
 have hm' : MemOk X w0 ((i, .num v' e k zs) :: M) w' := m.upd i _ ((keep_grown h2).mono (fun b e => by cases e)) (fun b hb => by
   rcases h3 with e1 | e1
   · rw [show (Res.num v' e k zs).blk = v'.ownBlock from rfl, e1] at hb; cases hb
   · have : some w.heap.size = some b := e1.symm.trans hb
     injection this with this; right; omega) (fun _ _ => h1)
 obtain ⟨p, c, e1⟩ := ownsRow_shape h1
 have hrun : (execOp a.eval ⟨some d, .call { callee := .builtin .append, args := #[s, x], argTypes := #[t, t] }, tt, pos, af, gd⟩).run P w = .ok (.value v') w' := by
   simp only [execOp, resolve, invoke, builtin, Sem.run_bind, Sem.run_pure, Result.andThen_ok, List.map_toArray, List.map_cons, List.map_nil, ha.ev hs, ha.ev hx, hr]
 show Oper.upon P _ a K Q _
 rw [hrun]
 subst e1
 exact h p c _ _ (ha.put hd _) hm'
variable {d : Option Tmp}
theorem y_idxO (ha : Has n T a) {t e : TypeId} {x y : Operand} {b l c : Nat} {k : IntKind} {q : Int} (hx : evT T x = some (.slice (some ⟨b, 0, none⟩) l c)) (hy : evT T y = some (.int k q)) (hu : P.underlying t = some (.slice e)) (hs : (P.info? e).map (·.size) = some 1) (j : Nat) (hq : q = j) (hj : j < l) : Yl P a w ⟨d, .indexAddr t x y, tt, pos, af, gd⟩ (.pointer (some ⟨b, j, none⟩)) := by
 have := y_idx (P := P) (w := w) (tt := tt) (pos := pos) (af := af) (gd := gd) (d := d) ha hx hy hu hs j hq hj
 rwa [Nat.mul_one, Nat.zero_add] at this
theorem y_sliceHn (h : Has n T a) {t e : TypeId} {x y : Operand} {p : Option Addr} {l c : Nat} {k : IntKind} {q : Int} (j : Nat) (hx : evT T x = some (.slice p l c)) (hy : evT T y = some (.int k q)) (hu : P.underlying t = some (.slice e)) {s : Nat} (hs : (P.info? e).map (·.size) = some s) (hq : q = j) (h1 : j ≤ c) : Yl P a w ⟨d, .slice t x none (some y) none, tt, pos, af, gd⟩ (.slice p j c) := by
 subst hq
 have := y_sliceH (P := P) (w := w) (tt := tt) (pos := pos) (af := af) (gd := gd) (d := d) h hx hy hu hs (by omega) (by omega)
 rwa [Int.toNat_natCast] at this
theorem y_sliceLn (h : Has n T a) {t e : TypeId} {x y : Operand} {p : Option Addr} {l c : Nat} {k : IntKind} {q : Int} (j : Nat) (hx : evT T x = some (.slice p l c)) (hy : evT T y = some (.int k q)) (hu : P.underlying t = some (.slice e)) {s : Nat} (hs : (P.info? e).map (·.size) = some s) (hq : q = j) (h1 : j ≤ l) : Yl P a w ⟨d, .slice t x (some y) none none, tt, pos, af, gd⟩ (.slice (if c = j then p else p.map (·.add (j * s))) (l - j) (c - j)) := by
 subst hq
 have := y_sliceL (P := P) (w := w) (tt := tt) (pos := pos) (af := af) (gd := gd) (d := d) h hx hy hu hs (by omega) (by omega)
 rwa [Int.toNat_natCast] at this
theorem MemOk.takeN (m : MemOk X w0 M w) {i : Nat} {p : Option Addr} {l c : Nat} {k : IntKind} {zs : List Int} (hm : lk M i = some (.dat (.slice p l c) (.ns k zs))) (j : Nat) (hj : j ≤ zs.length) (i2 : Nat) (hi2 : lk M i2 = none) : MemOk X w0 ((i2, .dat (.slice p j c) (.ns k (zs.take j))) :: M) w :=
 m.dat i2 hi2 (.ns ((m.rd hm).ns_out.take j hj))
end
section
variable {P : Program} {n : Nat} {T : List (Nat × Value)} {a : Act} {w w0 : World} {X : Cx} {M : Mm} {tt : TypeId} {pos : String} {af : Array Edge} {gd : Option (Nat × Bool)}
theorem MemOk.openC (m : MemOk X w0 M w) {i : Nat} {p : Option Addr} {l c mm : Nat} {e : TypeId} {rows : List (List D)} (hm : lk M i = some (.row (.slice p l c) e mm rows)) (h0 : 0 < rows.length) : ∃ g cs, p = some ⟨g, 0, none⟩ ∧ MemOk X w0 ((i, .rowC (.slice p l c) e mm rows cs) :: M) w := by
 obtain ⟨cs, hc⟩ := m.ok i _ hm
 have hown := hc.1
 rcases hown.2 with ⟨e1, h1⟩ | ⟨g, cap, cur, e1, rest⟩
 · omega
 · injection e1 with e1 e2 e3
   exact ⟨g, cs, e1, m.upd i _ (Keep.refl _ _) (fun b hb => .inl ⟨_, hm, hb⟩) (fun h1 _ => ⟨hc.1, hc.2.1, hc.2.2.1, hc.2.2.2.1, fun j q c r x d a1 a2 a3 a4 => (hc.2.2.2.2 j q c r x d a1 a2 a3 a4).mono (Nat.le_refl _) (fun b hlt hS => ⟨rfl, h1 b hlt hS⟩)⟩)⟩
end
def renM (M : Mm) : List (Nat × Nat) → Mm
 | [] => []
 | (i, j) :: t => match lk M j with
   | some r => (i, r) :: renM M t
   | none => renM M t
theorem renM_out {M : Mm} : ∀ {ps : List (Nat × Nat)} {i : Nat} {r : Res}, lk (renM M ps) i = some r → ∃ j, (i, j) ∈ ps ∧ lk M j = some r
 | [], i, r, h => by cases h
 | (i', j) :: t, i, r, h => by
   rw [renM] at h
   split at h
   · rename_i r' hr
     rw [lk_cons] at h
     split at h
     · rename_i e; subst e; cases h; exact ⟨j, List.mem_cons_self, hr⟩
     · obtain ⟨j', h1, h2⟩ := renM_out h; exact ⟨j', List.mem_cons_of_mem _ h1, h2⟩
   · obtain ⟨j', h1, h2⟩ := renM_out h; exact ⟨j', List.mem_cons_of_mem _ h1, h2⟩
theorem MemOk.ren {X : Cx} {w0 w : World} {M : Mm} (m : MemOk X w0 M w) (ps : List (Nat × Nat)) (hp : (ps.all fun p => ps.all fun q => !(p.2 == q.2) || p.1 == q.1) = true) : MemOk X w0 (renM M ps) w where
 keep := m.keep
 fresh := m.fresh
 ok i r hi := by
   obtain ⟨j, h1, h2⟩ := renM_out hi
   exact Res.ok_mono (m.ok j r h2) (Nat.le_refl _) (fun b _ hS => ⟨rfl, hS.1, fun ⟨k, s, hk, hs⟩ => by obtain ⟨k', h3, h4⟩ := renM_out hk; exact hS.2 ⟨k', s, h4, hs⟩⟩) (fun _ _ => rfl)
 sep i j r s b h1 h2 hr hs := by
   obtain ⟨i', a1, a2⟩ := renM_out h1
   obtain ⟨j', b1, b2⟩ := renM_out h2
   obtain rfl := m.sep i' j' r s b a2 b2 hr hs
   rw [List.all_eq_true] at hp
   have h3 := hp _ a1
   rw [List.all_eq_true] at h3
   have h4 := h3 _ b1
   simpa using h4
end Go.Proofs.YtogjhjiapinmcaaDoor.K
end
section
namespace Go.Proofs.YtogjhjiapinmcaaDoor.K
open Go.ChangeShapes Go.WideShapes Go.ChangeAt Go.RowKit
set_option linter.unusedVariables false
set_option linter.unusedSimpArgs false

theorem OwnsAt.cellAt {w : World} {base : Nat} {e : TypeId} {size : Nat} {v : Value} {n : Nat} {xs : List Value} (h : OwnsAt w base e size v n xs) {g off cap : Nat} (hv : v = .slice (some ⟨g, off, none⟩) n cap) (j : Nat) (hj : j < n * size) : w.cell? ⟨g, off + j, none⟩ = xs[j]? := by
 rcases h.2 with ⟨rfl, _⟩ | ⟨g', off', cap', cur, rfl, hbg, hgg, h1, h2, h3, h4⟩
 · cases hv
 · injection hv with hv _ _
   injection hv with hv
   injection hv with e1 e2
   subst e1; subst e2
   have hlt : off' + j < cur.size := by
     have : n * size ≤ cap' * size := Nat.mul_le_mul_right _ h1
     omega
   rw [← h4, List.getElem?_take_of_lt hj, List.getElem?_drop]
   simp [World.cell?, hgg, hlt]
section
variable {P : Program} (w : World)
theorem run_append_room_at (t ty e : TypeId) (i : TypeInfo) (ht : P.underlying t = some (.slice e)) (hi : P.info? e = some i)
   (g off sLen sCap : Nat) (cur : Array Value) (hg : w.heap[g]? = some (.cells cur e (0, 0)))
   (a : Addr) (m c : Nat) (news : List Value) (hl : news.length = m * i.size) (hnews : ∀ j u, news[j]? = some u → w.cell? (a.add j) = some u) (h1 : ∀ u ∈ news, u.oneCell' = true)
   (hroom : sLen + m ≤ sCap) (hfit : off + sLen * i.size + news.length ≤ cur.size) :
   (Builtin.append_ #[t, t] ty #[.slice (some ⟨g, off, none⟩) sLen sCap, .slice (some a) m c]).run P w =
     .ok (.slice (some ⟨g, off, none⟩) (sLen + m) sCap) (w.setRow g (cur.toList.take (off + sLen * i.size) ++ news ++ cur.toList.drop (off + sLen * i.size + news.length)).toArray) := by
 have hf := run_firstCells_some (P := P) w i.size m a m c news hl hnews
 have hst := run_storeCells_at P g (off + sLen * i.size) e news 0 cur w hg (by simpa using hfit) h1
 simp only [Nat.add_zero] at hst
 simp [Builtin.append_, run_underlying ht, sizeOf, typeInfo, hi, Builtin.lenOf, hroom, hf, Addr.add_lit, hst]
theorem run_append_seg (base : Nat) (t ty e : TypeId) (z : Value) (size bytes : Nat) (ht : P.underlying t = some (.slice e)) (hinf : (P.info? e).map (fun i => (i.zero, i.size, i.bytes)) = some (some z, size, bytes))
   (hzs : z.cells.size = size) (hsz : 0 < size) (p : Option Addr) (n cap k : Nat) (hk : k ≤ n) (xs : List Value) (hown : OwnsAt w base e size (.slice p n cap) n xs)
   (a : Addr) (m c : Nat) (news : List Value) (hl : news.length = m * size) (hnews : ∀ j u, news[j]? = some u → w.cell? (a.add j) = some u) (h1 : ∀ u ∈ news, u.oneCell' = true)
   (h63 : k + m ≤ maxLen) (hbytes : (k + m) * bytes ≤ 140737488355328) (hbase : base ≤ w.heap.size) :
   ∃ v' w', (Builtin.append_ #[t, t] ty #[.slice p k cap, .slice (some a) m c]).run P w = .ok v' w' ∧ OwnsAt w' base e size v' (k + m) (xs.take (k * size) ++ news) ∧ w.grownBy w' (Value.slice p n cap).ownBlock ∧ (v'.ownBlock = (Value.slice p n cap).ownBlock ∨ v'.ownBlock = some w.heap.size) := by
 rcases hown.2 with ⟨e1, rfl⟩ | ⟨g, off, cap', cur, e1, hbg, hg, hnc, hcm, hcs, htake⟩
 · injection e1 with e1 _ e3
   subst e1; subst e3
   obtain rfl : k = 0 := by omega
   have hx : xs = [] := List.eq_nil_of_length_eq_zero (by simpa using hown.1)
   subst hx
   obtain ⟨v', w', r1, r2, r3, r4⟩ := run_append_where (P := P) w base t ty e z size bytes ht hinf hzs hsz (.slice none 0 0) 0 [] (World.ownsRow_nil _ _ _ _) a m c news hl hnews h1 h63 hbytes hbase
   exact ⟨v', w', r1, by simpa using OwnsAt.of r2, r3, r4⟩
 · injection e1 with e1 _ e3
   subst e1; subst e3
   obtain ⟨i, hi, hz, hsize, hby⟩ := info_parts hinf
   clear hinf
   subst hsize
   subst hby
   have hxl := hown.1
   have hkn : k * i.size ≤ n * i.size := Nat.mul_le_mul_right _ hk
   have hlen : (xs.take (k * i.size) ++ news).length = (k + m) * i.size := by rw [List.length_append, List.length_take, hxl, hl, Nat.add_mul, Nat.min_eq_left hkn]
   by_cases hroom : k + m ≤ cap
   · have hfit : off + k * i.size + news.length ≤ cur.size := by
       have : (k + m) * i.size ≤ cap * i.size := Nat.mul_le_mul_right _ hroom
       rw [Nat.add_mul] at this
       omega
     have hr := run_append_room_at (P := P) w t ty e i ht hi g off k cap cur hg a m c news hl hnews h1 hroom hfit
     refine ⟨_, _, hr, ⟨hlen, .inr ⟨g, off, cap, _, rfl, hbg, setRow_heap w g cur _ e _ hg, hroom, hcm, ?_, ?_⟩⟩, ⟨rfl, rfl, rfl, by simp, fun b _ hb => setRow_other w g b _ (fun e => hb (by simp [Value.ownBlock, e]))⟩, .inl rfl⟩
     · simp only [List.size_toArray, List.length_append, List.length_take, List.length_drop, Array.length_toList]
       omega
     · have h5 : cur.toList.take (off + k * i.size) = cur.toList.take off ++ xs.take (k * i.size) := by
         rw [List.take_add, ← htake, List.take_take, Nat.min_eq_left hkn]
       have h6 : (cur.toList.take off).length = off := by
         rw [List.length_take, Array.length_toList]; omega
       show ((List.toArray _).toList.drop off).take _ = _
       rw [List.toList_toArray, h5, List.append_assoc, List.append_assoc, List.drop_left' h6, ← List.append_assoc, List.take_left' hlen]
   · have holds : ∀ j u, (xs.take (k * i.size))[j]? = some u → w.cell? ((⟨g, off, none⟩ : Addr).add j) = some u := fun j u hj => by
       have hjl : j < k * i.size := by
         have := (List.getElem?_eq_some_iff.1 hj).1
         rw [List.length_take] at this; omega
       rw [List.getElem?_take_of_lt hjl] at hj
       have := hown.cellAt rfl j (by omega)
       rw [Addr.add_mid, this, hj]
     have hgr := run_append_grow (P := P) w t ty e i z ht hi hz ⟨g, off, none⟩ k cap (xs.take (k * i.size)) (by rw [List.length_take, hxl, Nat.min_eq_left hkn]) holds a m c news hl hnews (by omega) (by unfold maxLen at h63; omega) (growslice_fits (by omega) hbytes)
     have hge := grownCap_ge w (k + m) cap e
     have hcm' : grownCap w (k + m) cap e ≤ maxLen := grownCap_le_maxLen w (k + m) cap e h63
     refine ⟨_, _, hgr, ⟨hlen, .inr ⟨w.heap.size, 0, _, _, rfl, hbase, heap_alloc_new w.drew _, hge, hcm', ?_, ?_⟩⟩, ⟨rfl, rfl, rfl, by simp, fun b hb _ => heap_alloc_old w.drew _ hb⟩, .inr rfl⟩
     · have h7 : (xs.take (k * i.size)).length + news.length = (k + m) * i.size := by rw [← List.length_append]; exact hlen
       simp only [Array.size_append, List.size_toArray, size_zeroCells, hzs, h7, ← Nat.add_mul]
       have : (k + m + (grownCap w (k + m) cap e - (k + m))) = grownCap w (k + m) cap e := by omega
       rw [this]; omega
     · simp only [Array.toList_append, List.append_assoc, List.drop_zero]
       rw [← List.append_assoc, ← hlen]
       exact List.take_left
end
section
variable {X : Cx} {w0 w : World} {M : Mm}
theorem MemOk.rowS (m : MemOk X w0 M w) (i : Nat) {v : Value} {e : TypeId} {mm : Nat} {rows : List (List D)} (h : lk M i = some (.row v e mm rows)) : MemOk X w0 ((i, .seg v e mm rows) :: M) w := by
 obtain ⟨cs, h1, h2, h3, h4, h5⟩ := m.ok i _ h
 have hl := World.ownsRow.lt h1
 refine m.upd i _ (Keep.refl _ _) (fun b hb => .inl ⟨_, h, hb⟩) (fun hf _ => ⟨⟨cs, ?_, h2, h3, h4, fun j q c r x d a1 a2 a3 a4 => (h5 j q c r x d a1 a2 a3 a4).mono (Nat.le_refl _) (fun b hlt hS => ⟨rfl, hf b hlt hS⟩)⟩, fun b hb => .inl (hl b hb).1⟩)
 obtain ⟨a1, a2⟩ := OwnsAt.of h1
 refine ⟨a1, ?_⟩
 rcases a2 with a2 | ⟨g, off, cap, cur, b1, _, rest⟩
 · exact .inl a2
 · exact .inr ⟨g, off, cap, cur, b1, Nat.zero_le _, rest⟩
end
def SrcOk (S : Nat → Prop) (w : World) (u : Value) (mm : Nat) (rows : List (List D)) : Prop :=
 ∃ (p : Option Addr) (c : Nat) (cs : List (List Value)), u = .slice p rows.length c ∧ cs.length = rows.length ∧ (∀ c ∈ cs, c.length = mm ∧ ∀ x ∈ c, x.oneCell' = true) ∧ (∀ r ∈ rows, r.length = mm) ∧
   (∀ (j q : Nat) (c : List Value) (r : List D) (x : Value) (d : D), cs[j]? = some c → rows[j]? = some r → c[q]? = some x → r[q]? = some d → Rd S w x d) ∧ (rows.length = 0 ∨ ∃ ad, p = some ad ∧ ∀ j u, cs.flatten[j]? = some u → w.cell? (ad.add j) = some u)
theorem run_app_nothing {P : Program} (w : World) (t ty e : TypeId) (i : TypeInfo) (ht : P.underlying t = some (.slice e)) (hi : P.info? e = some i) (p : Option Addr) (k c cu : Nat) (hk : k ≤ c) : (Builtin.append_ #[t, t] ty #[.slice p k c, .slice none 0 cu]).run P w = .ok (.slice p k c) w := by
 cases p <;> simp [Builtin.append_, run_underlying ht, sizeOf, typeInfo, hi, Builtin.lenOf, Builtin.firstCells, loadCells, loadCellsFrom, hk, storeCells]
theorem flatten_take {α : Type} {mm : Nat} : ∀ (cs : List (List α)) (j : Nat), (∀ c ∈ cs, c.length = mm) → j ≤ cs.length → (cs.take j).flatten = cs.flatten.take (j * mm)
 | cs, 0, _, _ => by simp
 | [], j + 1, _, h => by simp at h
 | a :: cs, j + 1, hc, h => by
   have ha := hc a (by simp)
   rw [List.take_succ_cons, List.flatten_cons, flatten_take cs j (fun c h => hc c (by simp [h])) (by simpa using h), List.flatten_cons, Nat.add_mul, Nat.one_mul, List.take_append, (List.take_of_length_le (by omega) : a.take (j * mm + mm) = a), ha, Nat.add_sub_cancel]
section
variable {P : Program} {n : Nat} {T : List (Nat × Value)} {a : Act} {w w0 : World} {X : Cx} {M : Mm} {tt : TypeId} {pos : String} {af : Array Edge} {gd : Option (Nat × Bool)} {Q : Exit → Act → World → Prop} {K : Act → World → Prop}
theorem e_appS (ha : Has n T a) (m : MemOk X w0 M w) (i : Nat) {d : Tmp} {t e : TypeId} {mm bytes l c : Nat} {p : Option Addr} {z : Value} {s x : Operand} {u : Value} {xs zs : List (List D)} (hm : lk M i = some (.seg (.slice p l c) e mm xs)) (k : Nat) (hk : k ≤ xs.length) (hs : evT T s = some (.slice p k c)) (hx : evT T x = some u) (hu : SrcOk (Free X M) w u mm zs)
   (ht : P.underlying t = some (.slice e)) (hinf : (P.info? e).map (fun i => (i.zero, i.size, i.bytes)) = some (some z, mm, bytes)) (hz : z.cells.size = mm) (h0 : Nat.blt 0 mm = true) (hb8 : bytes ≤ 1000) (hn : k + zs.length ≤ 100000000) (hd : Nat.blt d n = true)
   (h : ∀ p c a' w', Has n ((d, .slice p (xs.take k ++ zs).length c) :: T) a' → MemOk X w0 ((i, .seg (.slice p (xs.take k ++ zs).length c) e mm (xs.take k ++ zs)) :: M) w' → K a' w') : Oper.wp P ⟨some d, .call { callee := .builtin .append, args := #[s, x], argTypes := #[t, t] }, tt, pos, af, gd⟩ a w K Q := by
 obtain ⟨⟨cs, hown, hcl, hc1, hxm, hcr⟩, hxx⟩ := m.ok i _ hm
 obtain ⟨pu, cu, cz, rfl, hzl, hz1, hzm, hzr, hzp⟩ := hu
 have hl : l = xs.length := by
   rcases hown.2 with ⟨e1, h1⟩ | ⟨_, _, _, _, e1, _⟩
   · injection e1 with _ e2 _; omega
   · injection e1
 subst hl
 have h0' : 0 < mm := by simpa using h0
 have hbn : (k + zs.length) * bytes ≤ 140737488355328 := Nat.le_trans (Nat.mul_le_mul_left _ hb8) (by omega)
 have hfl : cz.flatten.length = zs.length * mm := by rw [← List.flatMap_id, parts_len id mm _ (fun c hc => (hz1 c hc).1), hzl]
 have hkl : (xs.take k).length = k := by rw [List.length_take]; omega
 have hkc : k ≤ c := by
   rcases hown.2 with ⟨e1, h1⟩ | ⟨_, _, _, _, e1, _, _, h1, _⟩
   · injection e1 with _ e2 e3; omega
   · injection e1 with _ _ e3; subst e3; omega
 have hft : (cs.take k).flatten = cs.flatten.take (k * mm) := flatten_take cs k (fun c hc => (hc1 c hc).1) (by omega)
 have hrun0 : ∃ v' w', (Builtin.append_ #[t, t] tt #[.slice p k c, .slice pu zs.length cu]).run P w = .ok v' w' ∧ OwnsAt w' 0 e mm v' (k + zs.length) (cs.flatten.take (k * mm) ++ cz.flatten) ∧ w.grownBy w' (Value.slice p xs.length c).ownBlock ∧ (v'.ownBlock = (Value.slice p xs.length c).ownBlock ∨ v'.ownBlock = some w.heap.size) := by
   have main : ∀ ad : Addr, pu = some ad → (∀ j u, cz.flatten[j]? = some u → w.cell? (ad.add j) = some u) → ∃ v' w', (Builtin.append_ #[t, t] tt #[.slice p k c, .slice pu zs.length cu]).run P w = .ok v' w' ∧ OwnsAt w' 0 e mm v' (k + zs.length) (cs.flatten.take (k * mm) ++ cz.flatten) ∧ w.grownBy w' (Value.slice p xs.length c).ownBlock ∧ (v'.ownBlock = (Value.slice p xs.length c).ownBlock ∨ v'.ownBlock = some w.heap.size) := by
     intro ad hpa hcells
     rw [hpa]
     exact run_append_seg (P := P) w 0 t tt e z mm bytes ht hinf hz h0' p xs.length c k hk cs.flatten hown ad zs.length cu cz.flatten hfl hcells (fun u hu => by obtain ⟨c, hc, hx⟩ := List.mem_flatten.1 hu; exact (hz1 c hc).2 u hx) (by unfold maxLen; omega) hbn (Nat.zero_le _)
   rcases hzp with h9 | ⟨ad, e1, e2⟩
   · obtain rfl := List.length_eq_zero_iff.1 h9
     obtain rfl : cz = [] := List.length_eq_zero_iff.1 (by simpa using hzl)
     cases pu with
     | none =>
       obtain ⟨i0, hi, -⟩ := info_parts hinf
       refine ⟨_, w, run_app_nothing w t tt e i0 ht hi p k c cu hkc, ?_, ⟨rfl, rfl, rfl, Nat.le_refl _, fun _ _ _ => rfl⟩, .inl (by cases p <;> rfl)⟩
       have hkm : k * mm ≤ xs.length * mm := Nat.mul_le_mul_right _ hk
       refine ⟨by rw [List.length_append, List.length_take, hown.1, Nat.min_eq_left hkm]; simp, ?_⟩
       rcases hown.2 with ⟨e1, h1⟩ | ⟨g, off, cap, cur, e1, hbg, hg, hnc, hcm, hcs, htake⟩
       · injection e1 with e1 _ e3; subst e1; subst e3
         obtain rfl : k = 0 := by omega
         exact .inl ⟨rfl, rfl⟩
       · injection e1 with e1 _ e3; subst e1; subst e3
         refine .inr ⟨g, off, c, cur, rfl, hbg, hg, hkc, hcm, hcs, ?_⟩
         rw [← htake]; simp [List.take_take, Nat.min_eq_left hkm]
     | some ad => exact main ad rfl (by simp)
   · exact main ad e1 e2
 obtain ⟨v', w', hr, h1, h2, h3⟩ := hrun0
 have hm' : MemOk X w0 ((i, .seg v' e mm (xs.take k ++ zs)) :: M) w' := m.upd i _ ((keep_grown h2).mono (fun b e => ⟨_, hm, e⟩)) (fun b hb => by
   rcases h3 with e1 | e1
   · exact .inl ⟨_, hm, e1.symm.trans hb⟩
   · have : some w.heap.size = some b := e1.symm.trans hb
     injection this with this; right; omega) (fun hf _ => by
   refine ⟨⟨cs.take k ++ cz, ?_, by rw [List.length_append, List.length_append, List.length_take, List.length_take, hcl, hzl], ?_, ?_, ?_⟩, ?_⟩
   · rw [List.length_append, List.flatten_append, hkl, hft]; exact h1
   · intro c hc
     rcases List.mem_append.1 hc with hc | hc
     · exact hc1 c (List.mem_of_mem_take hc)
     · exact hz1 c hc
   · intro r hr
     rcases List.mem_append.1 hr with hr | hr
     · exact hxm r (List.mem_of_mem_take hr)
     · exact hzm r hr
   · intro j q c' r x d a1 a2 a3 a4
     have hmono : ∀ b, b < w.heap.size → Free X M b → w'.heap[b]? = w.heap[b]? ∧ Free X ((i, Res.seg v' e mm (xs.take k ++ zs)) :: M) b := fun b hlt hF => ⟨h2.block b hlt (fun e1 => hF.2 ⟨i, _, hm, e1.symm⟩), hf b hlt hF⟩
     have hkc' : (cs.take k).length = k := by rw [List.length_take]; omega
     by_cases hj : j < k
     · rw [List.getElem?_append_left (by omega), List.getElem?_take_of_lt hj] at a1
       rw [List.getElem?_append_left (by omega), List.getElem?_take_of_lt hj] at a2
       exact (hcr j q c' r x d a1 a2 a3 a4).mono h2.size hmono
     · rw [List.getElem?_append_right (by omega)] at a1
       rw [List.getElem?_append_right (by omega)] at a2
       rw [hkc'] at a1
       rw [hkl] at a2
       exact (hzr _ q c' r x d a1 a2 a3 a4).mono h2.size hmono
   · intro b hb
     rcases h3 with e1 | e1
     · exact hxx b (e1.symm.trans hb)
     · have : some w.heap.size = some b := e1.symm.trans hb
       injection this with this; left; have := m.keep.size; omega)
 have hsh : ∃ p' c', v' = .slice p' (xs.take k ++ zs).length c' := by
   rw [List.length_append, hkl]
   rcases h1.2 with ⟨e1, e2⟩ | ⟨g, off, cap, cur, e1, _⟩
   · rw [e2]; exact ⟨_, _, e1⟩
   · exact ⟨_, _, e1⟩
 obtain ⟨p', c', e1⟩ := hsh
 have hrun : (execOp a.eval ⟨some d, .call { callee := .builtin .append, args := #[s, x], argTypes := #[t, t] }, tt, pos, af, gd⟩).run P w = .ok (.value v') w' := by
   simp only [execOp, resolve, invoke, builtin, Sem.run_bind, Sem.run_pure, Result.andThen_ok, List.map_toArray, List.map_cons, List.map_nil, ha.ev hs, ha.ev hx, hr]
 show Oper.upon P _ a K Q _
 rw [hrun]
 subst e1
 exact h p' c' _ _ (ha.put hd _) hm'
end
section
variable {P : Program} {n : Nat} {T : List (Nat × Value)} {a : Act} {w w0 : World} {X : Cx} {M : Mm} {tt : TypeId} {pos : String} {af : Array Edge} {gd : Option (Nat × Bool)} {Q : Exit → Act → World → Prop} {K : Act → World → Prop}
theorem e_appSA (ha : Has n T a) (m : MemOk X w0 M w) (i : Nat) {d : Tmp} {t e : TypeId} {mm bytes l c : Nat} {p : Option Addr} {z : Value} {s x : Operand} {u : Value} {xs zs : List (List D)} (hm : lk M i = some (.seg (.slice p l c) e mm xs)) (hs : evT T s = some (.slice p l c)) (hx : evT T x = some u) (hu : SrcOk (Free X M) w u mm zs)
   (ht : P.underlying t = some (.slice e)) (hinf : (P.info? e).map (fun i => (i.zero, i.size, i.bytes)) = some (some z, mm, bytes)) (hz : z.cells.size = mm) (h0 : Nat.blt 0 mm = true) (hb8 : bytes ≤ 1000) (hn : xs.length + zs.length ≤ 100000000) (hd : Nat.blt d n = true)
   (h : ∀ p c a' w', Has n ((d, .slice p (xs ++ zs).length c) :: T) a' → MemOk X w0 ((i, .seg (.slice p (xs ++ zs).length c) e mm (xs ++ zs)) :: M) w' → K a' w') : Oper.wp P ⟨some d, .call { callee := .builtin .append, args := #[s, x], argTypes := #[t, t] }, tt, pos, af, gd⟩ a w K Q := by
 have hl : l = xs.length := by
   obtain ⟨⟨cs, hown, _⟩, _⟩ := m.ok i _ hm
   rcases hown.2 with ⟨e1, h1⟩ | ⟨_, _, _, _, e1, _⟩
   · injection e1 with _ e2 _; omega
   · injection e1
 subst hl
 refine e_appS ha m i hm xs.length (Nat.le_refl _) hs hx hu ht hinf hz h0 hb8 hn hd ?_
 rw [List.take_length]
 exact h
theorem MemOk.openS (m : MemOk X w0 M w) {i : Nat} {p : Option Addr} {l c mm : Nat} {e : TypeId} {rows : List (List D)} (hm : lk M i = some (.seg (.slice p l c) e mm rows)) (j : Nat) {r : List D} (hr : rows[j]? = some r) : ∃ g off vs, p = some ⟨g, off, none⟩ ∧ l = rows.length ∧ RdL (Free X M) w vs r ∧ w.rangeAt g (off + j * mm) vs := by
 obtain ⟨⟨cs, hown, h2, h3, h4, h5⟩, hx⟩ := m.ok i _ hm
 have hj : j < rows.length := (List.getElem?_eq_some_iff.1 hr).1
 have hjc : j < cs.length := by omega
 rcases hown.2 with ⟨e1, h1⟩ | ⟨g, off, cap, cur, e1, _⟩
 · omega
 · injection e1 with e1 e2 e3
   have hc : cs[j]? = some cs[j] := List.getElem?_eq_getElem hjc
   refine ⟨g, off, cs[j], e1, e2, RdL.of ?_ (fun q x d a1 a2 => h5 j q cs[j] r x d hc hr a1 a2), fun q v hv => ?_⟩
   · rw [(h3 _ (List.getElem_mem hjc)).1, h4 r (List.mem_of_getElem? hr)]
   · have hq := (List.getElem?_eq_some_iff.1 hv).1
     have hvl := (h3 _ (List.getElem_mem hjc)).1
     have hf := flatten_at cs j q cs[j] (fun c hc => (h3 c hc).1) hc (by omega)
     have := hown.cellAt (by rw [e1, e2]) (j * mm + q) (by calc j * mm + q < j * mm + mm := by omega
       _ = (j + 1) * mm := by rw [Nat.add_mul]; omega
       _ ≤ rows.length * mm := Nat.mul_le_mul_right _ (by omega))
     rw [Nat.add_assoc, this, hf, hv]
theorem y_loadAt (ha : Has n T a) {d : Option Tmp} {t : TypeId} {td : TypeDesc} {x : Operand} {b o : Nat} {vs : List Value} (hr : w.rangeAt b o vs) (hx : evT T x = some (.pointer (some ⟨b, o, none⟩))) (hu : P.underlying t = some td) (hd : td.isRow = true) (hs : (P.info? t).map (·.size) = some vs.length) : Yl P a w ⟨d, .load t x, tt, pos, af, gd⟩ (.agg vs.toArray) := by
 show (execOp _ _).run P w = _
 rw [exec_load t x rfl b o (ha.ev hx) vs td hr hu hd hs]
/-! ### A struct of one slice of one's own, behind a pointer -/
def cxp (S : Nat → Prop) (w : World) (B : Nat) (v : Value) : Cx := ⟨B :: v.ownBlock.toList, fun b => b < w.heap.size → S b⟩
theorem SegOk.mono {S S' : Nat → Prop} {w : World} {v : Value} {e : TypeId} {m : Nat} {rows : List (List D)} (h : SegOk S w v e m rows) (hs : ∀ b, b < w.heap.size → S b → S' b) : SegOk S' w v e m rows := by
 obtain ⟨cs, h1, h2, h3, h4, h5⟩ := h
 exact ⟨cs, h1, h2, h3, h4, fun j q c r x d a1 a2 a3 a4 => (h5 j q c r x d a1 a2 a3 a4).mono (Nat.le_refl _) (fun b hlt hS => ⟨rfl, hs b hlt hS⟩)⟩
def PoolAt (S : Nat → Prop) (w : World) (B : Nat) (pt e : TypeId) (mm : Nat) (v : Value) (rows : List (List D)) (w' : World) (v' : Value) : Prop :=
 Blk w' B pt [v'] ∧ SegOk (fun b => (S b ∨ w.heap.size ≤ b) ∧ b ≠ B ∧ v'.ownBlock ≠ some b) w' v' e mm rows ∧ Keep (fun b => b = B ∨ v.ownBlock = some b) w w' ∧ (∀ b, v'.ownBlock = some b → w.heap.size ≤ b ∨ v.ownBlock = some b) ∧ v'.ownBlock ≠ some B
theorem MemOk.capS (m : MemOk X w0 M w) {i : Nat} {p : Option Addr} {l c mm : Nat} {e : TypeId} {rows : List (List D)} (hm : lk M i = some (.seg (.slice p l c) e mm rows)) : rows.length ≤ c := by
 obtain ⟨⟨cs, hown, _⟩, _⟩ := m.ok i _ hm
 rcases hown.2 with ⟨e1, h1⟩ | ⟨g, off, cap, cur, e1, _, _, h2, _⟩
 · omega
 · injection e1 with _ _ e3; omega
theorem SegOk.shape {S : Nat → Prop} {w : World} {v : Value} {e : TypeId} {m : Nat} {rows : List (List D)} (h : SegOk S w v e m rows) : ∃ p c, v = .slice p rows.length c := by
 obtain ⟨cs, h1, _⟩ := h
 rcases h1.2 with ⟨e1, e2⟩ | ⟨g, off, cap, cur, e1, _⟩
 · rw [e2]; exact ⟨_, _, e1⟩
 · exact ⟨_, _, e1⟩
end
end Go.Proofs.YtogjhjiapinmcaaDoor.K
end
section
namespace Go.Proofs.YtogjhjiapinmcaaDoor.K
open Go.ChangeShapes Go.WideShapes Go.ChangeAt Go.RowKit
set_option linter.unusedVariables false
set_option linter.unusedSimpArgs false

section
variable {P : Program} {n : Nat} {T : List (Nat × Value)} {a : Act} {w w0 : World} {X : Cx} {M : Mm} {tt tt' : TypeId} {pos pos' : String} {af af' : Array Edge} {ops : Array Oper} {rest : List Oper} {Q : Exit → Act → World → Prop}
end
end Go.Proofs.YtogjhjiapinmcaaDoor.K
end
section
namespace Go.Proofs.YtogjhjiapinmcaaDoor.K
open Go.ChangeShapes Go.WideShapes Go.ChangeAt Go.RowKit
set_option linter.unusedVariables false
set_option linter.unusedSimpArgs false

theorem SegOk.rd {S S' : Nat → Prop} {w : World} {v : Value} {e : TypeId} {mm : Nat} {rows : List (List D)} (h : SegOk S w v e mm rows) (hS : ∀ b, b < w.heap.size → S b → S' b) (hv : ∀ b, v.ownBlock = some b → S' b) : Rd S' w v (.l mm rows) := by
 obtain ⟨cs, h1, h2, h3, h4, h5⟩ := h
 rcases h1.2 with ⟨rfl, h0⟩ | ⟨g, off, cap, cur, e1, hg, hbk, hcap, h7, h8, h9⟩
 · obtain rfl := List.length_eq_zero_iff.1 h0
   exact .l0 none 0 mm
 · subst e1
   have hlt := (Array.getElem?_eq_some_iff.1 hbk).1
   refine .l mm g off cap rows (fun j q => (cs.flatten[j * mm + q]?).getD undef) (hv g rfl) hlt hcap h4 (fun j q hj hq => ?_) (fun j q r d hj hq => ?_)
   · have hjc : j < cs.length := by omega
     have hc : cs[j]? = some cs[j] := List.getElem?_eq_getElem hjc
     have hm := (h3 cs[j] (List.getElem_mem hjc)).1
     have hx : cs[j][q]? = some (cs[j][q]'(by omega)) := List.getElem?_eq_getElem (by omega)
     have hf := flatten_at cs j q cs[j] (fun c hc => (h3 c hc).1) hc hq
     have := h1.cellAt rfl (j * mm + q) (by calc j * mm + q < j * mm + mm := by omega
         _ = (j + 1) * mm := by rw [Nat.add_mul]; omega
         _ ≤ rows.length * mm := Nat.mul_le_mul_right _ (by omega))
     rw [Nat.add_assoc, this, hf, hx]
     exact ⟨rfl, (h3 cs[j] (List.getElem_mem hjc)).2 _ (List.getElem_mem _)⟩
   · have hjr := (List.getElem?_eq_some_iff.1 hj).1
     have hjc : j < cs.length := by omega
     have hc : cs[j]? = some cs[j] := List.getElem?_eq_getElem hjc
     have hm := (h3 cs[j] (List.getElem_mem hjc)).1
     have hqr := (List.getElem?_eq_some_iff.1 hq).1
     have hrm := h4 r (List.mem_of_getElem? hj)
     have hx : cs[j][q]? = some (cs[j][q]'(by omega)) := List.getElem?_eq_getElem (by omega)
     have hf := flatten_at cs j q cs[j] (fun c hc => (h3 c hc).1) hc (by omega)
     show Rd S' w ((cs.flatten[j * mm + q]?).getD undef) d
     rw [hf, hx]
     exact (h5 j q cs[j] r _ d hc hj hx hq).mono (Nat.le_refl _) (fun b hlt hs => ⟨rfl, hS b hlt hs⟩)
theorem SegOk.take {S : Nat → Prop} {w : World} {p : Option Addr} {l c mm : Nat} {e : TypeId} {rows : List (List D)} (h : SegOk S w (.slice p l c) e mm rows) (j : Nat) (hj : j ≤ rows.length) : SegOk S w (.slice p j c) e mm (rows.take j) := by
 obtain ⟨cs, h1, h2, h3, h4, h5⟩ := h
 have hft : (cs.take j).flatten = cs.flatten.take (j * mm) := flatten_take cs j (fun c hc => (h3 c hc).1) (by omega)
 have hjm : j * mm ≤ rows.length * mm := Nat.mul_le_mul_right _ hj
 have hjl : (rows.take j).length = j := by rw [List.length_take]; omega
 refine ⟨cs.take j, ?_, by simp [h2], fun c hc => h3 c (List.mem_of_mem_take hc), fun r hr => h4 r (List.mem_of_mem_take hr), fun j' q c' r x d a1 a2 a3 a4 => ?_⟩
 · rw [hjl, hft]
   refine ⟨by rw [List.length_take, h1.1]; omega, ?_⟩
   rcases h1.2 with ⟨e1, h0⟩ | ⟨g, off, cap, cur, e1, hg, hbk, hcap, h7, h8, h9⟩
   · injection e1 with e1 _ e3; subst e1; subst e3
     obtain rfl : j = 0 := by omega
     exact .inl ⟨rfl, rfl⟩
   · injection e1 with e1 _ e3; subst e1; subst e3
     exact .inr ⟨g, off, c, cur, rfl, hg, hbk, by omega, h7, h8, by rw [← h9, List.take_take, Nat.min_eq_left hjm]⟩
 · have hlt : j' < j := by
     have := (List.getElem?_eq_some_iff.1 a2).1
     rw [hjl] at this; exact this
   rw [List.getElem?_take_of_lt hlt] at a1 a2
   exact h5 j' q c' r x d a1 a2 a3 a4
section
variable {w w0 : World} {X : Cx} {M : Mm}
theorem Rd.ext {S2 : Nat → Prop} {p : Option Addr} {l c mm : Nat} {rows : List (List D)} (h : Rd S2 w0 (.slice p l c) (.l mm rows)) (m : MemOk X w0 M w) (hX : ∀ b, S2 b → b ∉ X.bad) (j : Nat) {r : List D} (hr : rows[j]? = some r) : ∃ g off vs, p = some ⟨g, off, none⟩ ∧ l = rows.length ∧ RdL S2 w0 vs r ∧ w.rangeAt g (off + j * mm) vs := by
 have hj : j < rows.length := (List.getElem?_eq_some_iff.1 hr).1
 rcases Rd.l_out h with rfl | ⟨b, off, c', f, e, hS, hb, hmm, hcell, hrd⟩
 · simp at hj
 · injection e with e1 e2 e3
   have hrm : r.length = mm := hmm r (List.mem_of_getElem? hr)
   refine ⟨b, off, (List.range mm).map (f j), e1, e2, RdL.of (by simp [hrm]) (fun q v d h1 h2 => ?_), fun q v hv => ?_⟩
   · have h1' : q < mm := by have := (List.getElem?_eq_some_iff.1 h2).1; omega
     have : v = f j q := by simpa [h1'] using h1.symm
     subst this
     exact hrd j q r _ hr h2
   · have hq' := (List.getElem?_eq_some_iff.1 hv).1
     have hq2 : q < mm := by simpa using hq'
     have : v = f j q := by simpa [hq2] using hv.symm
     subst this
     rw [World.cell?_of_block (w := w0) (m.keep.2.2.2.2 b hb (hX b hS))]
     exact (hcell j q hj hq2).1
theorem Rd.now {S2 : Nat → Prop} {v : Value} {d : D} (h : Rd S2 w0 v d) (m : MemOk X w0 M w) (hX : ∀ b, S2 b → b ∉ X.bad) : Rd S2 w v d := h.mono m.keep.size (fun b hlt hS => ⟨m.keep.2.2.2.2 b hlt (hX b hS), hS⟩)
end
end Go.Proofs.YtogjhjiapinmcaaDoor.K
end
section
namespace Go.Proofs.YtogjhjiapinmcaaDoor.K
open Go.ChangeShapes Go.WideShapes Go.ChangeAt Go.RowKit
set_option linter.unusedVariables false
set_option linter.unusedSimpArgs false

section
variable {P : Program} {n : Nat} {T : List (Nat × Value)} {a : Act} {w w0 : World} {X : Cx} {M : Mm} {tt : TypeId} {pos : String} {af : Array Edge} {gd : Option (Nat × Bool)} {Q : Exit → Act → World → Prop} {K : Act → World → Prop}
end
theorem SegOk.src {S : Nat → Prop} {w : World} {v : Value} {e : TypeId} {mm : Nat} {rows : List (List D)} (h : SegOk S w v e mm rows) : SrcOk S w v mm rows := by
 obtain ⟨cs, h1, h2, h3, h4, h5⟩ := h
 rcases h1.2 with ⟨e1, h0⟩ | ⟨g, off, cap, cur, e1, hg, hbk, hcap, h7, h8, h9⟩
 · exact ⟨none, 0, cs, by rw [e1, h0], h2, h3, h4, h5, .inl h0⟩
 · refine ⟨_, cap, cs, e1, h2, h3, h4, h5, .inr ⟨_, rfl, fun j u hj => ?_⟩⟩
   have hjl : j < rows.length * mm := by rw [← h1.1]; exact (List.getElem?_eq_some_iff.1 hj).1
   have := h1.cellAt e1 j hjl
   rw [Addr.add_mid, this, hj]
theorem MemOk.srcS {w w0 : World} {X : Cx} {M : Mm} (m : MemOk X w0 M w) {i : Nat} {v : Value} {e : TypeId} {mm : Nat} {rows : List (List D)} (hm : lk M i = some (.seg v e mm rows)) : SrcOk (Free X M) w v mm rows := (m.ok i _ hm).1.src
end Go.Proofs.YtogjhjiapinmcaaDoor.K
end
section
namespace Go.Proofs.YtogjhjiapinmcaaDoor.K
open Go.ChangeShapes Go.WideShapes Go.ChangeAt Go.RowKit
set_option linter.unusedVariables false
set_option linter.unusedSimpArgs false

inductive Shp where
 | i (k : IntKind)
 | bo
 | st
 | ns (k : IntKind)
 | l (ss : List Shp)
mutual
inductive DOk : Shp → D → Prop
 | i {k : IntKind} {z : Int} (h : (Lit.int k z).wf = true) : DOk (.i k) (.v (.int k z))
 | bo (x : Bool) : DOk .bo (.v (.bool x))
 | st (x : ByteArray) (h : x.size ≤ reachBytes) : DOk .st (.v (.string x))
 | ns {k : IntKind} {zs : List Int} (h1 : zs.length ≤ reachBytes) (h : ∀ z ∈ zs, (Lit.int k z).wf = true) : DOk (.ns k) (.ns k zs)
 | l {ss : List Shp} {rows : List (List D)} (h1 : rows.length ≤ reachBytes) (h : ∀ r ∈ rows, DOkL ss r) : DOk (.l ss) (.l ss.length rows)
inductive DOkL : List Shp → List D → Prop
 | nil : DOkL [] []
 | cons {s : Shp} {d : D} {ss : List Shp} {ds : List D} (h : DOk s d) (t : DOkL ss ds) : DOkL (s :: ss) (d :: ds)
end
theorem DOkL.len {ss : List Shp} {ds : List D} (h : DOkL ss ds) : ds.length = ss.length := by
 induction ss generalizing ds with
 | nil => cases h; rfl
 | cons s ss ih => cases h with | cons h t => simp [ih t]
inductive Fits (P : Program) : TypeId → List Shp → Prop
 | int {t : TypeId} {k : IntKind} (hu : P.underlying t = some (.int k)) : Fits P t [.i k]
 | bool {t : TypeId} (hu : P.underlying t = some .bool) : Fits P t [.bo]
 | str {t : TypeId} (hu : P.underlying t = some .string) : Fits P t [.st]
 | nums {t e : TypeId} {k : IntKind} (hu : P.underlying t = some (.slice e)) (he : P.underlying e = some (.int k)) (ce : P.cellsOf e = 1) (hb : Nat.ble 1 (P.bytesOf e) = true) : Fits P t [.ns k]
 | rows {t e : TypeId} {ss : List Shp} (hu : P.underlying t = some (.slice e)) (hf : Fits P e ss) (ce : P.cellsOf e = ss.length) (h0 : Nat.blt 0 ss.length = true) (hb : Nat.ble 1 (P.bytesOf e) = true) : Fits P t [.l ss]
 | struct {t : TypeId} {fs : Array Field} {sss : List (List Shp)} (hu : P.underlying t = some (.struct fs)) (ce : P.cellsOf t = sss.flatten.length) (hl : sss.length = fs.size)
     (ho : ∀ (i : Nat) (f : Field) (s : List Shp), fs[i]? = some f → sss[i]? = some s → f.offset = (sss.take i).flatten.length ∧ P.cellsOf f.type = s.length)
     (hf : ∀ (i : Nat) (f : Field) (s : List Shp), fs[i]? = some f → sss[i]? = some s → Fits P f.type s) : Fits P t sss.flatten
 | array {t e : TypeId} {n : Nat} {ss : List Shp} (hu : P.underlying t = some (.array n e)) (hf : Fits P e ss) (ce : P.cellsOf e = ss.length) (ct : P.cellsOf t = (List.replicate n ss).flatten.length) : Fits P t (List.replicate n ss).flatten
inductive FitsL (P : Program) : List Field → Nat → List (List Shp) → Prop
 | nil (o : Nat) : FitsL P [] o []
 | cons {f : Field} {fs : List Field} {o : Nat} {s : List Shp} {ss : List (List Shp)} (ho : f.offset = o) (hc : P.cellsOf f.type = s.length) (hf : Fits P f.type s) (t : FitsL P fs (o + s.length) ss) : FitsL P (f :: fs) o (s :: ss)
theorem FitsL.at {P : Program} {fs : List Field} {o : Nat} {ss : List (List Shp)} (h : FitsL P fs o ss) : ∀ (i : Nat) (f : Field) (s : List Shp), fs[i]? = some f → ss[i]? = some s → (f.offset = o + (ss.take i).flatten.length ∧ P.cellsOf f.type = s.length) ∧ Fits P f.type s := by
 induction h with
 | nil o => intro i f s h1; simp at h1
 | cons ho hc hf t ih =>
   intro i f s h1 h2
   cases i with
   | zero => simp at h1 h2; subst h1; subst h2; exact ⟨⟨by simpa using ho, hc⟩, hf⟩
   | succ i =>
     have := ih i f s (by simpa using h1) (by simpa using h2)
     refine ⟨⟨?_, this.1.2⟩, this.2⟩
     rw [this.1.1]; simp; omega
theorem FitsL.len {P : Program} {fs : List Field} {o : Nat} {ss : List (List Shp)} (h : FitsL P fs o ss) : ss.length = fs.length := by
 induction h with
 | nil => rfl
 | cons _ _ _ _ ih => simp [ih]
theorem Fits.mk {P : Program} {t : TypeId} {fs : Array Field} {sss : List (List Shp)} {ss : List Shp} (hu : P.underlying t = some (.struct fs)) (ce : P.cellsOf t = ss.length) (he : sss.flatten = ss) (h : FitsL P fs.toList 0 sss) : Fits P t ss := by
 subst he
 refine .struct hu ce (by simpa using h.len) (fun i f s h1 h2 => ?_) (fun i f s h1 h2 => (h.at i f s (by simpa using h1) h2).2)
 have := (h.at i f s (by simpa using h1) h2).1
 exact ⟨by rw [this.1, Nat.zero_add], this.2⟩
theorem DOk.l_out {ss : List Shp} {d : D} (h : DOk (.l ss) d) : ∃ rows, d = .l ss.length rows ∧ rows.length ≤ reachBytes ∧ ∀ r ∈ rows, DOkL ss r := by cases h with | l h1 h2 => exact ⟨_, rfl, h1, h2⟩
theorem DOk.ns_out {k : IntKind} {d : D} (h : DOk (.ns k) d) : ∃ zs, d = .ns k zs ∧ zs.length ≤ reachBytes ∧ ∀ z ∈ zs, (Lit.int k z).wf = true := by cases h with | ns h1 h2 => exact ⟨_, rfl, h1, h2⟩
end Go.Proofs.YtogjhjiapinmcaaDoor.K
end
section
namespace Go.Proofs.YtogjhjiapinmcaaDoor.K
open Go.ChangeShapes Go.WideShapes Go.ChangeAt Go.RowKit
set_option linter.unusedVariables false
set_option linter.unusedSimpArgs false

def ownL (M : Mm) : List Nat := M.filterMap (fun p => p.2.blk)
def cxM (X : Cx) (M : Mm) (w : World) (L : Mm) : Cx := ⟨ownL L, fun b => b < w.heap.size → Free X M b⟩
def Res.pass : Res → Bool
 | .num _ _ _ _ => false
 | .row _ _ _ _ => false
 | .rowC _ _ _ _ _ => false
 | _ => true
def dropM (M : Mm) (ids : List Nat) : Mm := M.filter (fun p => !(ids.any (Nat.beq p.1)))
theorem lk_mem {α : Type} : ∀ {M : List (Nat × α)} {i : Nat} {r : α}, lk M i = some r → (i, r) ∈ M
 | [], i, r, h => by cases h
 | (k, x) :: t, i, r, h => by
   rw [lk_cons] at h
   split at h
   · rename_i e; subst e; cases h; exact List.mem_cons_self
   · exact List.mem_cons_of_mem _ (lk_mem h)
theorem renM_mem {M : Mm} : ∀ {ps : List (Nat × Nat)} {i : Nat} {r : Res}, (i, r) ∈ renM M ps → ∃ j, (i, j) ∈ ps ∧ lk M j = some r
 | [], i, r, h => by cases h
 | (i', j) :: t, i, r, h => by
   rw [renM] at h
   split at h
   · rename_i r' hr
     rcases List.mem_cons.1 h with e | h
     · injection e with e1 e2; subst e1; subst e2; exact ⟨j, List.mem_cons_self, hr⟩
     · obtain ⟨j', h1, h2⟩ := renM_mem h; exact ⟨j', List.mem_cons_of_mem _ h1, h2⟩
   · obtain ⟨j', h1, h2⟩ := renM_mem h; exact ⟨j', List.mem_cons_of_mem _ h1, h2⟩
theorem ownL_of {M : Mm} {i b : Nat} {r : Res} (h : lk M i = some r) (hb : r.blk = some b) : b ∈ ownL M := List.mem_filterMap.2 ⟨(i, r), lk_mem h, hb⟩
theorem ownL_ren {M : Mm} {ps : List (Nat × Nat)} {b : Nat} (h : b ∈ ownL (renM M ps)) : ∃ i j r, (i, j) ∈ ps ∧ lk M j = some r ∧ r.blk = some b := by
 obtain ⟨⟨i, r⟩, h1, h2⟩ := List.mem_filterMap.1 h
 obtain ⟨j, h3, h4⟩ := renM_mem h1
 exact ⟨i, j, r, h3, h4, h2⟩
theorem lk_app {α : Type} : ∀ {A B : List (Nat × α)} {i : Nat}, lk (A ++ B) i = (lk A i).or (lk B i)
 | [], B, i => rfl
 | (k, x) :: t, B, i => by
   rw [List.cons_append, lk_cons, lk_cons]
   split
   · rfl
   · exact lk_app
theorem dropM_lk {ids : List Nat} : ∀ {M : Mm} {i : Nat} {r : Res}, lk (dropM M ids) i = some r → i ∉ ids ∧ lk M i = some r
 | [], i, r, h => by cases h
 | (k, x) :: t, i, r, h => by
   unfold dropM at h
   rw [List.filter_cons] at h
   split at h
   · rename_i hk
     rw [lk_cons] at h
     rw [lk_cons]
     split at h
     · rename_i e; subst e
       rw [if_pos rfl]
       refine ⟨fun hm => ?_, h⟩
       simp at hk
       exact hk _ hm rfl
     · rename_i e
       rw [if_neg e]
       exact dropM_lk h
   · rename_i hk
     obtain ⟨h1, h2⟩ := dropM_lk (M := t) h
     refine ⟨h1, ?_⟩
     rw [lk_cons]
     split
     · rename_i e; subst e
       simp at hk
       exact absurd hk h1
     · exact h2
section
variable {w w0 : World} {X : Cx} {M : Mm}
theorem MemOk.into (m : MemOk X w0 M w) (ps : List (Nat × Nat)) (hp : (ps.all fun p => ps.all fun q => !(p.2 == q.2) || p.1 == q.1) = true) (h2 : (renM M ps).all (fun p => p.2.pass) = true) : MemOk (cxM X M w (renM M ps)) w (renM M ps) w where
 keep := Keep.refl _ _
 fresh := fun b hb hlt => absurd hlt (by omega)
 ok i r h := by
   obtain ⟨j, h3, h4⟩ := renM_out h
   have hpass : r.pass = true := List.all_eq_true.1 h2 _ (lk_mem h)
   have hown : ∀ b, Own (renM M ps) b → Own M b := fun b ⟨q, s, hq, hs⟩ => by obtain ⟨q', _, h5⟩ := renM_out hq; exact ⟨q', s, h5, hs⟩
   have hfree : ∀ b, b < w.heap.size → Free X M b → w.heap[b]? = w.heap[b]? ∧ Free (cxM X M w (renM M ps)) (renM M ps) b := fun b hb hF => ⟨rfl, fun _ => hF, fun ho => hF.2 (hown b ho)⟩
   have hbad : ∀ b, r.blk = some b → b ∈ ownL (renM M ps) := fun b hb => ownL_of h hb
   have ho := m.ok j r h4
   cases r with
   | dat v d => exact Rd.mono ho (Nat.le_refl _) hfree
   | box g e cs => exact ⟨ho.1, .inr (hbad g rfl)⟩
   | num v e k zs => cases hpass
   | row v e mm rows => cases hpass
   | rowC v e mm rows cs => cases hpass
   | seg v e mm rows => exact ⟨ho.1.mono (fun b hb hF => (hfree b hb hF).2), fun b hb => .inr (hbad b hb)⟩
   | cel b o vs => exact ⟨(hfree b ho.2.1 ho.1).2, ho.2⟩
   | any g => exact ⟨ho.1, .inr (hbad g rfl)⟩
   | gone => trivial
 sep i j r s b h1 h2' hr hs := by
   obtain ⟨i', a1, a2⟩ := renM_out h1
   obtain ⟨j', b1, b2⟩ := renM_out h2'
   obtain rfl := m.sep i' j' r s b a2 b2 hr hs
   rw [List.all_eq_true] at hp
   have h3 := hp _ a1
   rw [List.all_eq_true] at h3
   have h4 := h3 _ b1
   simpa using h4
theorem Res.ok_low {N N' : Nat} {X X' : List Nat} {S : Nat → Prop} {w : World} {r : Res} (h : r.ok N X S w) (hN : N' ≤ N) (hX : ∀ b, r.blk = some b → b ∈ X → N' ≤ b ∨ b ∈ X') : r.ok N' X' S w := by
 have low : ∀ {e : TypeId} {s : Nat} {v : Value} {n : Nat} {xs : List Value}, w.ownsRow N e s v n xs → w.ownsRow N' e s v n xs := by
   intro e s v n xs h
   refine ⟨h.1, ?_⟩
   rcases h.2 with hn | ⟨g, cap, cur, rfl, hg, rest⟩
   · exact .inl hn
   · exact .inr ⟨g, cap, cur, rfl, Nat.le_trans hN hg, rest⟩
 have two : ∀ b, r.blk = some b → (N ≤ b ∨ b ∈ X) → (N' ≤ b ∨ b ∈ X') := fun b hb h => h.elim (fun h => .inl (Nat.le_trans hN h)) (hX b hb)
 cases r with
 | dat v d => exact h
 | box g e cs => exact ⟨h.1, two g rfl h.2⟩
 | num v e k zs => exact low h
 | row v e mm rows => obtain ⟨cs, h1, h2⟩ := h; exact ⟨cs, low h1, h2⟩
 | rowC v e mm rows cs => exact ⟨low h.1, h.2⟩
 | seg v e mm rows => exact ⟨h.1, fun b hb => two b hb (h.2 b hb)⟩
 | cel b o vs => exact h
 | any g => exact ⟨h.1, two g rfl h.2⟩
 | gone => trivial
theorem MemOk.back (m : MemOk X w0 M w) {ps : List (Nat × Nat)} {L : Mm} {w' : World} (m' : MemOk (cxM X M w (renM M ps)) w L w') (qs : List (Nat × Nat)) (hq : (qs.all fun p => qs.all fun q => !(p.2 == q.2) || p.1 == q.1) = true) : MemOk X w0 (renM L qs ++ dropM M (ps.map (·.2))) w' := by
 -- the blocks that the call might write
 have hbad : ∀ b, b ∈ ownL (renM M ps) → ∃ j r, j ∈ ps.map (·.2) ∧ lk M j = some r ∧ r.blk = some b := fun b hb => by
   obtain ⟨i, j, r, h1, h2, h3⟩ := ownL_ren hb
   exact ⟨j, r, List.mem_map.2 ⟨(i, j), h1, rfl⟩, h2, h3⟩
 have hbadX : ∀ b, b ∈ ownL (renM M ps) → b < w.heap.size ∧ (w0.heap.size ≤ b ∨ b ∈ X.bad) := fun b hb => by
   obtain ⟨j, r, _, h2, h3⟩ := hbad b hb
   exact Res.blk_lt (m.ok j r h2) h3
 have hcase : ∀ i r, lk (renM L qs ++ dropM M (ps.map (·.2))) i = some r → (∃ j, (i, j) ∈ qs ∧ lk L j = some r) ∨ (i ∉ ps.map (·.2) ∧ lk M i = some r) := fun i r h => by
   rw [lk_app] at h
   cases hr : lk (renM L qs) i with
   | some r' =>
     rw [hr] at h
     injection h with h; subst h
     exact .inl (renM_out hr)
   | none =>
     rw [hr] at h
     exact .inr (dropM_lk h)
 have hnew : ∀ j r b, lk L j = some r → r.blk = some b → w.heap.size ≤ b ∨ b ∈ ownL (renM M ps) := fun j r b h1 h2 => (Res.blk_lt (m'.ok j r h1) h2).2
 have hold : ∀ i r b, i ∉ ps.map (·.2) → lk M i = some r → r.blk = some b → b < w.heap.size ∧ b ∉ ownL (renM M ps) := fun i r b h1 h2 h3 => by
   refine ⟨(Res.blk_lt (m.ok i r h2) h3).1, fun hb => ?_⟩
   obtain ⟨j, s, h4, h5, h6⟩ := hbad b hb
   obtain rfl := m.sep i j r s b h2 h5 h3 h6
   exact h1 h4
 have hsame : ∀ b, b < w.heap.size → b ∉ ownL (renM M ps) → w'.heap[b]? = w.heap[b]? := fun b hb hn => m'.keep.2.2.2.2 b hb hn
 have hfree : ∀ b, b < w.heap.size → Free X M b → Free X (renM L qs ++ dropM M (ps.map (·.2))) b := fun b hb hF => by
   refine ⟨hF.1, ?_⟩
   rintro ⟨i, r, hi, hr⟩
   rcases hcase i r hi with ⟨j, _, h2⟩ | ⟨_, h2⟩
   · rcases hnew j r b h2 hr with h | h
     · omega
     · obtain ⟨j', s, _, h5, h6⟩ := hbad b h
       exact hF.2 ⟨j', s, h5, h6⟩
   · exact hF.2 ⟨i, r, h2, hr⟩
 have hnb : ∀ b, b < w.heap.size → Free X M b → b ∉ ownL (renM M ps) := fun b hb hF h => by
   obtain ⟨j', s, _, h5, h6⟩ := hbad b h
   exact hF.2 ⟨j', s, h5, h6⟩
 refine ⟨⟨m'.keep.1.trans m.keep.1, m'.keep.2.1.trans m.keep.2.1, m'.keep.2.2.1.trans m.keep.2.2.1, Nat.le_trans m.keep.size m'.keep.size, fun b hb hn => ?_⟩, m.fresh, fun i r hi => ?_, fun i j r s b hi hj hr hs => ?_⟩
 · rw [hsame b (Nat.lt_of_lt_of_le hb m.keep.size) (fun h => (hbadX b h).2.elim (fun h => by omega) hn)]
   exact m.keep.2.2.2.2 b hb hn
 · rcases hcase i r hi with ⟨j, h1, h2⟩ | ⟨h1, h2⟩
   · have h3 := m'.ok j r h2
     have h4 : r.ok w0.heap.size X.bad (Free (cxM X M w (renM M ps)) L) w' := Res.ok_low h3 m.keep.size (fun b _ hb => (hbadX b hb).2)
     refine Res.ok_mono h4 (Nat.le_refl _) (fun b hb hF => ⟨rfl, ?_⟩) (fun _ _ => rfl)
     by_cases hbw : b < w.heap.size
     · exact hfree b hbw (hF.1 hbw)
     · refine ⟨m.fresh b (by have := m.keep.size; omega), ?_⟩
       rintro ⟨i', r', hi', hr'⟩
       rcases hcase i' r' hi' with ⟨j', _, h6⟩ | ⟨h5, h6⟩
       · exact hF.2 ⟨j', r', h6, hr'⟩
       · have := (hold i' r' b h5 h6 hr').1; omega
   · exact Res.ok_mono (m.ok i r h2) m'.keep.size (fun b hb hF => ⟨hsame b hb (hnb b hb hF), hfree b hb hF⟩) (fun b hb => hsame b (hold i r b h1 h2 hb).1 (hold i r b h1 h2 hb).2)
 · rcases hcase i r hi with ⟨i', a1, a2⟩ | ⟨a1, a2⟩ <;> rcases hcase j s hj with ⟨j', b1, b2⟩ | ⟨b1, b2⟩
   · obtain rfl := m'.sep i' j' r s b a2 b2 hr hs
     rw [List.all_eq_true] at hq
     have h3 := hq _ a1
     rw [List.all_eq_true] at h3
     have h4 := h3 _ b1
     simpa using h4
   · exfalso
     have h1 := hold j s b b1 b2 hs
     rcases hnew i' r b a2 hr with h | h
     · omega
     · exact h1.2 h
   · exfalso
     have h1 := hold i r b a1 a2 hr
     rcases hnew j' s b b2 hs with h | h
     · omega
     · exact h1.2 h
   · exact m.sep i j r s b a2 b2 hr hs
end
end Go.Proofs.YtogjhjiapinmcaaDoor.K
end
section
namespace Go.Proofs.YtogjhjiapinmcaaDoor.K
open Go.ChangeShapes Go.WideShapes Go.ChangeAt Go.RowKit
set_option linter.unusedVariables false
set_option linter.unusedSimpArgs false

abbrev cn (w : World) : Cx := cx (fun _ => False) w
abbrev New (w : World) (b : Nat) : Prop := w.heap.size ≤ b
section
variable {w w0 : World} {X : Cx} {M : Mm}
theorem cn_new {b : Nat} (h : Free (cn w0) M b) : New w0 b := by
 by_cases hb : b < w0.heap.size
 · exact (h.1 hb).elim
 · show w0.heap.size ≤ b; omega
theorem MemOk.outF (m : MemOk (cn w0) w0 M w) {i : Nat} {v : Value} {d : D} (h : lk M i = some (.dat v d)) : Rd (New w0) w v d := (m.ok i _ h : Rd _ _ _ _).cast (fun _ => cn_new)
theorem MemOk.callF (m : MemOk X w0 M w) (i : Nat) (hi : lk M i = none) {w' : World} (hb : Below w.heap.size w w') {u : Value} {d : D} (h : Rd (New w) w' u d) : MemOk X w0 ((i, .dat u d) :: M) w' :=
 (m.later hb).dat i hi (h.cast (fun b hb => m.free_out (.inr hb)))
theorem keepNow (m : MemOk X w0 M w) (hX : X.bad = []) {b : Nat} (hb : b < w0.heap.size) : w.heap[b]? = w0.heap[b]? := m.keep.2.2.2.2 b hb (by rw [hX]; exact List.not_mem_nil)
theorem Blk.now {g : Nat} {e : TypeId} {cs : List Value} (h : Blk w0 g e cs) (m : MemOk X w0 M w) (hX : X.bad = []) : Blk w g e cs := (keepNow m hX h.lt).trans h
theorem Rd.now' {S2 : Nat → Prop} {v : Value} {d : D} (h : Rd S2 w0 v d) (m : MemOk X w0 M w) (hX : X.bad = []) : Rd S2 w v d := h.now m (fun b _ => by rw [hX]; exact List.not_mem_nil)
theorem Rd.extA {S2 : Nat → Prop} {p : Option Addr} {l c mm : Nat} {rows : List (List D)} (h : Rd S2 w0 (.slice p l c) (.l mm rows)) (j : Nat) {r : List D} (hr : rows[j]? = some r) : ∃ g off vs, p = some ⟨g, off, none⟩ ∧ l = rows.length ∧ RdL S2 w0 vs r ∧ ∀ {X : Cx} {M : Mm} {w : World}, MemOk X w0 M w → X.bad = [] → w.rangeAt g (off + j * mm) vs := by
 have hj : j < rows.length := (List.getElem?_eq_some_iff.1 hr).1
 rcases Rd.l_out h with rfl | ⟨b, off, c', f, e, hS, hb, hmm, hcell, hrd⟩
 · simp at hj
 · injection e with e1 e2 e3
   have hrm : r.length = mm := hmm r (List.mem_of_getElem? hr)
   refine ⟨b, off, (List.range mm).map (f j), e1, e2, RdL.of (by simp [hrm]) (fun q v d h1 h2 => ?_), fun m hX q v hv => ?_⟩
   · have h1' : q < mm := by have := (List.getElem?_eq_some_iff.1 h2).1; omega
     have : v = f j q := by simpa [h1'] using h1.symm
     subst this
     exact hrd j q r _ hr h2
   · have hq' := (List.getElem?_eq_some_iff.1 hv).1
     have hq2 : q < mm := by simpa using hq'
     have : v = f j q := by simpa [hq2] using hv.symm
     subst this
     rw [World.cell?_of_block (w := w0) (keepNow m hX hb)]
     exact (hcell j q hj hq2).1
theorem Rd.extN {S2 : Nat → Prop} {p : Option Addr} {l c : Nat} {k : IntKind} {zs : List Int} (h : Rd S2 w0 (.slice p l c) (.ns k zs)) (j : Nat) (hj : j < zs.length) : ∃ g off, p = some ⟨g, off, none⟩ ∧ l = zs.length ∧ ∀ {X : Cx} {M : Mm} {w : World}, MemOk X w0 M w → X.bad = [] → w.rangeAt g (off + j * 1) [.int k (zs.getD j 0)] := by
 obtain ⟨a, c', e, hc, h0 | ⟨b, off, rfl, hS, hb, hcell⟩⟩ := h.ns_out
 · omega
 · injection e with e1 e2 e3
   refine ⟨b, off, e1, e2, fun m hX q v hv => ?_⟩
   obtain rfl : q = 0 := by have := (List.getElem?_eq_some_iff.1 hv).1; simpa using this
   simp at hv; subst hv
   rw [World.cell?_of_block (w := w0) (keepNow m hX hb), Nat.add_zero, Nat.mul_one]
   exact hcell j hj
end
section
variable {P : Program} {n : Nat} {T : List (Nat × Value)} {a : Act} {w w0 : World} {X : Cx} {M : Mm} {tt : TypeId} {pos : String} {af : Array Edge} {gd : Option (Nat × Bool)} {Q : Exit → Act → World → Prop} {K : Act → World → Prop} {d : Option Tmp}
theorem Blk.sub {g : Nat} {e : TypeId} {cs : List Value} (h : Blk w g e cs) (o k : Nat) : w.rangeAt g o ((cs.drop o).take k) := fun j v hj => by
 have hj' : j < k := by have := (List.getElem?_eq_some_iff.1 hj).1; rw [List.length_take] at this; omega
 rw [List.getElem?_take_of_lt hj', List.getElem?_drop] at hj
 rw [h.cell]; exact hj
theorem y_loadAt1 (ha : Has n T a) {t : TypeId} {td : TypeDesc} {x : Operand} {b o q q' : Nat} {vs : List Value} {v : Value} (hr : w.rangeAt b o vs) (hx : evT T x = some (.pointer (some ⟨b, q', none⟩))) (hq : q' = o + q) (hv : nthL vs q = some v) (hu : P.underlying t = some td) (hd : td.isRow = false) : Yl P a w ⟨d, .load t x, tt, pos, af, gd⟩ v := by
 show (execOp _ _).run P w = _
 subst hq
 have hc' : w.cell? ⟨b, o + q, none⟩ = some v := hr q v (by rw [nthL_eq]; exact hv)
 simp [execOp, ha.ev hx, Instr.loadAt, Instr.sureAddr, run_load1 hu hd hc']
theorem y_min (ha : Has n T a) {t t2 : TypeId} {x y : Operand} {k k2 : IntKind} {p q r : Int} (hx : evT T x = some (.int k p)) (hy : evT T y = some (.int k2 q)) (hr : min p q = r) : Yl P a w ⟨d, .call { callee := .builtin .min, args := #[x, y], argTypes := #[t, t2] }, tt, pos, af, gd⟩ (.int k r) := by
 show (execOp _ _).run P w = _
 have e : (if q < p then q else p) = r := by rw [← hr]; split <;> omega
 simp [execOp, resolve, invoke, builtin, ha.ev hx, ha.ev hy, Builtin.min_, Builtin.min2, e]
theorem y_cap (h : Has n T a) {t e : TypeId} {x : Operand} {p : Option Addr} {l c : Nat} (hx : evT T x = some (.slice p l c)) (hu : P.underlying t = some (.slice e)) : Yl P a w ⟨d, .call { callee := .builtin .cap, args := #[x], argTypes := #[t] }, tt, pos, af, gd⟩ (.int .i64 c) := by
 show (execOp _ _).run P w = _; simp [execOp, resolve, invoke, builtin, h.ev hx, Builtin.cap_, run_underlying hu, goInt]
theorem ret3 (ha : Has n T a) {fn : Func} {t s r : Tmp} {v u x : Value} {R : Ending → World → Prop} (hr : fn.results = #[.tmp t, .tmp s, .tmp r]) (hv : lk T t = some v) (hu : lk T s = some u) (hx : lk T r = some x) (h : R (.returned (.tuple #[v, u, x])) w) : bodyPost P fn R .ret a w :=
 ⟨ha.d, _, by
   have h1 : (results fn a.tmps).run P w = .ok (.tuple #[a.tmps.getD t undef, a.tmps.getD s undef, a.tmps.getD r undef]) w := by simp [results, hr]
   rw [h1, ha.h t v hv, ha.h s u hu, ha.h r x hx], h⟩
end
end Go.Proofs.YtogjhjiapinmcaaDoor.K
end
section
namespace Go.Proofs.YtogjhjiapinmcaaDoor.K
open Go.ChangeShapes Go.WideShapes Go.ChangeAt Go.RowKit
set_option linter.unusedVariables false
set_option linter.unusedSimpArgs false

theorem fold_set (off : Nat) : ∀ (l : List Value) (k : Nat) (A : List Value), off + k + l.length ≤ A.length → ((l.zipIdx k).foldl (fun (cs : Array Value) (p : Value × Nat) => cs.setIfInBounds (off + p.2) p.1) A.toArray).toList = A.take (off + k) ++ l ++ A.drop (off + k + l.length)
 | [], k, A, _ => by simp
 | c :: l, k, A, h => by
   simp only [List.length_cons] at h
   rw [List.zipIdx_cons, List.foldl_cons]
   have e : A.toArray.setIfInBounds (off + k) c = (A.set (off + k) c).toArray := by simp
   rw [e, fold_set off l (k + 1) (A.set (off + k) c) (by rw [List.length_set]; omega)]
   have hk : off + k < A.length := by omega
   have e1 : (A.set (off + k) c).take (off + (k + 1)) = A.take (off + k) ++ [c] := by
     rw [show off + (k + 1) = off + k + 1 from by omega, List.take_succ_eq_append_getElem (by rw [List.length_set]; exact hk), List.getElem_set_self, List.take_set_of_le (Nat.le_refl _)]
   have e2 : (A.set (off + k) c).drop (off + (k + 1) + l.length) = A.drop (off + k + (l.length + 1)) := by
     rw [List.drop_set_of_lt (by omega)]; congr 1; omega
   rw [e1, e2, List.length_cons]
   simp
def putL : List Value → List (Nat × Nat) → List (Nat × Value) → Option (List Value)
 | z, _, [] => some z
 | z, ps, (i, v) :: r => match nthL ps i with
   | some (off, sz) => bif Nat.beq v.cells.toList.length sz && Nat.ble (off + sz) z.length then putL (z.take off ++ v.cells.toList ++ z.drop (off + sz)) ps r else none
   | none => none
theorem putL_fill (ps : List (Nat × Nat)) : ∀ (pl : List (Nat × Value)) (z cs : List Value), putL z ps pl = some cs → Instr.fill (fun i => ps[i]?) z.toArray pl = some cs.toArray
 | [], z, cs, h => by unfold putL at h; cases h; rfl
 | (i, v) :: r, z, cs, h => by
   unfold putL at h
   cases hp : nthL ps i with
   | none => rw [hp] at h; cases h
   | some q =>
     obtain ⟨off, sz⟩ := q
     rw [hp] at h
     dsimp only at h
     cases hb : (Nat.beq v.cells.toList.length sz && Nat.ble (off + sz) z.length) with
     | false => rw [hb] at h; cases h
     | true =>
       rw [hb] at h
       dsimp only [cond] at h
       rw [Bool.and_eq_true] at hb
       have h1 := Nat.eq_of_beq_eq_true hb.1
       have h2 := Nat.le_of_ble_eq_true hb.2
       have hsz : v.cells.size = sz := by simpa using h1
       rw [Instr.fill]
       rw [nthL_eq, hp]
       dsimp only
       have hc : ¬ ((v.cells.size ≠ sz || off + v.cells.size > z.toArray.size) = true) := by
         simp [hsz]; omega
       have e : (v.cells.zipIdx.foldl (fun cs (x : Value × Nat) => cs.setIfInBounds (off + x.2) x.1) z.toArray) = (z.take off ++ v.cells.toList ++ z.drop (off + sz)).toArray := by
         apply Array.ext'
         have := fold_set off v.cells.toList 0 z (by rw [Nat.add_zero, h1]; exact h2)
         rw [Nat.add_zero, h1] at this
         rw [← this, ← Array.foldl_toList, Array.toList_zipIdx]
       rw [if_neg (by simpa using hc)]
       have := putL_fill ps r _ _ h
       rw [← this, ← e]
def placesS (P : Program) (t : TypeId) : Option (List (Nat × Nat)) :=
 match P.underlying t with
 | some (.struct fs) => fs.toList.mapM (fun f => (P.info? f.type).map fun i => (f.offset, i.size))
 | _ => none
section
variable {P : Program} {n : Nat} {T : List (Nat × Value)} {a : Act} {w w0 : World} {X : Cx} {M : Mm} {tt : TypeId} {pos : String} {af : Array Edge} {gd : Option (Nat × Bool)} {Q : Exit → Act → World → Prop} {d : Option Tmp}
theorem built_put {t : TypeId} {z cs : List Value} {ps : List (Nat × Nat)} (hz : ((P.info? t).bind (·.zero)).map (·.cells.toList) = some z) (hps : placesS P t = some ps) (pl : List (Nat × Value)) (hp : putL z ps pl = some cs) : P.built t pl = some cs.toArray := by
 unfold placesS at hps
 unfold Program.built
 cases hi : P.info? t with
 | none => simp [hi] at hz
 | some it =>
   cases hu : P.underlying t with
   | none => simp [hu] at hps
   | some td =>
     cases td <;> try (simp [hu] at hps; done)
     case struct fs =>
       cases hzz : it.zero with
       | none => simp [hi, hzz] at hz
       | some zz =>
         have hzl : zz.cells.toList = z := by simpa [hi, hzz] using hz
         have hzc : zz.cells = z.toArray := by rw [← hzl]
         simp only [hu] at hps
         simp only [hzz, hps, hzc]
         have := putL_fill ps pl z cs hp
         simpa using this
theorem y_buildG (h : Has n T a) {t : TypeId} {parts : Array (Nat × Operand)} {z cs : List Value} {pl : List (Nat × Value)} {ps : List (Nat × Nat)} (hp : K.evP T parts.toList = some pl) (hz : ((P.info? t).bind (·.zero)).map (·.cells.toList) = some z) (hps : placesS P t = some ps) (hc : putL z ps pl = some cs) : Yl P a w ⟨d, .build t parts, tt, pos, af, gd⟩ (.agg cs.toArray) := by
 have hb := built_put hz hps pl hc
 have hpl := h.evP hp
 show (execOp _ _).run P w = _
 have hr := run_build (P := P) w t (parts.map fun (i, x) => (i, a.eval x)) cs.toArray (by rw [Array.toList_map]; rw [← hpl] at hb; exact hb)
 simp only [execOp, Sem.run_bind, hr, Result.andThen_ok, Sem.run_pure]
end
section
variable {P : Program} {n : Nat} {T : List (Nat × Value)} {a : Act} {w : World} {tt : TypeId} {pos : String} {af : Array Edge} {ops : Array Oper} {rest : List Oper} {Q : Exit → Act → World → Prop}
theorem Has.unyielded (ha : Has n T a) {j t : Nat} (hj : (ops[j]?).bind (·.dst) = some t) (hb : lk T t = some undef) (ht : Nat.blt t n = true) : Go.yielded ops a.tmps j = none := by
 have hlt : t < a.tmps.size := by rw [ha.sz]; simpa [Nat.blt_eq] using ht
 have := ha.h t _ hb
 unfold Go.yielded
 rw [hj]
 show (match a.tmps[t]? with | some (.bool b) => some b | _ => none) = none
 rw [Array.getElem?_eq_getElem hlt]
 have e : a.tmps[t] = undef := by simpa [Array.getD, hlt] using this
 rw [e]; rfl
theorem st_skipU {d : Tmp} {op : Op} {j t : Nat} {b : Bool} (ha : Has n T a) (hj : (ops[j]?).bind (·.dst) = some t) (hb : lk T t = some undef) (ht2 : Nat.blt t n = true) (ht : Nat.blt d n = true) (h : ∀ a', Has n ((d, undef) :: T) a' → wpList P ops Q rest a' w) : wpList P ops Q (⟨some d, op, tt, pos, af, some (j, b)⟩ :: rest) a w := by
 refine wpList_step fun K hK => ?_
 rw [if_neg (by simp [Region.wanted, ha.unyielded hj hb ht2])]
 exact hK _ _ (h _ (ha.put ht _))
variable {md : Region.Mode} {S : World → Prop} {e : Nat} {listed : Array Bool} {fuel : Nat}
end
section
variable {P : Program} {n : Nat} {T : List (Nat × Value)} {a : Act} {w w0 : World} {X : Cx} {M : Mm} {tt : TypeId} {pos : String} {af : Array Edge} {gd : Option (Nat × Bool)} {d : Option Tmp}
end
section
variable {P : Program} {n : Nat} {T : List (Nat × Value)} {a : Act} {w : World} {tt : TypeId} {pos : String} {af : Array Edge} {gd : Option (Nat × Bool)} {Q : Exit → Act → World → Prop} {K : Act → World → Prop}
theorem e_y {d : Tmp} {op : Op} {v : Value} (ha : Has n T a) (ht : Nat.blt d n = true) (hy : Yl P a w ⟨some d, op, tt, pos, af, gd⟩ v) (h : ∀ a', Has n ((d, v) :: T) a' → K a' w) : Oper.wp P ⟨some d, op, tt, pos, af, gd⟩ a w K Q := by
 show Oper.upon P _ a K Q _
 rw [hy]
 exact h _ (ha.put ht v)
end
end Go.Proofs.YtogjhjiapinmcaaDoor.K
end
section
namespace Go.Proofs.YtogjhjiapinmcaaDoor.K
open Go.ChangeShapes Go.WideShapes Go.ChangeAt Go.RowKit
set_option linter.unusedVariables false
set_option linter.unusedSimpArgs false

theorem RowOk.cast {N : Nat} {S S' : Nat → Prop} {w : World} {v : Value} {e : TypeId} {m : Nat} {rows : List (List D)} (h : RowOk N S w v e m rows) (hs : ∀ b, S b → S' b) : RowOk N S' w v e m rows := by
 obtain ⟨cs, h1, h2, h3, h4, h5⟩ := h
 exact ⟨cs, h1, h2, h3, h4, fun j q c r x d a1 a2 a3 a4 => (h5 j q c r x d a1 a2 a3 a4).cast hs⟩
section
variable {P : Program} {n : Nat} {T : List (Nat × Value)} {a : Act} {w w0 : World} {X : Cx} {M : Mm} {tt : TypeId} {pos : String} {af : Array Edge} {gd : Option (Nat × Bool)} {Q : Exit → Act → World → Prop} {K : Act → World → Prop}
end
end Go.Proofs.YtogjhjiapinmcaaDoor.K
end
section
namespace Go.Proofs.YtogjhjiapinmcaaDoor.K
open Go.ChangeShapes Go.WideShapes Go.ChangeAt Go.RowKit
set_option linter.unusedVariables false
set_option linter.unusedSimpArgs false

section
variable {P : Program} {n : Nat} {T : List (Nat × Value)} {a : Act} {w : World} {d : Option Tmp} {tt : TypeId} {pos : String} {af : Array Edge} {gd : Option (Nat × Bool)}
end
section
variable {P : Program} {n : Nat} {T : List (Nat × Value)} {a : Act} {w : World} {Q : Exit → Act → World → Prop} {K : Act → World → Prop} {tt : TypeId} {pos : String} {af : Array Edge} {gd : Option (Nat × Bool)}
end
section
variable {P : Program} {n : Nat} {T : List (Nat × Value)} {a : Act} {w w0 : World} {X : Cx} {M : Mm}
end
end Go.Proofs.YtogjhjiapinmcaaDoor.K
end
section
namespace Go.Proofs.YtogjhjiapinmcaaDoor.K
open Go.ChangeShapes Go.WideShapes Go.ChangeAt Go.RowKit
set_option linter.unusedVariables false
set_option linter.unusedSimpArgs false

section
variable {P : Program} {n : Nat} {T : List (Nat × Value)} {a : Act} {w w0 : World} {X : Cx} {M : Mm} {tt : TypeId} {pos : String} {af : Array Edge} {gd : Option (Nat × Bool)} {Q : Exit → Act → World → Prop} {K : Act → World → Prop}
theorem madeZ (k : IntKind) (n : Nat) : (madeCells (Value.int k 0).cells n).toList = (List.replicate n 0).map (Value.int k) := by
 unfold madeCells
 apply List.ext_getElem
 · simp
 · intro i h1 h2
   simp [Value.cells, Nat.mod_one]
theorem e_makeN (ha : Has n T a) (m : MemOk X w0 M w) (i : Nat) {d : Tmp} {t e : TypeId} {x y : Operand} {k kx ky : IntKind} {q q2 : Int} {bytes : Nat} (N : Nat) (hx : evT T x = some (.int kx q)) (hy : evT T y = some (.int ky q2)) (hq : q = N) (hq2 : q2 = N) (ht : P.underlying t = some (.slice e)) (hinf : (P.info? e).map (fun i => (i.zero, i.size, i.bytes)) = some (some (.int k 0), 1, bytes)) (hb8 : bytes ≤ 1000) (hN : N ≤ 100000000) (hd : Nat.blt d n = true)
   (h : ∀ p c a' w', Has n ((d, .slice p N c) :: T) a' → MemOk X w0 ((i, .num (.slice p N c) e k (List.replicate N 0)) :: M) w' → K a' w') : Oper.wp P ⟨some d, .makeSlice t x y, tt, pos, af, gd⟩ a w K Q := by
 obtain ⟨i0, hi, hz0, hz1, hz2⟩ := info_parts hinf
 subst hq; subst hq2
 have hby : N * bytes ≤ 100000000000 := Nat.mul_le_mul hN hb8
 have hby2 : (bytes : Int) * (N : Int) ≤ 281474976710656 := by
   rw [← Int.natCast_mul, Nat.mul_comm]; omega
 have hr := run_make (P := P) w t e i0 _ ht hi hz0 kx ky (N : Int) (N : Int) (by omega) (by omega) (by rw [hz2]; exact hby2) (by omega)
 rw [hz1, Nat.mul_one, Int.toNat_natCast] at hr
 have hrun : (execOp a.eval ⟨some d, .makeSlice t x y, tt, pos, af, gd⟩).run P w = .ok (.value (.slice (some ⟨w.heap.size, 0, none⟩) N N)) (w.alloc (.cells (madeCells (Value.int k 0).cells N) e)) := by
   simp [execOp, ha.ev hx, ha.ev hy, hr]
 show Oper.upon P _ a K Q _
 rw [hrun]
 refine h _ _ _ _ (ha.put hd _) (m.newN i ((Below.refl _ w).alloc (Nat.le_refl _) _) ?_)
 rw [List.length_replicate]
 refine ⟨by simp, .inr ⟨w.heap.size, N, madeCells (Value.int k 0).cells N, rfl, Nat.le_refl _, heap_alloc_new w _, Nat.le_refl _, by unfold maxLen; omega, by rw [size_madeCells, Nat.mul_one], ?_⟩⟩
 rw [madeZ, Nat.mul_one, List.take_of_length_le (by simp)]
end
end Go.Proofs.YtogjhjiapinmcaaDoor.K
end
section
namespace Go.Proofs.YtogjhjiapinmcaaDoor.K
open Go.ChangeShapes Go.WideShapes Go.ChangeAt Go.RowKit
set_option linter.unusedVariables false
set_option linter.unusedSimpArgs false
variable {P : Program} {n : Nat} {T : List (Nat × Value)} {a : Act} {w : World} {d : Option Tmp} {tt : TypeId} {pos : String} {af : Array Edge} {gd : Option (Nat × Bool)}
theorem run_idxA {t e : TypeId} {b o L s : Nat} {k : IntKind} {q : Int} (hu : P.underlying t = some (.array L e)) (hs : (P.info? e).map (·.size) = some s) (j : Nat) (hq : q = j) (hj : j < L) : (Instr.indexAt t (.pointer (some ⟨b, o, none⟩)) (.int k q)).run P w = .ok (.pointer (some ⟨b, o + j * s, none⟩)) w := by
 subst hq
 cases hi : P.info? e with
 | none => simp [hi] at hs
 | some i =>
   have hj' : i.size = s := by simpa [hi] using hs
   have h2 : ((j : Int) < (L : Int)) := by omega
   have h3 : ¬ L ≤ j := by omega
   simp [Instr.indexAt, asIntOf, run_underlying hu, h2, h3, sizeOf, typeInfo, hi, hj', Instr.sureAddr, Addr.add_mid]
theorem y_idxA (ha : Has n T a) {t e : TypeId} {x y : Operand} {b o L s : Nat} {k : IntKind} {q : Int} (hx : evT T x = some (.pointer (some ⟨b, o, none⟩))) (hy : evT T y = some (.int k q)) (hu : P.underlying t = some (.array L e)) (hs : (P.info? e).map (·.size) = some s) (j : Nat) (hq : q = j) (hj : j < L) {off : Nat} (hoff : o + j * s = off) : Yl P a w ⟨d, .indexAddr t x y, tt, pos, af, gd⟩ (.pointer (some ⟨b, off, none⟩)) := by
 subst hoff
 show (execOp _ _).run P w = _
 simp [execOp, ha.ev hx, ha.ev hy, run_idxA hu hs j hq hj]
end Go.Proofs.YtogjhjiapinmcaaDoor.K
end
section
namespace Go.Proofs.YtogjhjiapinmcaaDoor.K
open Go.ChangeShapes Go.WideShapes Go.ChangeAt Go.RowKit
set_option linter.unusedVariables false
end Go.Proofs.YtogjhjiapinmcaaDoor.K
end
section
namespace Go.Proofs.YtogjhjiapinmcaaDoor.K
open Go.ChangeShapes Go.WideShapes Go.ChangeAt Go.RowKit Go.Sort
set_option linter.unusedVariables false
set_option linter.unusedSimpArgs false
variable {P : Program} {X : Cx} {M : Mm} {w w0 : World}
def nD (z : Int) : List D := [.v (.int .i64 z)]
theorem MemOk.dropN (m : MemOk X w0 M w) {i : Nat} {p : Option Addr} {l c : Nat} {k : IntKind} {zs : List Int} (hm : lk M i = some (.dat (.slice p l c) (.ns k zs))) (j : Nat) (hj : j ≤ zs.length) (i2 : Nat) (hi2 : lk M i2 = none) : MemOk X w0 ((i2, .dat (.slice (if c = j then p else p.map (·.add (j * 1))) (l - j) (c - j)) (.ns k (zs.drop j))) :: M) w :=
 m.dat i2 hi2 (.ns ((m.rd hm).ns_out.drop j hj))
end Go.Proofs.YtogjhjiapinmcaaDoor.K
end
section
namespace Go.Proofs.YtogjhjiapinmcaaDoor.K
open Go.ChangeShapes Go.WideShapes Go.ChangeAt Go.RowKit
set_option linter.unusedVariables false
set_option linter.unusedSimpArgs false

section
variable {P : Program} {n : Nat} {T : List (Nat × Value)} {a : Act} {w w0 : World} {X : Cx} {M : Mm} {tt : TypeId} {pos : String} {af : Array Edge} {gd : Option (Nat × Bool)} {Q : Exit → Act → World → Prop} {K : Act → World → Prop}
end
end Go.Proofs.YtogjhjiapinmcaaDoor.K
end
section
namespace Go.Proofs.YtogjhjiapinmcaaDoor.K
open Go.ChangeShapes Go.WideShapes Go.ChangeAt Go.RowKit
set_option linter.unusedVariables false
set_option linter.unusedSimpArgs false

section
variable {P : Program} {ops : Array Oper} {Q : Exit → Act → World → Prop} {md : Region.Mode} {listed : Array Bool} {fuel e : Nat} {S : World → Prop} {a : Act} {w : World}
end
section
variable {P : Program} {n : Nat} {T : List (Nat × Value)} {a : Act} {w w0 : World} {X : Cx} {M : Mm} {tt : TypeId} {pos : String} {af : Array Edge} {gd : Option (Nat × Bool)} {Q : Exit → Act → World → Prop} {K : Act → World → Prop}
end
section
variable {w w0 : World} {X : Cx} {M : Mm}
end
end Go.Proofs.YtogjhjiapinmcaaDoor.K
end
section
namespace Go.Proofs.YtogjhjiapinmcaaDoor.K
open Go.ChangeShapes Go.WideShapes Go.ChangeAt Go.RowKit
set_option linter.unusedVariables false
set_option linter.unusedSimpArgs false
theorem Q1x {p : Prop} [Decidable p] : (decide p = true) = p := decide_eq_true_eq
theorem Q2x {p : Prop} [Decidable p] : decide p = false ↔ ¬ p := decide_eq_false_iff_not
theorem Q3x (b : Bool) : (¬ (b = true)) = (b = false) := Bool.not_eq_true b
theorem Q4x (b : Bool) : (¬ (b = false)) = (b = true) := Bool.not_eq_false b
theorem Q5x {a b : Bool} : (!a) = b ↔ a = !b := Bool.not_eq_eq_eq_not
theorem Q6x : (!true) = false := rfl
theorem Q7x : (!false) = true := rfl
theorem Q8x (b : Bool) : (!!b) = b := Bool.not_not b
theorem Q9x {a b : Int} : ¬ a < b ↔ b ≤ a := Int.not_lt
theorem Q0x {a b : Int} : ¬ a ≤ b ↔ b < a := Int.not_le
theorem Qax {α : Sort _} (a b : α) : (a ≠ b) = ¬ (a = b) := ne_eq a b
theorem Qbx {p : Prop} [Decidable p] : ¬ ¬ p ↔ p := Decidable.not_not
theorem il {α : Type} {a : α} {p : Prop} : a = a ∨ p := .inl rfl
variable {P : Program} {n : Nat} {T : List (Nat × Value)} {a : Act} {w w0 : World} {X : Cx} {M : Mm} {tt : TypeId} {pos : String} {af : Array Edge} {ops : Array Oper} {Q : Exit → Act → World → Prop} {md : Region.Mode} {e fuel : Nat} {S : World → Prop} {listed : Array Bool}
end Go.Proofs.YtogjhjiapinmcaaDoor.K
end
section
namespace Go.Proofs.YtogjhjiapinmcaaDoor.K
open Go.ChangeShapes Go.WideShapes Go.ChangeAt Go.RowKit
set_option linter.unusedVariables false
set_option linter.unusedSimpArgs false
inductive Ch (P : Program) (n : Nat) (ops : Array Oper) (w : World) : List Oper → List (Nat × Value) → List Oper → List (Nat × Value) → Prop
 | nil {L : List Oper} {T : List (Nat × Value)} : Ch P n ops w L T L T
 | c {d : Tmp} {op : Op} {v : Value} {L L' : List Oper} {T T' : List (Nat × Value)} {tt : TypeId} {pos : String} {af : Array Edge} (ht : Nat.blt d n = true) (hy : ∀ a, Has n T a → Yl P a w ⟨some d, op, tt, pos, af, none⟩ v) (t : Ch P n ops w L ((d, v) :: T) L' T') : Ch P n ops w (⟨some d, op, tt, pos, af, none⟩ :: L) T L' T'
 | g {d : Tmp} {op : Op} {v : Value} {L L' : List Oper} {T T' : List (Nat × Value)} {tt : TypeId} {pos : String} {af : Array Edge} {j t : Nat} {b : Bool} (hj : (ops[j]?).bind (·.dst) = some t) (hb : lk T t = some (.bool b)) (ht2 : Nat.blt t n = true) (ht : Nat.blt d n = true) (hy : ∀ a, Has n T a → Yl P a w ⟨some d, op, tt, pos, af, some (j, b)⟩ v) (tl : Ch P n ops w L ((d, v) :: T) L' T') : Ch P n ops w (⟨some d, op, tt, pos, af, some (j, b)⟩ :: L) T L' T'
 | s {d : Tmp} {op : Op} {L L' : List Oper} {T T' : List (Nat × Value)} {tt : TypeId} {pos : String} {af : Array Edge} {j t : Nat} {b : Bool} (hj : (ops[j]?).bind (·.dst) = some t) (hb : lk T t = some (.bool !b)) (ht2 : Nat.blt t n = true) (ht : Nat.blt d n = true) (tl : Ch P n ops w L ((d, undef) :: T) L' T') : Ch P n ops w (⟨some d, op, tt, pos, af, some (j, b)⟩ :: L) T L' T'
theorem goCh {P : Program} {n : Nat} {ops : Array Oper} {w : World} {Q : Exit → Act → World → Prop} {L L' : List Oper} {T T' : List (Nat × Value)} {a : Act} (ha : Has n T a) (hc : Ch P n ops w L T L' T') (h : ∀ a', Has n T' a' → wpList P ops Q L' a' w) : wpList P ops Q L a w := by
 induction hc generalizing a with
 | nil => exact h a ha
 | c ht hy t ih => exact st_y ha ht (hy a ha) (fun a' ha' => ih ha' h)
 | g hj hb ht2 ht hy t ih => exact st_g ha hj hb ht2 ht (hy a ha) (fun a' ha' => ih ha' h)
 | s hj hb ht2 ht t ih => exact st_skip ha hj hb ht2 ht (fun a' ha' => ih ha' h)
theorem regS {P : Program} {n id : Nat} {l : List Oper} {y : Code} {w : World} {Q : Exit → Act → World → Prop} {T T' : List (Nat × Value)} {a : Act} (ha : Has n T a) (hc : Ch P n l.toArray w l T [] T') (h : ∀ a', Has n T' a' → y.wp P Q a' w) : ((Code.region id l.toArray false).seq y).wp P Q a w :=
 wp_seq_k (fun K hK => wp_region_lit (goCh ha hc (fun a' ha' => wpList_nil (hK _ _ (h a' ha')))))
/-! short -/
section
variable {P : Program} {n : Nat} {ops : Array Oper} {L L' : List Oper} {T T' : List (Nat × Value)} {w w0 : World} {X : Cx} {M : Mm} {dd : Tmp} {tt : TypeId} {pos : String} {af : Array Edge} {x y z : Operand} {k : IntKind} {p q r : Int} {t t2 : TypeId}
theorem Ch.move {x : Operand} {v : Value} (hx : evT T x = some v) (tl : Ch P n ops w L ((dd, v) :: T) L' T') (ht : Nat.blt dd n = true := by rfl) : Ch P n ops w (⟨some dd, .move x, tt, pos, af, none⟩ :: L) T L' T' := .c ht (fun _ h => y_move h hx) tl
theorem Ch.moveZ {x : Operand} {v : Value} (hx : evT T x = some v) {j tg : Nat} {bb : Bool} (tl : Ch P n ops w L ((dd, v) :: T) L' T') (hj : (ops[j]?).bind (·.dst) = some tg := by rfl) (hb : lk T tg = some (.bool bb) := by rfl) (ht2 : Nat.blt tg n = true := by rfl) (ht : Nat.blt dd n = true := by rfl) : Ch P n ops w (⟨some dd, .move x, tt, pos, af, some (j, bb)⟩ :: L) T L' T' := .g hj hb ht2 ht (fun _ h => y_move h hx) tl
theorem Ch.assign {x : Operand} {v : Value} (hx : evT T x = some v) (tl : Ch P n ops w L ((dd, v) :: T) L' T') (ht : Nat.blt dd n = true := by rfl) : Ch P n ops w (⟨some dd, .assign x, tt, pos, af, none⟩ :: L) T L' T' := .c ht (fun _ h => y_assign h hx) tl
theorem Ch.pickT {c x y : Operand} {v : Value} (hc : evT T c = some (.bool true)) (hx : evT T x = some v) (tl : Ch P n ops w L ((dd, v) :: T) L' T') (ht : Nat.blt dd n = true := by rfl) : Ch P n ops w (⟨some dd, .pick c x y, tt, pos, af, none⟩ :: L) T L' T' := .c ht (fun _ h => y_pickT h hc hx) tl
theorem Ch.pickTZ {c x y : Operand} {v : Value} (hc : evT T c = some (.bool true)) (hx : evT T x = some v) {j tg : Nat} {bb : Bool} (tl : Ch P n ops w L ((dd, v) :: T) L' T') (hj : (ops[j]?).bind (·.dst) = some tg := by rfl) (hb : lk T tg = some (.bool bb) := by rfl) (ht2 : Nat.blt tg n = true := by rfl) (ht : Nat.blt dd n = true := by rfl) : Ch P n ops w (⟨some dd, .pick c x y, tt, pos, af, some (j, bb)⟩ :: L) T L' T' := .g hj hb ht2 ht (fun _ h => y_pickT h hc hx) tl
theorem Ch.pickF {c x y : Operand} {v : Value} (hc : evT T c = some (.bool false)) (hx : evT T y = some v) (tl : Ch P n ops w L ((dd, v) :: T) L' T') (ht : Nat.blt dd n = true := by rfl) : Ch P n ops w (⟨some dd, .pick c x y, tt, pos, af, none⟩ :: L) T L' T' := .c ht (fun _ h => y_pickF h hc hx) tl
theorem Ch.pickFZ {c x y : Operand} {v : Value} (hc : evT T c = some (.bool false)) (hx : evT T y = some v) {j tg : Nat} {bb : Bool} (tl : Ch P n ops w L ((dd, v) :: T) L' T') (hj : (ops[j]?).bind (·.dst) = some tg := by rfl) (hb : lk T tg = some (.bool bb) := by rfl) (ht2 : Nat.blt tg n = true := by rfl) (ht : Nat.blt dd n = true := by rfl) : Ch P n ops w (⟨some dd, .pick c x y, tt, pos, af, some (j, bb)⟩ :: L) T L' T' := .g hj hb ht2 ht (fun _ h => y_pickF h hc hx) tl
theorem Ch.not {t : TypeId} {x : Operand} {b : Bool} (hx : evT T x = some (.bool b)) (tl : Ch P n ops w L ((dd, (.bool !b)) :: T) L' T') (ht : Nat.blt dd n = true := by rfl) : Ch P n ops w (⟨some dd, .unOp .not t x, tt, pos, af, none⟩ :: L) T L' T' := .c ht (fun _ h => y_not h hx) tl
theorem Ch.notZ {t : TypeId} {x : Operand} {b : Bool} (hx : evT T x = some (.bool b)) {j tg : Nat} {bb : Bool} (tl : Ch P n ops w L ((dd, (.bool !b)) :: T) L' T') (hj : (ops[j]?).bind (·.dst) = some tg := by rfl) (hb : lk T tg = some (.bool bb) := by rfl) (ht2 : Nat.blt tg n = true := by rfl) (ht : Nat.blt dd n = true := by rfl) : Ch P n ops w (⟨some dd, .unOp .not t x, tt, pos, af, some (j, bb)⟩ :: L) T L' T' := .g hj hb ht2 ht (fun _ h => y_not h hx) tl
theorem Ch.len {t e : TypeId} {x : Operand} {p : Option Addr} {l c : Nat} (hx : evT T x = some (.slice p l c)) (hu : P.underlying t = some (.slice e)) (tl : Ch P n ops w L ((dd, (.int .i64 l)) :: T) L' T') (ht : Nat.blt dd n = true := by rfl) : Ch P n ops w (⟨some dd, .call { callee := .builtin .len, args := #[x], argTypes := #[t] }, tt, pos, af, none⟩ :: L) T L' T' := .c ht (fun _ h => y_len h hx hu) tl
theorem Ch.lenZ {t e : TypeId} {x : Operand} {p : Option Addr} {l c : Nat} (hx : evT T x = some (.slice p l c)) (hu : P.underlying t = some (.slice e)) {j tg : Nat} {bb : Bool} (tl : Ch P n ops w L ((dd, (.int .i64 l)) :: T) L' T') (hj : (ops[j]?).bind (·.dst) = some tg := by rfl) (hb : lk T tg = some (.bool bb) := by rfl) (ht2 : Nat.blt tg n = true := by rfl) (ht : Nat.blt dd n = true := by rfl) : Ch P n ops w (⟨some dd, .call { callee := .builtin .len, args := #[x], argTypes := #[t] }, tt, pos, af, some (j, bb)⟩ :: L) T L' T' := .g hj hb ht2 ht (fun _ h => y_len h hx hu) tl
theorem Ch.add (hx : evT T x = some (.int k p)) (hy : evT T y = some (.int k q)) (hr : k.wrap (p + q) = r) (tl : Ch P n ops w L ((dd, (.int k r)) :: T) L' T') (ht : Nat.blt dd n = true := by rfl) : Ch P n ops w (⟨some dd, .binOp .add t x y t2, tt, pos, af, none⟩ :: L) T L' T' := .c ht (fun _ h => y_add h hx hy hr) tl
theorem Ch.sub (hx : evT T x = some (.int k p)) (hy : evT T y = some (.int k q)) (hr : k.wrap (p - q) = r) (tl : Ch P n ops w L ((dd, (.int k r)) :: T) L' T') (ht : Nat.blt dd n = true := by rfl) : Ch P n ops w (⟨some dd, .binOp .sub t x y t2, tt, pos, af, none⟩ :: L) T L' T' := .c ht (fun _ h => y_sub h hx hy hr) tl
theorem Ch.subZ (hx : evT T x = some (.int k p)) (hy : evT T y = some (.int k q)) (hr : k.wrap (p - q) = r) {j tg : Nat} {bb : Bool} (tl : Ch P n ops w L ((dd, (.int k r)) :: T) L' T') (hj : (ops[j]?).bind (·.dst) = some tg := by rfl) (hb : lk T tg = some (.bool bb) := by rfl) (ht2 : Nat.blt tg n = true := by rfl) (ht : Nat.blt dd n = true := by rfl) : Ch P n ops w (⟨some dd, .binOp .sub t x y t2, tt, pos, af, some (j, bb)⟩ :: L) T L' T' := .g hj hb ht2 ht (fun _ h => y_sub h hx hy hr) tl
theorem Ch.mul (hx : evT T x = some (.int k p)) (hy : evT T y = some (.int k q)) (hr : k.wrap (p * q) = r) (tl : Ch P n ops w L ((dd, (.int k r)) :: T) L' T') (ht : Nat.blt dd n = true := by rfl) : Ch P n ops w (⟨some dd, .binOp .mul t x y t2, tt, pos, af, none⟩ :: L) T L' T' := .c ht (fun _ h => y_mul h hx hy hr) tl
theorem Ch.quo (hx : evT T x = some (.int k p)) (hy : evT T y = some (.int k q)) (h0 : q ≠ 0) (hr : k.wrap (p.tdiv q) = r) (tl : Ch P n ops w L ((dd, (.int k r)) :: T) L' T') (ht : Nat.blt dd n = true := by rfl) : Ch P n ops w (⟨some dd, .binOp .quo t x y t2, tt, pos, af, none⟩ :: L) T L' T' := .c ht (fun _ h => y_quo h hx hy h0 hr) tl
theorem Ch.rem (hx : evT T x = some (.int k p)) (hy : evT T y = some (.int k q)) (h0 : q ≠ 0) (hr : p.tmod q = r) (tl : Ch P n ops w L ((dd, (.int k r)) :: T) L' T') (ht : Nat.blt dd n = true := by rfl) : Ch P n ops w (⟨some dd, .binOp .rem t x y t2, tt, pos, af, none⟩ :: L) T L' T' := .c ht (fun _ h => y_rem h hx hy h0 hr) tl
theorem Ch.and (hx : evT T x = some (.int k p)) (hy : evT T y = some (.int k q)) (hr : k.wrap (BitVec.ofInt k.bits p &&& BitVec.ofInt k.bits q).toNat = r) (tl : Ch P n ops w L ((dd, (.int k r)) :: T) L' T') (ht : Nat.blt dd n = true := by rfl) : Ch P n ops w (⟨some dd, .binOp .and t x y t2, tt, pos, af, none⟩ :: L) T L' T' := .c ht (fun _ h => y_and h hx hy hr) tl
theorem Ch.or (hx : evT T x = some (.int k p)) (hy : evT T y = some (.int k q)) (hr : k.wrap (BitVec.ofInt k.bits p ||| BitVec.ofInt k.bits q).toNat = r) (tl : Ch P n ops w L ((dd, (.int k r)) :: T) L' T') (ht : Nat.blt dd n = true := by rfl) : Ch P n ops w (⟨some dd, .binOp .or t x y t2, tt, pos, af, none⟩ :: L) T L' T' := .c ht (fun _ h => y_or h hx hy hr) tl
theorem Ch.xor (hx : evT T x = some (.int k p)) (hy : evT T y = some (.int k q)) (hr : k.wrap (BitVec.ofInt k.bits p ^^^ BitVec.ofInt k.bits q).toNat = r) (tl : Ch P n ops w L ((dd, (.int k r)) :: T) L' T') (ht : Nat.blt dd n = true := by rfl) : Ch P n ops w (⟨some dd, .binOp .xor t x y t2, tt, pos, af, none⟩ :: L) T L' T' := .c ht (fun _ h => y_xor h hx hy hr) tl
theorem Ch.shl {yk : IntKind} (hx : evT T x = some (.int k p)) (hy : evT T y = some (.int yk q)) (h0 : 0 ≤ q) (hr : k.wrap (p * 2 ^ min q.toNat k.bits) = r) (tl : Ch P n ops w L ((dd, (.int k r)) :: T) L' T') (ht : Nat.blt dd n = true := by rfl) : Ch P n ops w (⟨some dd, .binOp .shl t x y t2, tt, pos, af, none⟩ :: L) T L' T' := .c ht (fun _ h => y_shl h hx hy h0 hr) tl
theorem Ch.shr {yk : IntKind} (hx : evT T x = some (.int k p)) (hy : evT T y = some (.int yk q)) (h0 : 0 ≤ q) (hr : p.fdiv (2 ^ min q.toNat k.bits) = r) (tl : Ch P n ops w L ((dd, (.int k r)) :: T) L' T') (ht : Nat.blt dd n = true := by rfl) : Ch P n ops w (⟨some dd, .binOp .shr t x y t2, tt, pos, af, none⟩ :: L) T L' T' := .c ht (fun _ h => y_shr h hx hy h0 hr) tl
theorem Ch.lss (hx : evT T x = some (.int k p)) (hy : evT T y = some (.int k q)) (tl : Ch P n ops w L ((dd, (.bool (decide (p < q)))) :: T) L' T') (ht : Nat.blt dd n = true := by rfl) : Ch P n ops w (⟨some dd, .binOp .lss t x y t2, tt, pos, af, none⟩ :: L) T L' T' := .c ht (fun _ h => y_lss h hx hy) tl
theorem Ch.lssZ (hx : evT T x = some (.int k p)) (hy : evT T y = some (.int k q)) {j tg : Nat} {bb : Bool} (tl : Ch P n ops w L ((dd, (.bool (decide (p < q)))) :: T) L' T') (hj : (ops[j]?).bind (·.dst) = some tg := by rfl) (hb : lk T tg = some (.bool bb) := by rfl) (ht2 : Nat.blt tg n = true := by rfl) (ht : Nat.blt dd n = true := by rfl) : Ch P n ops w (⟨some dd, .binOp .lss t x y t2, tt, pos, af, some (j, bb)⟩ :: L) T L' T' := .g hj hb ht2 ht (fun _ h => y_lss h hx hy) tl
theorem Ch.gtr (hx : evT T x = some (.int k p)) (hy : evT T y = some (.int k q)) (tl : Ch P n ops w L ((dd, (.bool (decide (q < p)))) :: T) L' T') (ht : Nat.blt dd n = true := by rfl) : Ch P n ops w (⟨some dd, .binOp .gtr t x y t2, tt, pos, af, none⟩ :: L) T L' T' := .c ht (fun _ h => y_gtr h hx hy) tl
theorem Ch.gtrZ (hx : evT T x = some (.int k p)) (hy : evT T y = some (.int k q)) {j tg : Nat} {bb : Bool} (tl : Ch P n ops w L ((dd, (.bool (decide (q < p)))) :: T) L' T') (hj : (ops[j]?).bind (·.dst) = some tg := by rfl) (hb : lk T tg = some (.bool bb) := by rfl) (ht2 : Nat.blt tg n = true := by rfl) (ht : Nat.blt dd n = true := by rfl) : Ch P n ops w (⟨some dd, .binOp .gtr t x y t2, tt, pos, af, some (j, bb)⟩ :: L) T L' T' := .g hj hb ht2 ht (fun _ h => y_gtr h hx hy) tl
theorem Ch.geq (hx : evT T x = some (.int k p)) (hy : evT T y = some (.int k q)) (tl : Ch P n ops w L ((dd, (.bool (decide (q ≤ p)))) :: T) L' T') (ht : Nat.blt dd n = true := by rfl) : Ch P n ops w (⟨some dd, .binOp .geq t x y t2, tt, pos, af, none⟩ :: L) T L' T' := .c ht (fun _ h => y_geq h hx hy) tl
theorem Ch.geqZ (hx : evT T x = some (.int k p)) (hy : evT T y = some (.int k q)) {j tg : Nat} {bb : Bool} (tl : Ch P n ops w L ((dd, (.bool (decide (q ≤ p)))) :: T) L' T') (hj : (ops[j]?).bind (·.dst) = some tg := by rfl) (hb : lk T tg = some (.bool bb) := by rfl) (ht2 : Nat.blt tg n = true := by rfl) (ht : Nat.blt dd n = true := by rfl) : Ch P n ops w (⟨some dd, .binOp .geq t x y t2, tt, pos, af, some (j, bb)⟩ :: L) T L' T' := .g hj hb ht2 ht (fun _ h => y_geq h hx hy) tl
theorem Ch.eql (hx : evT T x = some (.int k p)) (hy : evT T y = some (.int k q)) (tl : Ch P n ops w L ((dd, (.bool (decide (p = q)))) :: T) L' T') (ht : Nat.blt dd n = true := by rfl) : Ch P n ops w (⟨some dd, .binOp .eql t x y t2, tt, pos, af, none⟩ :: L) T L' T' := .c ht (fun _ h => y_eql h hx hy) tl
theorem Ch.eqlZ (hx : evT T x = some (.int k p)) (hy : evT T y = some (.int k q)) {j tg : Nat} {bb : Bool} (tl : Ch P n ops w L ((dd, (.bool (decide (p = q)))) :: T) L' T') (hj : (ops[j]?).bind (·.dst) = some tg := by rfl) (hb : lk T tg = some (.bool bb) := by rfl) (ht2 : Nat.blt tg n = true := by rfl) (ht : Nat.blt dd n = true := by rfl) : Ch P n ops w (⟨some dd, .binOp .eql t x y t2, tt, pos, af, some (j, bb)⟩ :: L) T L' T' := .g hj hb ht2 ht (fun _ h => y_eql h hx hy) tl
theorem Ch.neq (hx : evT T x = some (.int k p)) (hy : evT T y = some (.int k q)) (tl : Ch P n ops w L ((dd, (.bool (decide (p ≠ q)))) :: T) L' T') (ht : Nat.blt dd n = true := by rfl) : Ch P n ops w (⟨some dd, .binOp .neq t x y t2, tt, pos, af, none⟩ :: L) T L' T' := .c ht (fun _ h => y_neq h hx hy) tl
theorem Ch.neqZ (hx : evT T x = some (.int k p)) (hy : evT T y = some (.int k q)) {j tg : Nat} {bb : Bool} (tl : Ch P n ops w L ((dd, (.bool (decide (p ≠ q)))) :: T) L' T') (hj : (ops[j]?).bind (·.dst) = some tg := by rfl) (hb : lk T tg = some (.bool bb) := by rfl) (ht2 : Nat.blt tg n = true := by rfl) (ht : Nat.blt dd n = true := by rfl) : Ch P n ops w (⟨some dd, .binOp .neq t x y t2, tt, pos, af, some (j, bb)⟩ :: L) T L' T' := .g hj hb ht2 ht (fun _ h => y_neq h hx hy) tl
theorem Ch.eqlSZ {b c : ByteArray} (hx : evT T x = some (.string b)) (hy : evT T y = some (.string c)) {j tg : Nat} {bb : Bool} (tl : Ch P n ops w L ((dd, (.bool (b.toList == c.toList))) :: T) L' T') (hj : (ops[j]?).bind (·.dst) = some tg := by rfl) (hb : lk T tg = some (.bool bb) := by rfl) (ht2 : Nat.blt tg n = true := by rfl) (ht : Nat.blt dd n = true := by rfl) : Ch P n ops w (⟨some dd, .binOp .eql t x y t2, tt, pos, af, some (j, bb)⟩ :: L) T L' T' := .g hj hb ht2 ht (fun _ h => y_eqlS h hx hy) tl
theorem Ch.neqS {b c : ByteArray} (hx : evT T x = some (.string b)) (hy : evT T y = some (.string c)) (tl : Ch P n ops w L ((dd, (.bool (!(b.toList == c.toList)))) :: T) L' T') (ht : Nat.blt dd n = true := by rfl) : Ch P n ops w (⟨some dd, .binOp .neq t x y t2, tt, pos, af, none⟩ :: L) T L' T' := .c ht (fun _ h => y_neqS h hx hy) tl
theorem Ch.eqlP {e : TypeId} {b : Option Addr} (hx : evT T x = some (.pointer b)) (hy : evT T y = some (.pointer none)) (hu : P.underlying t = some (.pointer e)) (tl : Ch P n ops w L ((dd, (.bool b.isNone)) :: T) L' T') (ht : Nat.blt dd n = true := by rfl) : Ch P n ops w (⟨some dd, .binOp .eql t x y t2, tt, pos, af, none⟩ :: L) T L' T' := .c ht (fun _ h => y_eqlP h hx hy hu) tl
theorem Ch.neqP {e : TypeId} {b : Option Addr} (hx : evT T x = some (.pointer b)) (hy : evT T y = some (.pointer none)) (hu : P.underlying t = some (.pointer e)) (tl : Ch P n ops w L ((dd, (.bool !b.isNone)) :: T) L' T') (ht : Nat.blt dd n = true := by rfl) : Ch P n ops w (⟨some dd, .binOp .neq t x y t2, tt, pos, af, none⟩ :: L) T L' T' := .c ht (fun _ h => y_neqP h hx hy hu) tl
theorem Ch.conv {s e : TypeId} {k' : IntKind} {ds : TypeDesc} (hx : evT T x = some (.int k p)) (hs : P.underlying s = some ds) (hd : P.underlying e = some (.int k')) (hr : k'.wrap p = r) (tl : Ch P n ops w L ((dd, (.int k' r)) :: T) L' T') (ht : Nat.blt dd n = true := by rfl) : Ch P n ops w (⟨some dd, .convert s e x, tt, pos, af, none⟩ :: L) T L' T' := .c ht (fun _ h => y_conv h hx hs hd hr) tl
theorem Ch.extract {x : Operand} {vs : Array Value} {i : Nat} {v : Value} (hx : evT T x = some (.tuple vs)) (hv : nthL vs.toList i = some v) (tl : Ch P n ops w L ((dd, v) :: T) L' T') (ht : Nat.blt dd n = true := by rfl) : Ch P n ops w (⟨some dd, .extract x i, tt, pos, af, none⟩ :: L) T L' T' := .c ht (fun _ h => y_extract h hx hv) tl
theorem Ch.nilCheck {x : Operand} {p : Addr} (hx : evT T x = some (.pointer (some p))) (tl : Ch P n ops w L ((dd, (.pointer (some p))) :: T) L' T') (ht : Nat.blt dd n = true := by rfl) : Ch P n ops w (⟨some dd, .nilCheck x, tt, pos, af, none⟩ :: L) T L' T' := .c ht (fun _ h => y_nilCheck h hx) tl
theorem Ch.nilCheckZ {x : Operand} {p : Addr} (hx : evT T x = some (.pointer (some p))) {j tg : Nat} {bb : Bool} (tl : Ch P n ops w L ((dd, (.pointer (some p))) :: T) L' T') (hj : (ops[j]?).bind (·.dst) = some tg := by rfl) (hb : lk T tg = some (.bool bb) := by rfl) (ht2 : Nat.blt tg n = true := by rfl) (ht : Nat.blt dd n = true := by rfl) : Ch P n ops w (⟨some dd, .nilCheck x, tt, pos, af, some (j, bb)⟩ :: L) T L' T' := .g hj hb ht2 ht (fun _ h => y_nilCheck h hx) tl
theorem Ch.fieldAddr {t : TypeId} {x : Operand} {i g o : Nat} {fs : Array Field} {f : Field} {s off : Nat} (hx : evT T x = some (.pointer (some ⟨g, o, none⟩))) (hu : P.underlying t = some (.struct fs)) (hf : fs[i]? = some f) (hs : (P.info? f.type).map (·.size) = some (s + 1)) (ho : o + f.offset = off) (tl : Ch P n ops w L ((dd, (.pointer (some ⟨g, off, none⟩))) :: T) L' T') (ht : Nat.blt dd n = true := by rfl) : Ch P n ops w (⟨some dd, .fieldAddr t x i, tt, pos, af, none⟩ :: L) T L' T' := .c ht (fun _ h => y_fieldAddr h hx hu hf hs ho) tl
theorem Ch.fieldAddrZ {t : TypeId} {x : Operand} {i g o : Nat} {fs : Array Field} {f : Field} {s off : Nat} (hx : evT T x = some (.pointer (some ⟨g, o, none⟩))) (hu : P.underlying t = some (.struct fs)) (hf : fs[i]? = some f) (hs : (P.info? f.type).map (·.size) = some (s + 1)) (ho : o + f.offset = off) {j tg : Nat} {bb : Bool} (tl : Ch P n ops w L ((dd, (.pointer (some ⟨g, off, none⟩))) :: T) L' T') (hj : (ops[j]?).bind (·.dst) = some tg := by rfl) (hb : lk T tg = some (.bool bb) := by rfl) (ht2 : Nat.blt tg n = true := by rfl) (ht : Nat.blt dd n = true := by rfl) : Ch P n ops w (⟨some dd, .fieldAddr t x i, tt, pos, af, some (j, bb)⟩ :: L) T L' T' := .g hj hb ht2 ht (fun _ h => y_fieldAddr h hx hu hf hs ho) tl
theorem Ch.fieldAddrQ {t : TypeId} {x : Operand} {i g o : Nat} {fs : Array Field} {f : Field} {s : Nat} (q : Nat) (hx : evT T x = some (.pointer (some ⟨g, o, none⟩))) (hu : P.underlying t = some (.struct fs)) (hf : fs[i]? = some f) (hs : (P.info? f.type).map (·.size) = some (s + 1)) (hq : f.offset = q) (tl : Ch P n ops w L ((dd, (.pointer (some ⟨g, o + q, none⟩))) :: T) L' T') (ht : Nat.blt dd n = true := by rfl) : Ch P n ops w (⟨some dd, .fieldAddr t x i, tt, pos, af, none⟩ :: L) T L' T' := .c ht (fun _ h => y_fieldAddrQ h q hx hu hf hs hq) tl
theorem Ch.build {t : TypeId} {parts : Array (Nat × Operand)} {z cs : List Value} {pl : List (Nat × Value)} (hp : K.evP T parts.toList = some pl) (hz : ((P.info? t).bind (·.zero)).map (·.cells.toList) = some z) (hf : flatS P t z = true) (h1 : pl.all (fun p => decide (p.1 < z.length) && p.2.oneCell') = true) (hc : setL z pl = cs) (tl : Ch P n ops w L ((dd, (.agg cs.toArray)) :: T) L' T') (ht : Nat.blt dd n = true := by rfl) : Ch P n ops w (⟨some dd, .build t parts, tt, pos, af, none⟩ :: L) T L' T' := .c ht (fun _ h => y_build h hp hz hf h1 hc) tl
theorem Ch.loadB1 (m : MemOk X w0 M w) {t : TypeId} {td : TypeDesc} {x : Operand} {i g o : Nat} {e : TypeId} {cs : List Value} {v : Value} (hm : lk M i = some (.box g e cs)) (hx : evT T x = some (.pointer (some ⟨g, o, none⟩))) (hv : cs[o]? = some v) (hu : P.underlying t = some td) (hr : td.isRow = false) (tl : Ch P n ops w L ((dd, v) :: T) L' T') (ht : Nat.blt dd n = true := by rfl) : Ch P n ops w (⟨some dd, .load t x, tt, pos, af, none⟩ :: L) T L' T' := .c ht (fun _ h => y_loadB1 h m hm hx hv hu hr) tl
theorem Ch.loadB1Z (m : MemOk X w0 M w) {t : TypeId} {td : TypeDesc} {x : Operand} {i g o : Nat} {e : TypeId} {cs : List Value} {v : Value} (hm : lk M i = some (.box g e cs)) (hx : evT T x = some (.pointer (some ⟨g, o, none⟩))) (hv : cs[o]? = some v) (hu : P.underlying t = some td) (hr : td.isRow = false) {j tg : Nat} {bb : Bool} (tl : Ch P n ops w L ((dd, v) :: T) L' T') (hj : (ops[j]?).bind (·.dst) = some tg := by rfl) (hb : lk T tg = some (.bool bb) := by rfl) (ht2 : Nat.blt tg n = true := by rfl) (ht : Nat.blt dd n = true := by rfl) : Ch P n ops w (⟨some dd, .load t x, tt, pos, af, some (j, bb)⟩ :: L) T L' T' := .g hj hb ht2 ht (fun _ h => y_loadB1 h m hm hx hv hu hr) tl
theorem Ch.loadC1 (m : MemOk X w0 M w) {t : TypeId} {td : TypeDesc} {x : Operand} {i b o q : Nat} {vs : List Value} {v : Value} (hm : lk M i = some (.cel b o vs)) (hx : evT T x = some (.pointer (some ⟨b, o + q, none⟩))) (hv : vs[q]? = some v) (hu : P.underlying t = some td) (hr : td.isRow = false) (tl : Ch P n ops w L ((dd, v) :: T) L' T') (ht : Nat.blt dd n = true := by rfl) : Ch P n ops w (⟨some dd, .load t x, tt, pos, af, none⟩ :: L) T L' T' := .c ht (fun _ h => y_loadC1 h m hm hx hv hu hr) tl
theorem Ch.loadC0 (m : MemOk X w0 M w) {t : TypeId} {td : TypeDesc} {x : Operand} {i b o : Nat} {vs : List Value} {v : Value} (hm : lk M i = some (.cel b o (v :: vs))) (hx : evT T x = some (.pointer (some ⟨b, o, none⟩))) (hu : P.underlying t = some td) (hr : td.isRow = false) (tl : Ch P n ops w L ((dd, v) :: T) L' T') (ht : Nat.blt dd n = true := by rfl) : Ch P n ops w (⟨some dd, .load t x, tt, pos, af, none⟩ :: L) T L' T' := .c ht (fun _ h => y_loadC0 h m hm hx hu hr) tl
theorem Ch.loadC0Z (m : MemOk X w0 M w) {t : TypeId} {td : TypeDesc} {x : Operand} {i b o : Nat} {vs : List Value} {v : Value} (hm : lk M i = some (.cel b o (v :: vs))) (hx : evT T x = some (.pointer (some ⟨b, o, none⟩))) (hu : P.underlying t = some td) (hr : td.isRow = false) {j tg : Nat} {bb : Bool} (tl : Ch P n ops w L ((dd, v) :: T) L' T') (hj : (ops[j]?).bind (·.dst) = some tg := by rfl) (hb : lk T tg = some (.bool bb) := by rfl) (ht2 : Nat.blt tg n = true := by rfl) (ht : Nat.blt dd n = true := by rfl) : Ch P n ops w (⟨some dd, .load t x, tt, pos, af, some (j, bb)⟩ :: L) T L' T' := .g hj hb ht2 ht (fun _ h => y_loadC0 h m hm hx hu hr) tl
theorem Ch.loadCR (m : MemOk X w0 M w) {t : TypeId} {td : TypeDesc} {x : Operand} {i b o : Nat} {vs : List Value} (hm : lk M i = some (.cel b o vs)) (hx : evT T x = some (.pointer (some ⟨b, o, none⟩))) (hu : P.underlying t = some td) (hr : td.isRow = true) (hs : (P.info? t).map (·.size) = some vs.length) (tl : Ch P n ops w L ((dd, (.agg vs.toArray)) :: T) L' T') (ht : Nat.blt dd n = true := by rfl) : Ch P n ops w (⟨some dd, .load t x, tt, pos, af, none⟩ :: L) T L' T' := .c ht (fun _ h => y_loadCR h m hm hx hu hr hs) tl
theorem Ch.str {s t e : TypeId} {x : Operand} {v : Value} {bs : List Int} (hx : evT T x = some v) (hv : IsNums .u8 w v bs) (hs : P.underlying s = some (.slice e)) (he : P.underlying e = some (.int .u8)) (hd : P.underlying t = some .string) (tl : Ch P n ops w L ((dd, (.string (strOfNums bs))) :: T) L' T') (ht : Nat.blt dd n = true := by rfl) : Ch P n ops w (⟨some dd, .convert s t x, tt, pos, af, none⟩ :: L) T L' T' := .c ht (fun _ h => y_str h hx hv hs he hd) tl
theorem Ch.strZ {s t e : TypeId} {x : Operand} {v : Value} {bs : List Int} (hx : evT T x = some v) (hv : IsNums .u8 w v bs) (hs : P.underlying s = some (.slice e)) (he : P.underlying e = some (.int .u8)) (hd : P.underlying t = some .string) {j tg : Nat} {bb : Bool} (tl : Ch P n ops w L ((dd, (.string (strOfNums bs))) :: T) L' T') (hj : (ops[j]?).bind (·.dst) = some tg := by rfl) (hb : lk T tg = some (.bool bb) := by rfl) (ht2 : Nat.blt tg n = true := by rfl) (ht : Nat.blt dd n = true := by rfl) : Ch P n ops w (⟨some dd, .convert s t x, tt, pos, af, some (j, bb)⟩ :: L) T L' T' := .g hj hb ht2 ht (fun _ h => y_str h hx hv hs he hd) tl
theorem Ch.loadAt {t : TypeId} {td : TypeDesc} {x : Operand} {b o : Nat} {vs : List Value} (hr : w.rangeAt b o vs) (hx : evT T x = some (.pointer (some ⟨b, o, none⟩))) (hu : P.underlying t = some td) (hd : td.isRow = true) (hs : (P.info? t).map (·.size) = some vs.length) (tl : Ch P n ops w L ((dd, (.agg vs.toArray)) :: T) L' T') (ht : Nat.blt dd n = true := by rfl) : Ch P n ops w (⟨some dd, .load t x, tt, pos, af, none⟩ :: L) T L' T' := .c ht (fun _ h => y_loadAt h hr hx hu hd hs) tl
theorem Ch.loadAt1 {t : TypeId} {td : TypeDesc} {x : Operand} {b o q q' : Nat} {vs : List Value} {v : Value} (hr : w.rangeAt b o vs) (hx : evT T x = some (.pointer (some ⟨b, q', none⟩))) (hq : q' = o + q) (hv : nthL vs q = some v) (hu : P.underlying t = some td) (hd : td.isRow = false) (tl : Ch P n ops w L ((dd, v) :: T) L' T') (ht : Nat.blt dd n = true := by rfl) : Ch P n ops w (⟨some dd, .load t x, tt, pos, af, none⟩ :: L) T L' T' := .c ht (fun _ h => y_loadAt1 h hr hx hq hv hu hd) tl
theorem Ch.cap {t e : TypeId} {x : Operand} {p : Option Addr} {l c : Nat} (hx : evT T x = some (.slice p l c)) (hu : P.underlying t = some (.slice e)) (tl : Ch P n ops w L ((dd, (.int .i64 c)) :: T) L' T') (ht : Nat.blt dd n = true := by rfl) : Ch P n ops w (⟨some dd, .call { callee := .builtin .cap, args := #[x], argTypes := #[t] }, tt, pos, af, none⟩ :: L) T L' T' := .c ht (fun _ h => y_cap h hx hu) tl
theorem Ch.buildG {t : TypeId} {parts : Array (Nat × Operand)} {z cs : List Value} {pl : List (Nat × Value)} {ps : List (Nat × Nat)} (hp : K.evP T parts.toList = some pl) (hz : ((P.info? t).bind (·.zero)).map (·.cells.toList) = some z) (hps : placesS P t = some ps) (hc : putL z ps pl = some cs) (tl : Ch P n ops w L ((dd, (.agg cs.toArray)) :: T) L' T') (ht : Nat.blt dd n = true := by rfl) : Ch P n ops w (⟨some dd, .build t parts, tt, pos, af, none⟩ :: L) T L' T' := .c ht (fun _ h => y_buildG h hp hz hps hc) tl
theorem Ch.sk {op : Op} {j tg : Nat} {bb : Bool} (tl : Ch P n ops w L ((dd, undef) :: T) L' T') (hj : (ops[j]?).bind (·.dst) = some tg := by rfl) (hb : lk T tg = some (.bool !bb) := by rfl) (ht2 : Nat.blt tg n = true := by rfl) (ht : Nat.blt dd n = true := by rfl) : Ch P n ops w (⟨some dd, op, tt, pos, af, some (j, bb)⟩ :: L) T L' T' := .s hj hb ht2 ht tl
end
end Go.Proofs.YtogjhjiapinmcaaDoor.K
end
section
namespace Go.Proofs.YtogjhjiapinmcaaDoor.K
open Go.ChangeShapes Go.WideShapes Go.ChangeAt Go.RowKit
set_option linter.unusedVariables false
set_option linter.unusedSimpArgs false
def gdB (ops : Array Oper) (n : Nat) (T : List (Nat × Value)) : Option (Nat × Bool) → Bool
 | none => true
 | some (j, b) => match (ops[j]?).bind (·.dst) with
   | some t => Nat.blt t n && match lk T t with
     | some (.bool x) => x == b
     | _ => false
   | none => false
theorem gd_wanted {ops : Array Oper} {n : Nat} {T : List (Nat × Value)} {a : Act} (ha : Has n T a) {o : Oper} (h : gdB ops n T o.guard = true) : Region.wanted o (Go.yielded ops a.tmps) = true := by
 unfold gdB at h
 split at h
 · next e => simp [Region.wanted, e]
 · next j b e =>
   split at h
   · next t hj =>
     rw [Bool.and_eq_true] at h
     split at h
     · next x hb =>
       obtain rfl : x = b := by simpa using h.2
       simp [Region.wanted, e, ha.yielded hj hb h.1]
     · cases h.2
   · cases h
inductive Cd (P : Program) (n : Nat) (ops : Array Oper) (S : World → Prop) : List (Oper × Bool) → List (Nat × Value) → List (Nat × Value) → Prop
 | nil {T : List (Nat × Value)} : Cd P n ops S [] T T
 | c {d : Tmp} {op : Op} {v : Value} {L : List (Oper × Bool)} {T T' : List (Nat × Value)} {tt : TypeId} {pos : String} {af : Array Edge} {gd : Option (Nat × Bool)} (hy : ∀ W, S W → ∀ a, Has n T a → Yl P a W ⟨some d, op, tt, pos, af, gd⟩ v) (tl : Cd P n ops S L ((d, v) :: T) T') (hg : gdB ops n T gd = true := by rfl) (ht : Nat.blt d n = true := by rfl) : Cd P n ops S ((⟨some d, op, tt, pos, af, gd⟩, true) :: L) T T'
 | p {d : Tmp} {op : Op} {v : Value} {L : List (Oper × Bool)} {T T' : List (Nat × Value)} {tt : TypeId} {pos : String} {af : Array Edge} {gd : Option (Nat × Bool)} (hy : ∀ W, ∀ a, Has n T a → Yl P a W ⟨some d, op, tt, pos, af, gd⟩ v) (tl : Cd P n ops S L ((d, v) :: T) T') (hg : gdB ops n T gd = true := by rfl) (ht : Nat.blt d n = true := by rfl) : Cd P n ops S ((⟨some d, op, tt, pos, af, gd⟩, false) :: L) T T'
 | s {d : Tmp} {op : Op} {L : List (Oper × Bool)} {T T' : List (Nat × Value)} {tt : TypeId} {pos : String} {af : Array Edge} {j t : Nat} {b : Bool} (tl : Cd P n ops S L ((d, undef) :: T) T') (hj : (ops[j]?).bind (·.dst) = some t := by rfl) (hb : lk T t = some (.bool !b) := by rfl) (ht2 : Nat.blt t n = true := by rfl) (ht : Nat.blt d n = true := by rfl) : Cd P n ops S ((⟨some d, op, tt, pos, af, some (j, b)⟩, false) :: L) T T'
 | u {d : Tmp} {op : Op} {L : List (Oper × Bool)} {T T' : List (Nat × Value)} {tt : TypeId} {pos : String} {af : Array Edge} {j t : Nat} {b : Bool} (tl : Cd P n ops S L ((d, undef) :: T) T') (hj : (ops[j]?).bind (·.dst) = some t := by rfl) (hb : lk T t = some undef := by rfl) (ht2 : Nat.blt t n = true := by rfl) (ht : Nat.blt d n = true := by rfl) : Cd P n ops S ((⟨some d, op, tt, pos, af, some (j, b)⟩, false) :: L) T T'
def opsAt (ops : Array Oper) (rs : List Nat) : List Nat → List (Oper × Bool)
 | [] => []
 | i :: is => match ops[i]? with
   | some o => (o, rs.contains i) :: opsAt ops rs is
   | none => opsAt ops rs is
def lst (s m : Nat) : Array Bool := ((List.range s).map fun i => m.testBit i).toArray
theorem lst_size (s m : Nat) : (lst s m).size = s := by simp [lst]
theorem lst_getD (s m i : Nat) (d : Bool) : (lst s m).getD i d = if i < s then m.testBit i else d := by
 unfold Array.getD
 by_cases h : i < s
 · rw [dif_pos (show i < (lst s m).size by rw [lst_size]; exact h), if_pos h]; simp [lst]
 · rw [dif_neg (show ¬ i < (lst s m).size by rw [lst_size]; exact h), if_neg h]
theorem lst_set (s m i : Nat) : (lst s m).setIfInBounds i true = lst s (m ||| (1 <<< i)) := by
 apply Array.ext
 · simp [lst_size]
 · intro k h1 h2
   rw [Array.getElem_setIfInBounds (by rw [lst_size]; simpa [lst_size] using h1)]
   have hk : k < s := by rw [lst_size] at h2; exact h2
   by_cases hik : i = k
   · subst hik; simp [lst, Nat.testBit_or, Nat.one_shiftLeft, Nat.testBit_two_pow_self]
   · rw [if_neg hik]; simp [lst, Nat.testBit_or, Nat.one_shiftLeft, Nat.testBit_two_pow_of_ne hik]
def pairB (md : Region.Mode) (ops : Array Oper) : Bool := (List.range ops.size).all fun i => match ops[i]? with
 | none => true
 | some oi => (List.range ops.size).all fun j => j == i || match ops[j]? with
   | none => true
   | some oj => oj.after.any (fun e => Region.binds md e && e.on == i) || oi.after.any (fun e => Region.binds md e && e.on == j) || oi.apart ops oj
def rdM (md : Region.Mode) (ops : Array Oper) (e : Nat) (rs : List Nat) : Nat → List Nat → Bool
 | _, [] => true
 | m, i :: is => (match ops[i]? with
   | none => false
   | some o => !(m.testBit i) && o.after.all fun ed => !Region.binds md ed || (m.testBit ed.on && Nat.blt ed.on ops.size)) && Nat.blt i ops.size && decide (i ≠ e) && (!(rs.contains i) || (decide (ops.size ≤ e) || waits md ops e i)) && rdM md ops e rs (m ||| (1 <<< i)) is
def bitsM : Nat → List Nat → Nat
 | m, [] => m
 | m, i :: is => bitsM (m ||| (1 <<< i)) is
theorem rd_ready {md : Region.Mode} {ops : Array Oper} {m i : Nat} {o : Oper} (ho : ops[i]? = some o) (hn : m.testBit i = false) (ha : ∀ ed ∈ o.after, Region.binds md ed = true → m.testBit ed.on = true ∧ ed.on < ops.size) : i ∈ Region.ready md ops (lst ops.size m) := by
 have hi' : i < ops.size := (Array.getElem?_eq_some_iff.1 ho).1
 refine mem_ready.2 ⟨by rw [lst_getD, if_pos hi', hn], o, ho, fun ed hed hb => ?_⟩
 rw [lst_getD, if_pos (ha ed hed hb).2, (ha ed hed hb).1]
theorem pair_free {md : Region.Mode} {ops : Array Oper} {m i : Nat} {o : Oper} (hp : pairB md ops = true) (ho : ops[i]? = some o) (ha : ∀ ed ∈ o.after, Region.binds md ed = true → m.testBit ed.on = true ∧ ed.on < ops.size) : Region.free md ops (lst ops.size m) i = true := by
 simp only [pairB, List.all_eq_true, List.mem_range] at hp
 have hi := hp i (Array.getElem?_eq_some_iff.1 ho).1
 simp only [ho, List.all_eq_true, List.mem_range] at hi
 simp only [Region.free, ho, List.all_eq_true, List.mem_range]
 intro j hj
 have hij := hi j hj
 rw [lst_getD, if_pos hj]
 rw [Bool.or_eq_true] at hij
 rcases hij with h1 | h1
 · rw [h1]; simp
 · cases hoj : ops[j]? with
   | none => simp
   | some oj =>
     simp only [hoj, Bool.or_eq_true] at h1
     rcases h1 with (h3 | h3) | h3
     · simp [h3]
     · obtain ⟨ed, hed, h4⟩ := Array.any_eq_true'.1 h3
       rw [Bool.and_eq_true, beq_iff_eq] at h4
       have h5 := ha ed hed h4.1
       rw [h4.2] at h5
       simp [h5.1]
     · simp [h3]
theorem rd_after {md : Region.Mode} {ops : Array Oper} {m : Nat} {o : Oper} (h : (o.after.all fun ed => !Region.binds md ed || (m.testBit ed.on && Nat.blt ed.on ops.size)) = true) : ∀ ed ∈ o.after, Region.binds md ed = true → m.testBit ed.on = true ∧ ed.on < ops.size := fun ed hed hb => by
 have h5 := Array.all_eq_true_iff_forall_mem.1 h ed hed
 rw [hb] at h5
 simpa [Nat.blt_eq] using h5
section
variable {P : Program} {n : Nat} {ops : Array Oper} {Q : Exit → Act → World → Prop} {md : Region.Mode} {e fuel : Nat} {S S' : World → Prop}
theorem closedB_of {L : Array Bool} (h : Closed md ops L) : closedB md ops L = true := by
 unfold closedB
 rw [Bool.and_eq_true, decide_eq_true_eq, List.all_eq_true]
 refine ⟨h.1, fun j _ => ?_⟩
 cases hl : L.getD j false with
 | false => rfl
 | true =>
   cases ho : ops[j]? with
   | none => rfl
   | some oj =>
     simp only [Bool.not_true, Bool.false_or]
     rw [Array.all_eq_true_iff_forall_mem]
     intro ed hed
     cases hb : Region.binds md ed with
     | false => rfl
     | true => simpa using h.2 j oj ho hl ed hed hb
theorem hh : ∀ W, S W → S W := fun _ h => h
theorem stepsR (rs : List Nat) (hp : pairB md ops = true) (hs : Region.noSelect ops = true) (hQ : ∀ c a d v w, Q (.panic c) (a.put (some d) v) w → Q (.panic c) a w) : ∀ (is : List Nat) {k m : Nat} {T T' : List (Nat × Value)} {a : Act} {w : World}, is.length = k → Has n T a → (S w ∨ (Nat.testBit m e = true ∧ e < ops.size ∧ rs = [])) → (rs = [] ∨ closedB md ops (lst ops.size m) = true) → Cd P n ops S (opsAt ops rs is) T T' → rdM md ops e rs m is = true → (∀ a', Has n T' a' → wpAnyE P md ops Q e S fuel (lst ops.size (bitsM m is)) a' w) → wpAnyE P md ops Q e S (fuel + k) (lst ops.size m) a w
 | [], k, m, T, T', a, w, hk, ha, hS, hcl, hc, _, h => by
   subst hk
   cases hc
   exact h a ha
 | i :: is, k, m, T, T', a, w, hk, ha, hS, hcl, hc, hr, h => by
   subst hk
   simp only [rdM, Bool.and_eq_true] at hr
   obtain ⟨⟨⟨⟨h1, h2⟩, h4⟩, h6⟩, h7⟩ := hr
   cases ho : ops[i]? with
   | none => rw [ho] at h1; cases h1
   | some o =>
     rw [ho] at h1
     simp only [Bool.and_eq_true, Bool.not_eq_true'] at h1
     have haf := rd_after h1.2
     have hop : opsAt ops rs (i :: is) = (o, rs.contains i) :: opsAt ops rs is := by simp only [opsAt, ho]
     rw [hop] at hc
     have h4' : i ≠ e := of_decide_eq_true h4
     have hrd := rd_ready ho h1.1 haf
     have hrb : (Region.ready md ops (lst ops.size m)).contains i = true := List.contains_iff_mem.2 hrd
     have hf := pair_free hp ho haf
     have hS1 : (lst ops.size m).getD e false = false → S w := fun h => hS.elim (fun h => h) (fun h9 => by rw [lst_getD, if_pos h9.2.1, h9.1] at h; cases h)
     have hS2 : S w ∨ (Nat.testBit (m ||| (1 <<< i)) e = true ∧ e < ops.size ∧ rs = []) := hS.imp (fun h => h) (fun h9 => ⟨by rw [Nat.testBit_or, h9.1]; rfl, h9.2⟩)
     have hcl2 : rs = [] ∨ closedB md ops (lst ops.size (m ||| (1 <<< i))) = true := hcl.imp (fun h => h) (fun h => by
       have := (closedB_spec h).set hrd
       rw [lst_set] at this
       exact closedB_of this)
     have go {d : Tmp} {v : Value} (ha' : Has n ((d, v) :: T) (a.put (some d) v)) (tl : Cd P n ops S (opsAt ops rs is) ((d, v) :: T) T') : wpAnyE P md ops Q e S (fuel + is.length) ((lst ops.size m).setIfInBounds i true) (a.put (some d) v) w := by
       rw [lst_set]
       exact stepsR rs hp hs hQ is rfl ha' hS2 hcl2 tl h7 h
     generalize hb : rs.contains i = b at hc
     cases hc with
     | c hy tl hg ht =>
       rw [hb] at h6
       simp only [Bool.not_true, Bool.false_or, Bool.or_eq_true] at h6
       have hne : rs ≠ [] := fun h => by rw [h] at hb; cases hb
       have hS0 : S w := hS.elim (fun h => h) (fun h9 => absurd h9.2.2 hne)
       have hc0 := hcl.resolve_left hne
       rcases h6 with h9 | h9
       · exact stepE_held i (some _) hS0 ho rfl hs hf hrb hc0 (by rw [h9, h4]; rfl) (fun c a w => hQ c a _ _ w) (gd_wanted ha hg) (fun W hW => hy W hW a ha) (go (ha.put ht _) tl)
       · exact stepE_readW i (some _) hS0 ho rfl hs hf hrb hc0 (by rw [h9, h4]; rfl) (fun c a w => hQ c a _ _ w) (gd_wanted ha hg) (fun W hW => hy W hW a ha) (go (ha.put ht _) tl)
     | p hy tl hg ht => exact stepE_any i (some _) hS1 ho rfl hs hf hrb h4 (fun c a w => hQ c a _ _ w) (gd_wanted ha hg) (fun W => hy W a ha) (go (ha.put ht _) tl)
     | s tl hj hb ht2 ht => exact stepE_skip i (some _) hS1 ho rfl hs hf hrb h4 (fun c a w => hQ c a _ _ w) (by simp [Region.wanted, ha.yielded hj hb ht2]) (go (ha.put ht _) tl)
     | u tl hj hb ht2 ht => exact stepE_skip i (some _) hS1 ho rfl hs hf hrb h4 (fun c a w => hQ c a _ _ w) (by simp [Region.wanted, ha.unyielded hj hb ht2]) (go (ha.put ht _) tl)
theorem region_p {P : Program} {a : Act} {w w0 : World} {X : Cx} {M B : Mm} {ops : Array Oper} {Q : Exit → Act → World → Prop} (e : Nat) (mB : MemOk X w0 B w) (m : MemOk X w0 M w) {id : Nat} (hm : P.follows .mixedOrders = true)
   (h : ∀ w', pairB .any ops = true → MemOk X w0 M w' → wpAnyE P .any ops Q e (MemOk X w0 B) ops.size (Array.replicate ops.size false) a w') (hp : pairB .any ops = true := by kernel_rfl) : (Code.region id ops true).wp P Q a w := region_m e mB m hm (fun w' _ m' => h w' hp m')
theorem goR (hp : pairB md ops = true) (is rs : List Nat) (k m m' : Nat) {T T' : List (Nat × Value)} {a : Act} {w : World} {listed : Array Bool} (ha : Has n T a) (hS : S w) (hc : Cd P n ops S (opsAt ops rs is) T T') (h : ∀ a', Has n T' a' → wpAnyE P md ops Q e S fuel (lst ops.size m') a' w) (hl : listed = lst ops.size m := by kernel_rfl) (hm : m' = bitsM m is := by kernel_rfl) (hk : is.length = k := by rfl) (hcl : closedB md ops (lst ops.size m) = true := by kernel_rfl) (hs : Region.noSelect ops = true := by kernel_rfl) (hr : rdM md ops e rs m is = true := by kernel_rfl) (hQ : ∀ c a d v w, Q (.panic c) (a.put (some d) v) w → Q (.panic c) a w := by exact fun _ _ _ _ _ h => h) : wpAnyE P md ops Q e S (fuel + k) listed a w := by
 subst hl; subst hm
 exact stepsR rs hp hs hQ is hk ha (.inl hS) (.inr hcl) hc hr h
theorem goA (hp : pairB md ops = true) (is : List Nat) (k m m' : Nat) {T T' : List (Nat × Value)} {a : Act} {w : World} {listed : Array Bool} (ha : Has n T a) (hS : S w) (hc : Cd P n ops S (opsAt ops [] is) T T') (h : ∀ a', Has n T' a' → wpAnyE P md ops Q e S fuel (lst ops.size m') a' w) (hl : listed = lst ops.size m := by kernel_rfl) (hm : m' = bitsM m is := by kernel_rfl) (hk : is.length = k := by rfl) (hs : Region.noSelect ops = true := by kernel_rfl) (hr : rdM md ops e [] m is = true := by kernel_rfl) (hQ : ∀ c a d v w, Q (.panic c) (a.put (some d) v) w → Q (.panic c) a w := by exact fun _ _ _ _ _ h => h) : wpAnyE P md ops Q e S (fuel + k) listed a w := by
 subst hl; subst hm
 exact stepsR [] hp hs hQ is hk ha (.inl hS) (.inl rfl) hc hr h
theorem goB (hp : pairB md ops = true) (is : List Nat) (k m m' : Nat) {T T' : List (Nat × Value)} {a : Act} {w : World} {listed : Array Bool} (ha : Has n T a) (hc : Cd P n ops S (opsAt ops [] is) T T') (h : ∀ a', Has n T' a' → wpAnyE P md ops Q e S fuel (lst ops.size m') a' w) (hl : listed = lst ops.size m := by kernel_rfl) (hm : m' = bitsM m is := by kernel_rfl) (hk : is.length = k := by rfl) (hb : (Nat.testBit m e && Nat.blt e ops.size) = true := by kernel_rfl) (hs : Region.noSelect ops = true := by kernel_rfl) (hr : rdM md ops e [] m is = true := by kernel_rfl) (hQ : ∀ c a d v w, Q (.panic c) (a.put (some d) v) w → Q (.panic c) a w := by exact fun _ _ _ _ _ h => h) : wpAnyE P md ops Q e S (fuel + k) listed a w := by
 subst hl; subst hm
 rw [Bool.and_eq_true] at hb
 exact stepsR [] hp hs hQ is hk ha (.inr ⟨hb.1, by simpa [Nat.blt_eq] using hb.2, rfl⟩) (.inl rfl) hc hr h
end
/-! short -/
section
variable {P : Program} {n : Nat} {ops : Array Oper} {S : World → Prop} {L : List (Oper × Bool)} {T T' : List (Nat × Value)} {w0 : World} {X : Cx} {M : Mm} {dd : Tmp} {tt : TypeId} {pos : String} {af : Array Edge} {gd : Option (Nat × Bool)} {x y z : Operand} {k : IntKind} {p q r : Int} {t t2 : TypeId}
theorem Cd.move {x : Operand} {v : Value} (hx : evT T x = some v) (tl : Cd P n ops S L ((dd, v) :: T) T') (hg : gdB ops n T gd = true := by rfl) (ht : Nat.blt dd n = true := by rfl) : Cd P n ops S ((⟨some dd, .move x, tt, pos, af, gd⟩, false) :: L) T T' := .p (fun W _ h => y_move h hx) tl hg ht
theorem Cd.assign {x : Operand} {v : Value} (hx : evT T x = some v) (tl : Cd P n ops S L ((dd, v) :: T) T') (hg : gdB ops n T gd = true := by rfl) (ht : Nat.blt dd n = true := by rfl) : Cd P n ops S ((⟨some dd, .assign x, tt, pos, af, gd⟩, false) :: L) T T' := .p (fun W _ h => y_assign h hx) tl hg ht
theorem Cd.pickT {c x y : Operand} {v : Value} (hc : evT T c = some (.bool true)) (hx : evT T x = some v) (tl : Cd P n ops S L ((dd, v) :: T) T') (hg : gdB ops n T gd = true := by rfl) (ht : Nat.blt dd n = true := by rfl) : Cd P n ops S ((⟨some dd, .pick c x y, tt, pos, af, gd⟩, false) :: L) T T' := .p (fun W _ h => y_pickT h hc hx) tl hg ht
theorem Cd.pickF {c x y : Operand} {v : Value} (hc : evT T c = some (.bool false)) (hx : evT T y = some v) (tl : Cd P n ops S L ((dd, v) :: T) T') (hg : gdB ops n T gd = true := by rfl) (ht : Nat.blt dd n = true := by rfl) : Cd P n ops S ((⟨some dd, .pick c x y, tt, pos, af, gd⟩, false) :: L) T T' := .p (fun W _ h => y_pickF h hc hx) tl hg ht
theorem Cd.not {t : TypeId} {x : Operand} {b : Bool} (hx : evT T x = some (.bool b)) (tl : Cd P n ops S L ((dd, (.bool !b)) :: T) T') (hg : gdB ops n T gd = true := by rfl) (ht : Nat.blt dd n = true := by rfl) : Cd P n ops S ((⟨some dd, .unOp .not t x, tt, pos, af, gd⟩, false) :: L) T T' := .p (fun W _ h => y_not h hx) tl hg ht
theorem Cd.len {t e : TypeId} {x : Operand} {p : Option Addr} {l c : Nat} (hx : evT T x = some (.slice p l c)) (hu : P.underlying t = some (.slice e)) (tl : Cd P n ops S L ((dd, (.int .i64 l)) :: T) T') (hg : gdB ops n T gd = true := by rfl) (ht : Nat.blt dd n = true := by rfl) : Cd P n ops S ((⟨some dd, .call { callee := .builtin .len, args := #[x], argTypes := #[t] }, tt, pos, af, gd⟩, false) :: L) T T' := .p (fun W _ h => y_len h hx hu) tl hg ht
theorem Cd.add (hx : evT T x = some (.int k p)) (hy : evT T y = some (.int k q)) (hr : k.wrap (p + q) = r) (tl : Cd P n ops S L ((dd, (.int k r)) :: T) T') (hg : gdB ops n T gd = true := by rfl) (ht : Nat.blt dd n = true := by rfl) : Cd P n ops S ((⟨some dd, .binOp .add t x y t2, tt, pos, af, gd⟩, false) :: L) T T' := .p (fun W _ h => y_add h hx hy hr) tl hg ht
theorem Cd.sub (hx : evT T x = some (.int k p)) (hy : evT T y = some (.int k q)) (hr : k.wrap (p - q) = r) (tl : Cd P n ops S L ((dd, (.int k r)) :: T) T') (hg : gdB ops n T gd = true := by rfl) (ht : Nat.blt dd n = true := by rfl) : Cd P n ops S ((⟨some dd, .binOp .sub t x y t2, tt, pos, af, gd⟩, false) :: L) T T' := .p (fun W _ h => y_sub h hx hy hr) tl hg ht
theorem Cd.mul (hx : evT T x = some (.int k p)) (hy : evT T y = some (.int k q)) (hr : k.wrap (p * q) = r) (tl : Cd P n ops S L ((dd, (.int k r)) :: T) T') (hg : gdB ops n T gd = true := by rfl) (ht : Nat.blt dd n = true := by rfl) : Cd P n ops S ((⟨some dd, .binOp .mul t x y t2, tt, pos, af, gd⟩, false) :: L) T T' := .p (fun W _ h => y_mul h hx hy hr) tl hg ht
theorem Cd.quo (hx : evT T x = some (.int k p)) (hy : evT T y = some (.int k q)) (h0 : q ≠ 0) (hr : k.wrap (p.tdiv q) = r) (tl : Cd P n ops S L ((dd, (.int k r)) :: T) T') (hg : gdB ops n T gd = true := by rfl) (ht : Nat.blt dd n = true := by rfl) : Cd P n ops S ((⟨some dd, .binOp .quo t x y t2, tt, pos, af, gd⟩, false) :: L) T T' := .p (fun W _ h => y_quo h hx hy h0 hr) tl hg ht
theorem Cd.rem (hx : evT T x = some (.int k p)) (hy : evT T y = some (.int k q)) (h0 : q ≠ 0) (hr : p.tmod q = r) (tl : Cd P n ops S L ((dd, (.int k r)) :: T) T') (hg : gdB ops n T gd = true := by rfl) (ht : Nat.blt dd n = true := by rfl) : Cd P n ops S ((⟨some dd, .binOp .rem t x y t2, tt, pos, af, gd⟩, false) :: L) T T' := .p (fun W _ h => y_rem h hx hy h0 hr) tl hg ht
theorem Cd.and (hx : evT T x = some (.int k p)) (hy : evT T y = some (.int k q)) (hr : k.wrap (BitVec.ofInt k.bits p &&& BitVec.ofInt k.bits q).toNat = r) (tl : Cd P n ops S L ((dd, (.int k r)) :: T) T') (hg : gdB ops n T gd = true := by rfl) (ht : Nat.blt dd n = true := by rfl) : Cd P n ops S ((⟨some dd, .binOp .and t x y t2, tt, pos, af, gd⟩, false) :: L) T T' := .p (fun W _ h => y_and h hx hy hr) tl hg ht
theorem Cd.or (hx : evT T x = some (.int k p)) (hy : evT T y = some (.int k q)) (hr : k.wrap (BitVec.ofInt k.bits p ||| BitVec.ofInt k.bits q).toNat = r) (tl : Cd P n ops S L ((dd, (.int k r)) :: T) T') (hg : gdB ops n T gd = true := by rfl) (ht : Nat.blt dd n = true := by rfl) : Cd P n ops S ((⟨some dd, .binOp .or t x y t2, tt, pos, af, gd⟩, false) :: L) T T' := .p (fun W _ h => y_or h hx hy hr) tl hg ht
theorem Cd.xor (hx : evT T x = some (.int k p)) (hy : evT T y = some (.int k q)) (hr : k.wrap (BitVec.ofInt k.bits p ^^^ BitVec.ofInt k.bits q).toNat = r) (tl : Cd P n ops S L ((dd, (.int k r)) :: T) T') (hg : gdB ops n T gd = true := by rfl) (ht : Nat.blt dd n = true := by rfl) : Cd P n ops S ((⟨some dd, .binOp .xor t x y t2, tt, pos, af, gd⟩, false) :: L) T T' := .p (fun W _ h => y_xor h hx hy hr) tl hg ht
theorem Cd.shl {yk : IntKind} (hx : evT T x = some (.int k p)) (hy : evT T y = some (.int yk q)) (h0 : 0 ≤ q) (hr : k.wrap (p * 2 ^ min q.toNat k.bits) = r) (tl : Cd P n ops S L ((dd, (.int k r)) :: T) T') (hg : gdB ops n T gd = true := by rfl) (ht : Nat.blt dd n = true := by rfl) : Cd P n ops S ((⟨some dd, .binOp .shl t x y t2, tt, pos, af, gd⟩, false) :: L) T T' := .p (fun W _ h => y_shl h hx hy h0 hr) tl hg ht
theorem Cd.shr {yk : IntKind} (hx : evT T x = some (.int k p)) (hy : evT T y = some (.int yk q)) (h0 : 0 ≤ q) (hr : p.fdiv (2 ^ min q.toNat k.bits) = r) (tl : Cd P n ops S L ((dd, (.int k r)) :: T) T') (hg : gdB ops n T gd = true := by rfl) (ht : Nat.blt dd n = true := by rfl) : Cd P n ops S ((⟨some dd, .binOp .shr t x y t2, tt, pos, af, gd⟩, false) :: L) T T' := .p (fun W _ h => y_shr h hx hy h0 hr) tl hg ht
theorem Cd.lss (hx : evT T x = some (.int k p)) (hy : evT T y = some (.int k q)) (tl : Cd P n ops S L ((dd, (.bool (decide (p < q)))) :: T) T') (hg : gdB ops n T gd = true := by rfl) (ht : Nat.blt dd n = true := by rfl) : Cd P n ops S ((⟨some dd, .binOp .lss t x y t2, tt, pos, af, gd⟩, false) :: L) T T' := .p (fun W _ h => y_lss h hx hy) tl hg ht
theorem Cd.gtr (hx : evT T x = some (.int k p)) (hy : evT T y = some (.int k q)) (tl : Cd P n ops S L ((dd, (.bool (decide (q < p)))) :: T) T') (hg : gdB ops n T gd = true := by rfl) (ht : Nat.blt dd n = true := by rfl) : Cd P n ops S ((⟨some dd, .binOp .gtr t x y t2, tt, pos, af, gd⟩, false) :: L) T T' := .p (fun W _ h => y_gtr h hx hy) tl hg ht
theorem Cd.geq (hx : evT T x = some (.int k p)) (hy : evT T y = some (.int k q)) (tl : Cd P n ops S L ((dd, (.bool (decide (q ≤ p)))) :: T) T') (hg : gdB ops n T gd = true := by rfl) (ht : Nat.blt dd n = true := by rfl) : Cd P n ops S ((⟨some dd, .binOp .geq t x y t2, tt, pos, af, gd⟩, false) :: L) T T' := .p (fun W _ h => y_geq h hx hy) tl hg ht
theorem Cd.eql (hx : evT T x = some (.int k p)) (hy : evT T y = some (.int k q)) (tl : Cd P n ops S L ((dd, (.bool (decide (p = q)))) :: T) T') (hg : gdB ops n T gd = true := by rfl) (ht : Nat.blt dd n = true := by rfl) : Cd P n ops S ((⟨some dd, .binOp .eql t x y t2, tt, pos, af, gd⟩, false) :: L) T T' := .p (fun W _ h => y_eql h hx hy) tl hg ht
theorem Cd.neq (hx : evT T x = some (.int k p)) (hy : evT T y = some (.int k q)) (tl : Cd P n ops S L ((dd, (.bool (decide (p ≠ q)))) :: T) T') (hg : gdB ops n T gd = true := by rfl) (ht : Nat.blt dd n = true := by rfl) : Cd P n ops S ((⟨some dd, .binOp .neq t x y t2, tt, pos, af, gd⟩, false) :: L) T T' := .p (fun W _ h => y_neq h hx hy) tl hg ht
theorem Cd.neqS {b c : ByteArray} (hx : evT T x = some (.string b)) (hy : evT T y = some (.string c)) (tl : Cd P n ops S L ((dd, (.bool (!(b.toList == c.toList)))) :: T) T') (hg : gdB ops n T gd = true := by rfl) (ht : Nat.blt dd n = true := by rfl) : Cd P n ops S ((⟨some dd, .binOp .neq t x y t2, tt, pos, af, gd⟩, false) :: L) T T' := .p (fun W _ h => y_neqS h hx hy) tl hg ht
theorem Cd.eqlP {e : TypeId} {b : Option Addr} (hx : evT T x = some (.pointer b)) (hy : evT T y = some (.pointer none)) (hu : P.underlying t = some (.pointer e)) (tl : Cd P n ops S L ((dd, (.bool b.isNone)) :: T) T') (hg : gdB ops n T gd = true := by rfl) (ht : Nat.blt dd n = true := by rfl) : Cd P n ops S ((⟨some dd, .binOp .eql t x y t2, tt, pos, af, gd⟩, false) :: L) T T' := .p (fun W _ h => y_eqlP h hx hy hu) tl hg ht
theorem Cd.neqP {e : TypeId} {b : Option Addr} (hx : evT T x = some (.pointer b)) (hy : evT T y = some (.pointer none)) (hu : P.underlying t = some (.pointer e)) (tl : Cd P n ops S L ((dd, (.bool !b.isNone)) :: T) T') (hg : gdB ops n T gd = true := by rfl) (ht : Nat.blt dd n = true := by rfl) : Cd P n ops S ((⟨some dd, .binOp .neq t x y t2, tt, pos, af, gd⟩, false) :: L) T T' := .p (fun W _ h => y_neqP h hx hy hu) tl hg ht
theorem Cd.conv {s e : TypeId} {k' : IntKind} {ds : TypeDesc} (hx : evT T x = some (.int k p)) (hs : P.underlying s = some ds) (hd : P.underlying e = some (.int k')) (hr : k'.wrap p = r) (tl : Cd P n ops S L ((dd, (.int k' r)) :: T) T') (hg : gdB ops n T gd = true := by rfl) (ht : Nat.blt dd n = true := by rfl) : Cd P n ops S ((⟨some dd, .convert s e x, tt, pos, af, gd⟩, false) :: L) T T' := .p (fun W _ h => y_conv h hx hs hd hr) tl hg ht
theorem Cd.extract {x : Operand} {vs : Array Value} {i : Nat} {v : Value} (hx : evT T x = some (.tuple vs)) (hv : nthL vs.toList i = some v) (tl : Cd P n ops S L ((dd, v) :: T) T') (hg : gdB ops n T gd = true := by rfl) (ht : Nat.blt dd n = true := by rfl) : Cd P n ops S ((⟨some dd, .extract x i, tt, pos, af, gd⟩, false) :: L) T T' := .p (fun W _ h => y_extract h hx hv) tl hg ht
theorem Cd.nilCheck {x : Operand} {p : Addr} (hx : evT T x = some (.pointer (some p))) (tl : Cd P n ops S L ((dd, (.pointer (some p))) :: T) T') (hg : gdB ops n T gd = true := by rfl) (ht : Nat.blt dd n = true := by rfl) : Cd P n ops S ((⟨some dd, .nilCheck x, tt, pos, af, gd⟩, false) :: L) T T' := .p (fun W _ h => y_nilCheck h hx) tl hg ht
theorem Cd.fieldAddr {t : TypeId} {x : Operand} {i g o : Nat} {fs : Array Field} {f : Field} {s off : Nat} (hx : evT T x = some (.pointer (some ⟨g, o, none⟩))) (hu : P.underlying t = some (.struct fs)) (hf : fs[i]? = some f) (hs : (P.info? f.type).map (·.size) = some (s + 1)) (ho : o + f.offset = off) (tl : Cd P n ops S L ((dd, (.pointer (some ⟨g, off, none⟩))) :: T) T') (hg : gdB ops n T gd = true := by rfl) (ht : Nat.blt dd n = true := by rfl) : Cd P n ops S ((⟨some dd, .fieldAddr t x i, tt, pos, af, gd⟩, false) :: L) T T' := .p (fun W _ h => y_fieldAddr h hx hu hf hs ho) tl hg ht
theorem Cd.fieldAddrQ {t : TypeId} {x : Operand} {i g o : Nat} {fs : Array Field} {f : Field} {s : Nat} (q : Nat) (hx : evT T x = some (.pointer (some ⟨g, o, none⟩))) (hu : P.underlying t = some (.struct fs)) (hf : fs[i]? = some f) (hs : (P.info? f.type).map (·.size) = some (s + 1)) (hq : f.offset = q) (tl : Cd P n ops S L ((dd, (.pointer (some ⟨g, o + q, none⟩))) :: T) T') (hg : gdB ops n T gd = true := by rfl) (ht : Nat.blt dd n = true := by rfl) : Cd P n ops S ((⟨some dd, .fieldAddr t x i, tt, pos, af, gd⟩, false) :: L) T T' := .p (fun W _ h => y_fieldAddrQ h q hx hu hf hs hq) tl hg ht
theorem Cd.build {t : TypeId} {parts : Array (Nat × Operand)} {z cs : List Value} {pl : List (Nat × Value)} (hp : K.evP T parts.toList = some pl) (hz : ((P.info? t).bind (·.zero)).map (·.cells.toList) = some z) (hf : flatS P t z = true) (h1 : pl.all (fun p => decide (p.1 < z.length) && p.2.oneCell') = true) (hc : setL z pl = cs) (tl : Cd P n ops S L ((dd, (.agg cs.toArray)) :: T) T') (hg : gdB ops n T gd = true := by rfl) (ht : Nat.blt dd n = true := by rfl) : Cd P n ops S ((⟨some dd, .build t parts, tt, pos, af, gd⟩, false) :: L) T T' := .p (fun W _ h => y_build h hp hz hf h1 hc) tl hg ht
theorem Cd.loadB1 (m : ∀ W, S W → MemOk X w0 M W) {t : TypeId} {td : TypeDesc} {x : Operand} {i g o : Nat} {e : TypeId} {cs : List Value} {v : Value} (hm : lk M i = some (.box g e cs)) (hx : evT T x = some (.pointer (some ⟨g, o, none⟩))) (hv : cs[o]? = some v) (hu : P.underlying t = some td) (hr : td.isRow = false) (tl : Cd P n ops S L ((dd, v) :: T) T') (hg : gdB ops n T gd = true := by rfl) (ht : Nat.blt dd n = true := by rfl) : Cd P n ops S ((⟨some dd, .load t x, tt, pos, af, gd⟩, true) :: L) T T' := .c (fun W hW _ h => y_loadB1 h (m W hW) hm hx hv hu hr) tl hg ht
theorem Cd.loadC1 (m : ∀ W, S W → MemOk X w0 M W) {t : TypeId} {td : TypeDesc} {x : Operand} {i b o q : Nat} {vs : List Value} {v : Value} (hm : lk M i = some (.cel b o vs)) (hx : evT T x = some (.pointer (some ⟨b, o + q, none⟩))) (hv : vs[q]? = some v) (hu : P.underlying t = some td) (hr : td.isRow = false) (tl : Cd P n ops S L ((dd, v) :: T) T') (hg : gdB ops n T gd = true := by rfl) (ht : Nat.blt dd n = true := by rfl) : Cd P n ops S ((⟨some dd, .load t x, tt, pos, af, gd⟩, true) :: L) T T' := .c (fun W hW _ h => y_loadC1 h (m W hW) hm hx hv hu hr) tl hg ht
theorem Cd.loadC0 (m : ∀ W, S W → MemOk X w0 M W) {t : TypeId} {td : TypeDesc} {x : Operand} {i b o : Nat} {vs : List Value} {v : Value} (hm : lk M i = some (.cel b o (v :: vs))) (hx : evT T x = some (.pointer (some ⟨b, o, none⟩))) (hu : P.underlying t = some td) (hr : td.isRow = false) (tl : Cd P n ops S L ((dd, v) :: T) T') (hg : gdB ops n T gd = true := by rfl) (ht : Nat.blt dd n = true := by rfl) : Cd P n ops S ((⟨some dd, .load t x, tt, pos, af, gd⟩, true) :: L) T T' := .c (fun W hW _ h => y_loadC0 h (m W hW) hm hx hu hr) tl hg ht
theorem Cd.loadCR (m : ∀ W, S W → MemOk X w0 M W) {t : TypeId} {td : TypeDesc} {x : Operand} {i b o : Nat} {vs : List Value} (hm : lk M i = some (.cel b o vs)) (hx : evT T x = some (.pointer (some ⟨b, o, none⟩))) (hu : P.underlying t = some td) (hr : td.isRow = true) (hs : (P.info? t).map (·.size) = some vs.length) (tl : Cd P n ops S L ((dd, (.agg vs.toArray)) :: T) T') (hg : gdB ops n T gd = true := by rfl) (ht : Nat.blt dd n = true := by rfl) : Cd P n ops S ((⟨some dd, .load t x, tt, pos, af, gd⟩, true) :: L) T T' := .c (fun W hW _ h => y_loadCR h (m W hW) hm hx hu hr hs) tl hg ht
theorem Cd.str {s t e : TypeId} {x : Operand} {v : Value} {bs : List Int} (hx : evT T x = some v) (hv : ∀ W, S W → IsNums .u8 W v bs) (hs : P.underlying s = some (.slice e)) (he : P.underlying e = some (.int .u8)) (hd : P.underlying t = some .string) (tl : Cd P n ops S L ((dd, (.string (strOfNums bs))) :: T) T') (hg : gdB ops n T gd = true := by rfl) (ht : Nat.blt dd n = true := by rfl) : Cd P n ops S ((⟨some dd, .convert s t x, tt, pos, af, gd⟩, true) :: L) T T' := .c (fun W hW _ h => y_str h hx (hv W hW) hs he hd) tl hg ht
theorem Cd.loadAt {t : TypeId} {td : TypeDesc} {x : Operand} {b o : Nat} {vs : List Value} (hr : ∀ W, S W → W.rangeAt b o vs) (hx : evT T x = some (.pointer (some ⟨b, o, none⟩))) (hu : P.underlying t = some td) (hd : td.isRow = true) (hs : (P.info? t).map (·.size) = some vs.length) (tl : Cd P n ops S L ((dd, (.agg vs.toArray)) :: T) T') (hg : gdB ops n T gd = true := by rfl) (ht : Nat.blt dd n = true := by rfl) : Cd P n ops S ((⟨some dd, .load t x, tt, pos, af, gd⟩, true) :: L) T T' := .c (fun W hW _ h => y_loadAt h (hr W hW) hx hu hd hs) tl hg ht
theorem Cd.loadAt1 {t : TypeId} {td : TypeDesc} {x : Operand} {b o q q' : Nat} {vs : List Value} {v : Value} (hr : ∀ W, S W → W.rangeAt b o vs) (hx : evT T x = some (.pointer (some ⟨b, q', none⟩))) (hq : q' = o + q) (hv : nthL vs q = some v) (hu : P.underlying t = some td) (hd : td.isRow = false) (tl : Cd P n ops S L ((dd, v) :: T) T') (hg : gdB ops n T gd = true := by rfl) (ht : Nat.blt dd n = true := by rfl) : Cd P n ops S ((⟨some dd, .load t x, tt, pos, af, gd⟩, true) :: L) T T' := .c (fun W hW _ h => y_loadAt1 h (hr W hW) hx hq hv hu hd) tl hg ht
theorem Cd.cap {t e : TypeId} {x : Operand} {p : Option Addr} {l c : Nat} (hx : evT T x = some (.slice p l c)) (hu : P.underlying t = some (.slice e)) (tl : Cd P n ops S L ((dd, (.int .i64 c)) :: T) T') (hg : gdB ops n T gd = true := by rfl) (ht : Nat.blt dd n = true := by rfl) : Cd P n ops S ((⟨some dd, .call { callee := .builtin .cap, args := #[x], argTypes := #[t] }, tt, pos, af, gd⟩, false) :: L) T T' := .p (fun W _ h => y_cap h hx hu) tl hg ht
end
end Go.Proofs.YtogjhjiapinmcaaDoor.K
end
section
namespace Go.Proofs.YtogjhjiapinmcaaDoor.K
open Go.ChangeShapes Go.WideShapes Go.ChangeAt Go.RowKit
set_option linter.unusedVariables false
set_option linter.unusedSimpArgs false
section
variable {P : Program} {ops : Array Oper} {Q : Exit → Act → World → Prop} {md : Region.Mode} {listed : Array Bool} {fuel e : Nat} {S : World → Prop} {a : Act} {w : World}
end
end Go.Proofs.YtogjhjiapinmcaaDoor.K
end
section
namespace Go.Proofs.YtogjhjiapinmcaaDoor.K
open Go.ChangeShapes Go.WideShapes Go.ChangeAt Go.RowKit
set_option linter.unusedVariables false

def tab : List Int := [0, 274646895, 549293790, 820201905, 1098587580, 1361435347, 1640403810, 1905808397, 2197175160, 2460548119, 2722870694, 2987750089, 3280807620, 3553878443, 3811616794, 4084100981]

def TabOk (w : World) : Prop := ∀ i, i < 16 → w.cell? ⟨0, i, none⟩ = some (.int .u32 (tab.getD i 0))

theorem TabOk.below {w w' : World} {B : Nat} (h : TabOk w) (hb : Below B w w') (h1 : 1 ≤ B) : TabOk w' := fun i hi => by
 rw [hb.cell (by show 0 < B; omega)]; exact h i hi

theorem range32 (op : BinOp) (x y : Int) : 0 ≤ bits op .u32 x y ∧ bits op .u32 x y < 4294967296 := by
 have h : ∀ n : Int, 0 ≤ IntKind.u32.wrap n ∧ IntKind.u32.wrap n < 4294967296 := fun n => by rw [IntKind.wrap_u32]; omega
 unfold bits
 split <;> first | exact h _ | (constructor <;> simp)

theorem u32_and15 (x : Int) (h₀ : 0 ≤ x) (h₁ : x < 4294967296) : bits .and .u32 x 15 = x % 16 := bits_mask .u32 32 (by decide) (fun n h0 h1 => by rw [IntKind.wrap_u32]; omega) 4 (by decide) x h₀ h₁

def nib (c : Int) : Int := bits .xor .u32 (c / 16) (tab.getD (bits .and .u32 c 15).toNat 0)
theorem nib_def (c : Int) : nib c = bits .xor .u32 (c / 16) (tab.getD (bits .and .u32 c 15).toNat 0) := rfl
def step (d x : Int) : Int := nib (nib (bits .xor .u32 d x))
def turn (c : Int) : Int := bits .xor .u32 IntKind.u32.max c
def moreC (c : Int) (bs : List Int) : Int := turn (bs.foldl step (turn c))

theorem fold_snoc (c : Int) (bs : List Int) (k : Nat) (h : k < bs.length) : (bs.take (k + 1)).foldl step c = step ((bs.take k).foldl step c) (bs.getD k 0) := by
 rw [List.take_succ_eq_append_getElem h, List.foldl_append, List.foldl_cons, List.foldl_nil]; simp only [List.getD, List.getElem?_eq_getElem h, Option.getD_some]

theorem TabOk.at {w : World} (h : TabOk w) (c : Int) (hc : 0 ≤ c ∧ c < 4294967296) : w.cell? ⟨0, (bits .and .u32 c 15).toNat, none⟩ = some (.int .u32 (tab.getD (bits .and .u32 c 15).toNat 0)) := by
 refine h _ ?_
 rw [u32_and15 c hc.1 hc.2]; omega

theorem and15_lt (c : Int) (hc : 0 ≤ c ∧ c < 4294967296) : 0 ≤ bits .and .u32 c 15 ∧ bits .and .u32 c 15 < 16 := by
 rw [u32_and15 c hc.1 hc.2]; omega

set_option maxRecDepth 100000 in
set_option maxHeartbeats 2000000 in
theorem more_any (c : Int) (v : Value) (bs : List Int) (w : World) (hc : 0 ≤ c ∧ c < 4294967296) (hT : TabOk w) (hv : IsNums .u8 w v bs) (hb : ∀ j, j < bs.length → 0 ≤ bs.getD j 0 ∧ bs.getD j 0 ≤ 255) (hl : bs.length ≤ 1000000) :
   Calls Tryd.prog 53 #[.int .u32 c, v] w fun e w' => e = .returned (.int .u32 (moreC c bs)) ∧ w' = w := by
 obtain ⟨p, cc, rfl, h⟩ := hv
 have H := Lib.hid h
 have HB := Lib.hid hb
 have HT := Lib.hid hT
 clear h hb hT
 have hr0 := range32 .xor IntKind.u32.max c
 go_enter Tryd.func53, Tryd.ntmps53
 go_wp2
 go_loop [0, 11] (fun s i => ∃ (k : Nat) (d : Int), k ≤ bs.length ∧ i = .int .i64 k ∧ s = .int .u32 d ∧ d = (bs.take k).foldl step (turn c) ∧ 0 ≤ d ∧ d < 4294967296) (fun _ i => bs.length - (intOf i).toNat)
 case atStart => exact ⟨0, _, Nat.zero_le _, rfl, rfl, rfl, hr0.1, hr0.2⟩
 case round =>
   obtain ⟨k, d, hk, rfl, rfl, hd, hd0, hd1⟩ := hrel
   have HD := Lib.hid hd
   clear hd
   by_cases hlt : k < bs.length
   · obtain h0 | ⟨b, off, rfl, hblk, hcell⟩ := H.out
     · omega
     have hcl : w.cell? ⟨b, off + k, none⟩ = some (.int .u8 (bs.getD k 0)) := hcell k hlt
     clear hcell
     obtain ⟨x0, x1⟩ := HB.out k hlt
     obtain ⟨x, hx⟩ : ∃ x, bs.getD k 0 = x := ⟨_, rfl⟩
     rw [hx] at hcl x0 x1
     have HX := Lib.hid hx
     clear hx
     have r1 := range32 .xor d x
     have t1 := HT.out.at _ r1
     obtain ⟨p1, q1⟩ := and15_lt _ r1
     have HN1 := Lib.hid (nib_def (bits .xor .u32 d x))
     obtain ⟨T1, hT1⟩ : ∃ T1, tab.getD (bits .and .u32 (bits .xor .u32 d x) 15).toNat 0 = T1 := ⟨_, rfl⟩
     rw [hT1] at t1 HN1
     have r2 := range32 .xor (bits .xor .u32 d x / 16) T1
     have t2 := HT.out.at _ r2
     obtain ⟨p2, q2⟩ := and15_lt _ r2
     have HN2 := Lib.hid (nib_def (bits .xor .u32 (bits .xor .u32 d x / 16) T1))
     obtain ⟨T2, hT2⟩ : ∃ T2, tab.getD (bits .and .u32 (bits .xor .u32 (bits .xor .u32 d x / 16) T1) 15).toNat 0 = T2 := ⟨_, rfl⟩
     rw [hT2] at t2 HN2
     clear hT1 hT2
     have r3 := range32 .xor (bits .xor .u32 (bits .xor .u32 d x / 16) T1 / 16) T2
     go_wp2
     go_round
     case rel =>
       refine ⟨k + 1, _, by omega, by go_num, rfl, ?_, r3.1, r3.2⟩
       rw [fold_snoc _ _ _ hlt, ← HD.out, HX.out]
       unfold step
       rw [HN1.out, HN2.out]
     case measure => simp [intOf]; omega
   · obtain rfl : k = bs.length := by omega
     rw [List.take_length] at HD
     go_wp2
     go_ret
     refine ⟨?_, rfl⟩
     rw [HD.out]
     rfl
end Go.Proofs.YtogjhjiapinmcaaDoor.K
end
section
namespace Go.Proofs.YtogjhjiapinmcaaDoor.K
open Go.ChangeShapes Go.WideShapes Go.ChangeAt Go.RowKit
set_option linter.unusedVariables false

def CLists (w : World) (v : Value) (ls : List (List Int)) : Prop :=
 ∃ a c, v = .slice a ls.length c ∧ (ls.length = 0 ∨ ∃ b off, a = some ⟨b, off, none⟩ ∧ b < w.heap.size ∧ ∀ j, j < ls.length → ∃ u, w.cell? ⟨b, off + j, none⟩ = some u ∧ IsNums .u8 w u (ls.getD j []))

def sumC (ls : List (List Int)) : Int := ls.foldl moreC 0

theorem sums_snoc (ls : List (List Int)) (k : Nat) (h : k < ls.length) : sumC (ls.take (k + 1)) = moreC (sumC (ls.take k)) (ls.getD k []) := by
 unfold sumC
 rw [List.take_succ_eq_append_getElem h, List.foldl_append, List.foldl_cons, List.foldl_nil]; simp only [List.getD, List.getElem?_eq_getElem h, Option.getD_some]
theorem moreC_range (c : Int) (bs : List Int) : 0 ≤ moreC c bs ∧ moreC c bs < 4294967296 := range32 .xor _ _
theorem sumC_range (ls : List (List Int)) : 0 ≤ sumC ls ∧ sumC ls < 4294967296 := by
 rcases List.eq_nil_or_concat ls with rfl | ⟨l, b, rfl⟩
 · decide
 · unfold sumC; rw [List.concat_eq_append, List.foldl_append, List.foldl_cons, List.foldl_nil]; exact moreC_range _ _

def Bytes (bs : List Int) : Prop := ∀ j, j < bs.length → 0 ≤ bs.getD j 0 ∧ bs.getD j 0 ≤ 255

set_option maxRecDepth 100000 in
set_option maxHeartbeats 2000000 in
theorem sum_any (v : Value) (ls : List (List Int)) (w : World) (hT : TabOk w) (hv : CLists w v ls) (hb : ∀ j, j < ls.length → Bytes (ls.getD j []) ∧ (ls.getD j []).length ≤ 1000000) (hl : ls.length ≤ 1000) :
   Calls Tryd.prog 38 #[v] w fun e w' => e = .returned (.int .u32 (sumC ls)) ∧ w' = w := by
 obtain ⟨p, cc, rfl, h⟩ := hv
 have H := Lib.hid h
 have HB := Lib.hid hb
 have HT := Lib.hid hT
 clear h hb hT
 go_enter Tryd.func38, Tryd.ntmps38
 go_wp2
 go_loop [3, 8] (fun s i => ∃ (k : Nat) (d : Int), k ≤ ls.length ∧ i = .int .i64 k ∧ s = .int .u32 d ∧ d = sumC (ls.take k)) (fun _ i => ls.length - (intOf i).toNat)
 case atStart => exact ⟨0, _, Nat.zero_le _, rfl, rfl, rfl⟩
 case round =>
   obtain ⟨k, d, hk, rfl, rfl, hd⟩ := hrel
   have hr : 0 ≤ d ∧ d < 4294967296 := by rw [hd]; exact sumC_range _
   have HD := Lib.hid hd
   clear hd
   by_cases hlt : k < ls.length
   · obtain h0 | ⟨b, off, rfl, hblk, hcell⟩ := H.out
     · omega
     obtain ⟨u, hc, hu⟩ := hcell k hlt
     have HU := Lib.hid hu
     obtain ⟨hy, hz⟩ := HB.out k hlt
     have HY := Lib.hid hy
     clear hcell hu hy
     go_wp2_with fail
     refine (more_any d u (ls.getD k []) w hr HT.out HU.out HY.out hz).mono ?_
     rintro e w1 ⟨rfl, rfl⟩
     go_wp2
     go_round
     case rel =>
       refine ⟨k + 1, _, by omega, by go_num, rfl, ?_⟩
       rw [sums_snoc _ _ hlt, HD.out]; simp [List.getD, hlt]
     case measure => simp [intOf]; omega
   · obtain rfl : k = ls.length := by omega
     rw [List.take_length] at HD
     go_wp2
     go_ret
     refine ⟨?_, rfl⟩
     rw [HD.out]
     rfl
end Go.Proofs.YtogjhjiapinmcaaDoor.K
end
section
namespace Go.Proofs.YtogjhjiapinmcaaDoor.K
open Go.ChangeShapes Go.WideShapes Go.ChangeAt Go.RowKit
set_option linter.unusedVariables false

def fourC (c : Int) : List Int := [c % 256, c / 256 % 256, c / 65536 % 256, c / 16777216 % 256]
theorem fourC_len (c : Int) : (fourC c).length = 4 := rfl
theorem fourC_bytes (c : Int) : Bytes (fourC c) := by
 intro j hj
 have hj4 : j < 4 := hj
 obtain rfl | rfl | rfl | rfl : j = 0 ∨ j = 1 ∨ j = 2 ∨ j = 3 := by omega
 all_goals simp [fourC]
 all_goals omega

def part (c : Int) (k : Nat) : List Value := ((fourC c).take k ++ List.replicate (4 - k) 0).map (Value.int .u8)

theorem part_next (c : Int) (N k : Nat) (w wr : World) (x : Int) (hN : w.heap.size = N) (hown : wr.ownsRow N 5 1 (.slice (some ⟨N, 0, none⟩) 4 4) 4 (part c k)) (hbel : Below N w wr) (hp : (part c k).set k (.int .u8 x) = part c (k + 1)) :
   (wr.setCell ⟨N, k, none⟩ (.int .u8 x)).ownsRow N 5 1 (.slice (some ⟨N, 0, none⟩) 4 4) 4 (part c (k + 1)) ∧ Below N w (wr.setCell ⟨N, k, none⟩ (.int .u8 x)) := by
 obtain ⟨h1, h2⟩ := hown.stored k (.int .u8 x)
 rw [hp] at h1
 exact ⟨h1, hbel.grown h2 (by have := hbel.size; omega) (fun j hj => by cases hj; omega)⟩

set_option maxRecDepth 100000 in
set_option maxHeartbeats 2000000 in
theorem four_any (c : Int) (w : World) (hc : 0 ≤ c ∧ c < 4294967296) :
   Calls Tryd.prog 37 #[.int .u32 c] w fun e w' => ∃ u, e = .returned u ∧ w'.ownsRow w.heap.size 5 1 u 4 ((fourC c).map (Value.int .u8)) ∧ Below w.heap.size w w' := by
 obtain ⟨i0, hi, hz0, hz1, hz2⟩ := info_parts info_u8
 obtain ⟨N, hN⟩ : ∃ N, w.heap.size = N := ⟨_, rfl⟩
 go_enter Tryd.func37, Tryd.ntmps37
 go_wp2_with (at_make; refine wpList_make_full _ rfl _ _ 24 rfl N 5 i0 (.int .u8 0) 1 Tryd.underlying24 hi hz0 hz1 _ _ _ _ 4 rfl rfl rfl rfl (by rw [hz2]; omega) (by unfold maxLen; omega) (by omega) ?_; intro w1 hown hgrow)
 rw [hN] at hown
 have hm : (madeCells (Value.int IntKind.u8 0).cells (4 * 1)).toList = part c 0 := by
   simp [madeCells, part, Value.cells]
   try rfl
 rw [hm] at hown
 go_loopw [8] (fun i wr => ∃ k : Nat, k ≤ 4 ∧ i = .int .i64 k ∧ wr.ownsRow N 5 1 (.slice (some ⟨N, 0, none⟩) 4 4) 4 (part c k) ∧ Below N w wr) (fun i _ => 4 - (intOf i).toNat)
 case atStart => exact ⟨0, by omega, rfl, hown, (Below.refl _ w).grown hgrow (by omega) (fun j hj => by cases hj)⟩
 case round =>
   obtain ⟨k, hk, rfl, hown, hbel⟩ := hrel
   by_cases hlt : k < 4
   · have hcell := hown.cellAt k (by omega)
     have hfz := hown.frozenAt k
     have hnext := fun x hp => part_next c N k w wr x hN hown hbel hp
     have H1 := Lib.hid hown
     have H2 := Lib.hid hnext
     clear hown hnext
     obtain rfl | rfl | rfl | rfl : k = 0 ∨ k = 1 ∨ k = 2 ∨ k = 3 := by omega
     · replace hcell : wr.cell? ⟨N, 0, none⟩ = some (.int .u8 0) := hcell
       go_wp2
       exact ⟨⟨1, by omega, rfl, H2.out _ rfl⟩, by decide⟩
     · replace hcell : wr.cell? ⟨N, 1, none⟩ = some (.int .u8 0) := hcell
       go_wp2
       exact ⟨⟨2, by omega, rfl, H2.out _ rfl⟩, by decide⟩
     · replace hcell : wr.cell? ⟨N, 2, none⟩ = some (.int .u8 0) := hcell
       go_wp2
       exact ⟨⟨3, by omega, rfl, H2.out _ rfl⟩, by decide⟩
     · have h5 : c / 16777216 % 256 = c / 16777216 := by omega
       have h6 : (part c 3).set 3 (.int .u8 (c / 16777216)) = part c (3 + 1) := by simp [part, fourC, h5]
       replace hcell : wr.cell? ⟨N, 3, none⟩ = some (.int .u8 0) := hcell
       go_wp2
       exact ⟨⟨4, by omega, rfl, H2.out _ h6⟩, by decide⟩
   · obtain rfl : k = 4 := by omega
     go_wp2
     go_ret
     exact ⟨_, rfl, by rw [hN]; exact hown, by rw [hN]; exact hbel⟩
end Go.Proofs.YtogjhjiapinmcaaDoor.K
end
section
namespace Go.Proofs.YtogjhjiapinmcaaDoor.K
open Go.ChangeShapes Go.WideShapes Go.ChangeAt Go.RowKit
set_option linter.unusedVariables false

theorem own_below {w w' : World} {base B : Nat} {e : TypeId} {size : Nat} {v : Value} {n : Nat} {xs : List Value} (h : w.ownsRow base e size v n xs) (hb : Below B w w') (hB : w.heap.size ≤ B) : w'.ownsRow base e size v n xs := by
 refine ⟨h.1, ?_⟩
 rcases h.2 with h0 | ⟨g, cap, cur, hv, hg, hc, h1, h2, h3, h4⟩
 · exact .inl h0
 · refine .inr ⟨g, cap, cur, hv, hg, ?_, h1, h2, h3, h4⟩
   rw [hb.block g (by have := (Array.getElem?_eq_some_iff.1 hc).1; omega)]
   exact hc

theorem CLists.one {w : World} {u : Value} {bs : List Int} (h : IsNums .u8 w u bs) (N : Nat) (hN : N = w.heap.size) (e : TypeId) : CLists (w.alloc (.cells #[u] e)) (.slice (some ⟨N, 0, none⟩) 1 1) [bs] := by
 subst hN
 refine ⟨_, 1, rfl, .inr ⟨_, 0, rfl, by simp, fun j hj => ?_⟩⟩
 obtain rfl : j = 0 := by simpa using hj
 refine ⟨u, ?_, h.alloc _⟩
 unfold World.cell? World.alloc
 simp

def sealC (bs : List Int) : List Int := bs ++ fourC (sumC [bs])
theorem sealC_len (bs : List Int) : (sealC bs).length = bs.length + 4 := by simp [sealC, fourC_len]

theorem TabOk.alloc {w : World} (h : TabOk w) (h1 : 1 ≤ w.heap.size) (o : Obj) : TabOk (w.alloc o) := h.below ((Below.refl w.heap.size w).alloc (Nat.le_refl _) o) h1

set_option maxRecDepth 100000 in
set_option maxHeartbeats 2000000 in
theorem seal_any (v : Value) (bs : List Int) (w : World) (hT : TabOk w) (h1 : 1 ≤ w.heap.size) (hv : IsNums .u8 w v bs) (hb : Bytes bs) (hl : bs.length ≤ 10000) :
   Calls Tryd.prog 25 #[v] w fun e w' => ∃ u, e = .returned u ∧ w'.ownsRow w.heap.size 5 1 u (sealC bs).length ((sealC bs).map (Value.int .u8)) ∧ Below w.heap.size w w' := by
 obtain ⟨i0, hi, hz0, hz1, hz2⟩ := info_parts info_u8
 obtain ⟨N, hN⟩ : ∃ N, w.heap.size = N := ⟨_, rfl⟩
 have HV := Lib.hid hv
 obtain ⟨p, cc, rfl, h⟩ := hv
 have HT := Lib.hid hT
 have HB := Lib.hid hb
 clear h hT hb
 obtain ⟨L, hL⟩ : ∃ L, bs.length = L := ⟨_, rfl⟩
 have HL := Lib.hid hL
 rw [hL] at hl HV
 go_enter Tryd.func25, Tryd.ntmps25
 rw [hL]
 clear hL
 go_wp2_with (first
   | (at_make; refine wpList_make_own _ rfl _ _ 24 rfl N 5 i0 (.int .u8 0) 1 Tryd.underlying24 hi hz0 hz1 _ _ _ (L + 4) rfl rfl (by omega) (by rw [hz2]; omega) (by unfold maxLen; omega) (by omega) ?_; intro w1 hown hgrow; rw [hN] at hown; have hb1 : Below N w w1 := (Below.refl _ w).grown hgrow (by omega) (fun j hj => by cases hj); have HV1 := Lib.hid (HV.out.below hb1 (by omega)); have hs1 := hb1.size)
   | (at_builtin; refine wpList_appN rfl _ _ 24 rfl N 5 .u8 1 Tryd.underlying24 info_u8 (by omega) _ _ _ rfl hown _ _ rfl HV1.out (by rw [HL.out]; omega) (by omega) ?_; intro v2 w2 hown2 hb2; clear hown; have hs2 := hb2.size))
 have HV2 := Lib.hid (HV.out.below (hb1.trans hb2) (by omega))
 have HT2 := Lib.hid (HT.out.below (hb1.trans hb2) (by omega))
 refine (sum_any _ [bs] _ (HT2.out.alloc (by omega) _) (CLists.one HV2.out w2.heap.size rfl _) (by
   intro j hj
   obtain rfl : j = 0 := by simpa using hj
   exact ⟨HB.out, by show bs.length ≤ _; rw [HL.out]; omega⟩) (by simp)).mono ?_
 rintro e w3 ⟨rfl, rfl⟩
 go_wp2_with fail
 refine (four_any (sumC [bs]) _ (sumC_range _)).mono ?_
 rintro e w4 ⟨u4, rfl, hown4, hb4⟩
 have hz2 : (w2.alloc (Obj.cells #[Value.slice p L cc] 24)).heap.size = w2.heap.size + 1 := by simp
 have hown5 : w4.ownsRow N 5 1 v2 (0 + bs.length) ([] ++ List.map (Value.int IntKind.u8) bs) := own_below (hown2.alloc _) hb4 (Nat.le_refl _)
 have hs4 := hb4.size
 have HN := Lib.hid (IsNums.ofOwn hown4)
 have hb5 : Below N w w4 := ((hb1.trans hb2).alloc (by omega) _).trans (hb4.mono (by omega))
 clear hown2 hown4 hb4 hb1 hb2 hgrow HV HV1 HV2 HT2
 go_wp2_with (at_builtin; refine wpList_appN rfl _ _ 24 rfl N 5 .u8 1 Tryd.underlying24 info_u8 (by omega) _ _ _ rfl hown5 _ _ rfl HN.out (by rw [HL.out, fourC_len]; omega) (by omega) ?_; intro v6 w6 hown6 hb6)
 go_ret
 refine ⟨_, rfl, ?_, by rw [hN]; exact hb5.trans hb6⟩
 rw [hN]
 have e1 : (sealC bs).length = 0 + bs.length + (fourC (sumC [bs])).length := by rw [sealC_len, fourC_len]; omega
 rw [e1]
 simpa [sealC] using hown6
end Go.Proofs.YtogjhjiapinmcaaDoor.K
end
section
namespace Go.Proofs.YtogjhjiapinmcaaDoor.K
open Go.ChangeShapes Go.WideShapes Go.ChangeAt Go.RowKit
set_option linter.unusedVariables false

def encF : Nat → Nat → List Int
 | 0, n => [(n : Int)]
 | f + 1, n => if n < 128 then [(n : Int)] else ((n % 128 + 128 : Nat) : Int) :: encF f (n / 128)
def enc (n : Int) : List Int := encF 9 n.toNat
def encs (l : List Int) : List Int := l.flatMap enc

theorem or128 (y : Nat) : bits .or .u8 ((y : Int) % 256) 128 = ((y % 128 + 128 : Nat) : Int) := by
 have h : ∀ z : Fin 256, bits .or .u8 ((z.val : Nat) : Int) 128 = ((z.val % 128 + 128 : Nat) : Int) := by decide +kernel
 have := h ⟨y % 256, by omega⟩
 simp only at this
 rw [show ((y : Int) % 256) = ((y % 256 : Nat) : Int) by omega, this]
 omega

theorem encF_len : ∀ (f n : Nat), (encF f n).length ≤ f + 1 ∧ 1 ≤ (encF f n).length
 | 0, n => by simp [encF]
 | f + 1, n => by
   unfold encF
   have := encF_len f (n / 128)
   split <;> simp <;> omega
theorem enc_len (n : Int) : (enc n).length ≤ 10 ∧ 1 ≤ (enc n).length := encF_len 9 _
theorem encs_len : ∀ l : List Int, (encs l).length ≤ 10 * l.length
 | [] => by simp [encs]
 | a :: l => by
   have h1 := (enc_len a).1
   have h2 := encs_len l
   simp only [encs, List.flatMap_cons, List.length_append, List.length_cons] at h2 ⊢
   omega
theorem encs_snoc (l : List Int) (k : Nat) (h : k < l.length) : encs (l.take (k + 1)) = encs (l.take k) ++ enc (l.getD k 0) := by
 rw [List.take_succ_eq_append_getElem h]
 simp only [encs, List.flatMap_append, List.flatMap_cons, List.flatMap_nil, List.append_nil, List.getD, List.getElem?_eq_getElem h, Option.getD_some]
theorem len_take_le (l : List Int) (k : Nat) : (l.take k).length ≤ k := List.length_take_le _ _


set_option maxRecDepth 100000 in
set_option maxHeartbeats 2000000 in
theorem put_any (v : Value) (ns : List Int) (w : World) (hv : IsNums .u64 w v ns) (hb : ∀ j, j < ns.length → 0 ≤ ns.getD j 0 ∧ ns.getD j 0 ≤ 18446744073709551615) (hl : ns.length ≤ 1000) :
   Calls Tryd.prog 30 #[v] w fun e w' => ∃ u, e = .returned u ∧ w'.ownsRow w.heap.size 5 1 u (encs ns).length ((encs ns).map (Value.int .u8)) ∧ Below w.heap.size w w' := by
 obtain ⟨p, c, rfl, h⟩ := hv
 have H := Lib.hid h
 have HB := Lib.hid hb
 clear h hb
 go_enter Tryd.func30, Tryd.ntmps30
 go_wp2
 go_loopw [3, 8] (fun u i wr => ∃ k : Nat, k ≤ ns.length ∧ i = .int .i64 k ∧ wr.ownsRow w.heap.size 5 1 u (encs (ns.take k)).length ((encs (ns.take k)).map (Value.int .u8)) ∧ Below w.heap.size w wr) (fun _ i _ => ns.length - (intOf i).toNat)
 case atStart => exact ⟨0, Nat.zero_le _, rfl, World.ownsRow_nil _ _ _ _, Below.refl _ _⟩
 case round =>
   obtain ⟨k, hk, rfl, hown, hbel⟩ := hrel
   by_cases hlt : k < ns.length
   · obtain h0 | ⟨b, off, rfl, hblk, hcell⟩ := H.out
     · omega
     have hc : wr.cell? ⟨b, off + k, none⟩ = some (.int .u64 (ns.getD k 0)) := by rw [hbel.cell hblk]; exact hcell k hlt
     obtain ⟨x0, x1⟩ := HB.out k hlt
     obtain ⟨x, hx⟩ : ∃ x : Nat, ns.getD k 0 = (x : Int) := ⟨(ns.getD k 0).toNat, by omega⟩
     rw [hx] at hc x0 x1
     have HX := Lib.hid hx
     clear hcell hx
     have hlen := encs_len (ns.take k)
     have hlt2 := len_take_le ns k
     generalize hN : (encs (ns.take k)).length = N at hown hlen
     have HN := Lib.hid hN
     clear hN
     have hbz := hbel.size
     obtain ⟨wo, rfl⟩ : ∃ wo : World, wo = wr := ⟨_, rfl⟩
     go_wp2
     go_loopw [3, 5] (fun u y wr => ∃ (f n : Nat) (dn : List Int), y = .int .u64 (n : Int) ∧ n < 128 ^ (f + 1) ∧ (n : Int) ≤ 18446744073709551615 ∧ dn ++ encF f n = enc x ∧ wr.ownsRow w.heap.size 5 1 u (N + dn.length) ((encs (ns.take k) ++ dn).map (Value.int .u8)) ∧ Below w.heap.size w wr) (fun _ y _ => (intOf y).toNat)
     case atStart => exact ⟨9, x, [], rfl, by omega, by omega, rfl, by simpa using hown, hbel⟩
     case round =>
       obtain ⟨f, n, dn, rfl, hn1, hn2, hdn, hown2, hbel2⟩ := hrel
       have hdl : dn.length ≤ 10 := by
         have h1 := (enc_len x).1
         rw [← hdn] at h1
         simp at h1; omega
       have hsz2 := hbel2.size
       have HD := Lib.hid hdn
       have HP := Lib.hid hn1
       clear hdn hn1
       have ho := or128 n
       by_cases hge : 128 ≤ n
       · go_wp2_with (at_builtin; refine wpList_app1 rfl _ _ 24 rfl w.heap.size 5 .u8 1 Tryd.underlying24 info_u8 (by omega) _ _ _ rfl hown2 _ 1 rfl (by omega) hsz2 ?_; intro v' w' hown' hb')
         rcases f with _ | f
         · exfalso; have := HP.out; omega
         go_roundw
         case rel =>
           refine ⟨f, n / 128, dn ++ [((n % 128 + 128 : Nat) : Int)], by simp, ?_, by omega, ?_, ?_, hbel2.trans hb'⟩
           · have := HP.out
             rw [Nat.pow_succ] at this
             exact Nat.div_lt_of_lt_mul (by rw [Nat.mul_comm]; exact this)
           · rw [← HD.out, encF, if_neg (by omega)]; simp
           · rw [show N + (dn ++ [((n % 128 + 128 : Nat) : Int)]).length = N + dn.length + 1 by simp; omega]
             simpa using hown'
         case measure => simp [intOf]; omega
       · have hen : encF f n = [(n : Int)] := by cases f <;> simp [encF]; omega
         have HE := Lib.hid hen
         clear hen ho
         go_wp2_with (at_builtin; refine wpList_app1 rfl _ _ 24 rfl w.heap.size 5 .u8 1 Tryd.underlying24 info_u8 (by omega) _ _ _ rfl hown2 _ 1 rfl (by omega) hsz2 ?_; intro v' w' hown' hb')
         have hd2 := HD.out
         rw [HE.out] at hd2
         go_roundw
         case rel =>
           refine ⟨k + 1, by omega, by go_num, ?_, hbel2.trans hb'⟩
           rw [encs_snoc _ _ hlt, HX.out, ← hd2, List.length_append, HN.out, List.length_append]
           rw [show N + (dn.length + [(n : Int)].length) = N + dn.length + 1 by simp; omega]
           simpa using hown'
         case measure => simp [intOf]; omega
   · obtain rfl : k = ns.length := by omega
     rw [List.take_length] at hown
     go_wp2
     go_ret
     exact ⟨_, rfl, hown, hbel⟩
end Go.Proofs.YtogjhjiapinmcaaDoor.K
end
section
namespace Go.Proofs.YtogjhjiapinmcaaDoor.K
open Go.ChangeShapes Go.WideShapes Go.ChangeAt Go.RowKit
set_option linter.unusedVariables false

set_option maxRecDepth 100000 in
set_option maxHeartbeats 2000000 in
theorem grow_nil (n : Nat) (w : World) (hn : n ≤ 1000000) :
   Calls Tryd.prog 39 #[.slice none 0 0, .int .i64 n] w fun e w' => ∃ u, e = .returned u ∧ w'.ownsRow w.heap.size 5 1 u 0 [] ∧ Below w.heap.size w w' := by
 by_cases h0 : n = 0
 · subst h0
   go_enter Tryd.func39, Tryd.ntmps39
   go_wp2
   go_ret
   exact ⟨_, rfl, World.ownsRow_nil _ _ _ _, Below.refl _ _⟩
 · obtain ⟨i0, hi, hz0, hz1, hz2⟩ := info_parts info_u8
   have hbn : n * i0.bytes ≤ 140737488355328 := by rw [hz2]; omega
   have hrz : ∀ ty, (Builtin.append_ #[24, 3] ty #[.slice none 0 0, .int .i64 (n : Int)]).run Tryd.prog w =
       .ok (.slice (some ⟨w.heap.size, 0, none⟩) n (grownCap w n 0 5)) (w.drew.alloc (.cells (#[] ++ Builtin.zeroCells (Value.int .u8 0).cells n ++ Builtin.zeroCells (Value.int .u8 0).cells (grownCap w n 0 5 - n)) 5)) := fun ty => by
     have h := Lib.run_append_grow_zeros w 24 3 ty 5 i0 (.int .u8 0) .i64 .i64 Tryd.underlying24 Tryd.underlying3 hi hz0 none 0 0 [] (run_firstCells_none w.drew i0.size 0 0 0) n (by omega) (by omega) (by omega) (by omega) (by omega)
       (by rw [Nat.zero_add]; exact growslice_fits (by omega) hbn)
     rw [Nat.zero_add] at h
     exact h
   have hG := grownCap_ge w n 0 5
   have hM := grownCap_le_maxLen w n 0 5 (by unfold maxLen; omega)
   generalize grownCap w n 0 5 = G at hrz hG hM
   have hown : (w.drew.alloc (.cells (#[] ++ Builtin.zeroCells (Value.int .u8 0).cells n ++ Builtin.zeroCells (Value.int .u8 0).cells (G - n)) 5)).ownsRow w.heap.size 5 1 (.slice (some ⟨w.heap.size, 0, none⟩) 0 G) 0 [] := by
     refine World.ownsRow_made w.drew _ G (Nat.le_refl _) hM ?_
     have h1 : (Value.int .u8 0).cells.size = 1 := rfl
     simp [size_zeroCells, h1]
     omega
   have hbel : Below w.heap.size w (w.drew.alloc (.cells (#[] ++ Builtin.zeroCells (Value.int .u8 0).cells n ++ Builtin.zeroCells (Value.int .u8 0).cells (G - n)) 5)) := ((Below.refl _ w).drew).alloc (Nat.le_refl _) _
   generalize (w.drew.alloc (.cells (#[] ++ Builtin.zeroCells (Value.int .u8 0).cells n ++ Builtin.zeroCells (Value.int .u8 0).cells (G - n)) 5)) = W' at hrz hown hbel
   have HO := Lib.hid hown
   have HB := Lib.hid hbel
   clear hown hbel hi hz0 hz1 hz2
   unfold maxLen at hM
   go_enter Tryd.func39, Tryd.ntmps39
   go_wp2_with (at_builtin; refine Lib.wpList_append_run _ rfl _ _ _ _ rfl _ _ rfl rfl _ _ (hrz _) ?_)
   all_goals (go_ret; exact ⟨_, rfl, HO.out, HB.out⟩)

def IsLists (w : World) (v : Value) (ls : List (List Int)) : Prop :=
 ∃ a c, v = .slice a ls.length c ∧ (ls.length = 0 ∨ ∃ b off, a = some ⟨b, off, none⟩ ∧ b < w.heap.size ∧ ∀ j, j < ls.length → ∃ u, w.cell? ⟨b, off + j, none⟩ = some u ∧ IsNums .u8 w u (ls.getD j []))

def sumLen (ls : List (List Int)) : Nat := ls.flatten.length

theorem flatten_snoc (ls : List (List Int)) (k : Nat) (h : k < ls.length) : (ls.take (k + 1)).flatten = (ls.take k).flatten ++ ls.getD k [] := by
 rw [List.take_succ_eq_append_getElem h]; simp only [List.flatten_append, List.flatten_cons, List.flatten_nil, List.append_nil, List.getD, List.getElem?_eq_getElem h, Option.getD_some]
theorem sumLen_snoc (ls : List (List Int)) (k : Nat) (h : k < ls.length) : sumLen (ls.take (k + 1)) = sumLen (ls.take k) + (ls.getD k []).length := by
 unfold sumLen; rw [flatten_snoc _ _ h, List.length_append]
theorem sumLen_take (ls : List (List Int)) (k : Nat) : sumLen (ls.take k) ≤ sumLen ls := by
 have : ls.flatten = (ls.take k).flatten ++ (ls.drop k).flatten := by rw [← List.flatten_append, List.take_append_drop]
 unfold sumLen; rw [this]; simp

set_option maxRecDepth 100000 in
set_option maxHeartbeats 2000000 in
theorem join_any (v : Value) (ls : List (List Int)) (w : World) (hv : IsLists w v ls) (hl : ls.length ≤ 1000) (hs : sumLen ls ≤ 1000000) :
   Calls Tryd.prog 27 #[v] w fun e w' => ∃ u, e = .returned u ∧ w'.ownsRow w.heap.size 5 1 u ls.flatten.length (ls.flatten.map (Value.int .u8)) ∧ Below w.heap.size w w' := by
 obtain ⟨p, c, rfl, h⟩ := hv
 have H := Lib.hid h
 clear h
 go_enter Tryd.func27, Tryd.ntmps27
 go_wp2
 go_loop [3, 11] (fun n i => ∃ k : Nat, k ≤ ls.length ∧ i = .int .i64 k ∧ n = .int .i64 (sumLen (ls.take k) : Nat)) (fun _ i => ls.length - (intOf i).toNat)
 case atStart => exact ⟨0, Nat.zero_le _, rfl, rfl⟩
 case round =>
   obtain ⟨k, hk, rfl, rfl⟩ := hrel
   have hst := sumLen_take ls k
   obtain ⟨S0, hS0⟩ : ∃ S, sumLen (ls.take k) = S := ⟨_, rfl⟩
   by_cases hlt : k < ls.length
   · obtain h0 | ⟨b, off, rfl, hblk, hcell⟩ := H.out
     · omega
     obtain ⟨u, hc, pu, cu, rfl, -⟩ := hcell k hlt
     have hsn := sumLen_snoc ls k hlt
     obtain ⟨L, hL⟩ : ∃ L, (ls.getD k []).length = L := ⟨_, rfl⟩
     rw [hL] at hsn hc
     have hst2 := sumLen_take ls (k + 1)
     rw [hsn] at hst2
     rw [hS0] at hst hsn hst2 ⊢
     have HS := Lib.hid hsn
     have H0 := Lib.hid hS0
     have H1 := Lib.hid hL
     clear hsn hS0 hcell hL
     go_wp2
     go_round
     case rel => exact ⟨k + 1, by omega, by go_num, by rw [HS.out, Int.natCast_add]⟩
     case measure => simp [intOf]; omega
   · obtain rfl : k = ls.length := by omega
     rw [List.take_length] at hst ⊢
     clear hS0
     go_wp2_with fail
     refine (grow_nil (sumLen ls) w hs).mono ?_
     rintro e w1 ⟨u, rfl, hown, hb⟩
     go_wp2
     go_loopw [6, 24] (fun u i wr => ∃ k : Nat, k ≤ ls.length ∧ i = .int .i64 k ∧ wr.ownsRow w.heap.size 5 1 u (sumLen (ls.take k)) ((ls.take k).flatten.map (Value.int .u8)) ∧ Below w.heap.size w wr) (fun _ i _ => ls.length - (intOf i).toNat)
     case atStart => exact ⟨0, Nat.zero_le _, rfl, by simpa [sumLen] using hown, hb⟩
     case round =>
       obtain ⟨k, hk, rfl, hown, hbel⟩ := hrel
       have hst := sumLen_take ls k
       by_cases hlt : k < ls.length
       · obtain h0 | ⟨b, off, rfl, hblk, hcell⟩ := H.out
         · omega
         obtain ⟨u, hc0, hu⟩ := hcell k hlt
         have hc : wr.cell? ⟨b, off + k, none⟩ = some u := by rw [hbel.cell hblk]; exact hc0
         have hu2 : IsNums .u8 wr u (ls.getD k []) := hu.below hbel (Nat.le_refl _)
         have HS := Lib.hid (sumLen_snoc ls k hlt)
         have HF := Lib.hid (flatten_snoc ls k hlt)
         have hst2 := sumLen_take ls (k + 1)
         rw [HS.out] at hst2
         have hsz := hbel.size
         have HU := Lib.hid hu2
         obtain ⟨S0, hS0⟩ : ∃ S, sumLen (ls.take k) = S := ⟨_, rfl⟩
         rw [hS0] at hst hst2 hown
         have H0 := Lib.hid hS0
         obtain ⟨L, hL⟩ : ∃ L, (ls.getD k []).length = L := ⟨_, rfl⟩
         rw [hL] at hst2
         have H1 := Lib.hid hL
         clear hcell hc0 hu hu2 hS0 hL
         go_wp2_with (at_builtin; refine wpList_appN rfl _ _ 24 rfl w.heap.size 5 .u8 1 Tryd.underlying24 info_u8 (by omega) _ _ _ rfl hown _ _ rfl HU.out (by rw [H1.out]; omega) hsz ?_; intro v' w' hown' hb')
         go_roundw
         case rel => exact ⟨k + 1, by omega, by go_num, by rw [HS.out, HF.out, H0.out, List.map_append]; exact hown', hbel.trans hb'⟩
         case measure => simp [intOf]; omega
       · obtain rfl : k = ls.length := by omega
         rw [List.take_length] at hown
         go_wp2
         go_ret
         exact ⟨_, rfl, hown, hbel⟩

end Go.Proofs.YtogjhjiapinmcaaDoor.K
end
section
namespace Go.Proofs.YtogjhjiapinmcaaDoor.K
open Go.ChangeShapes Go.WideShapes Go.ChangeAt Go.RowKit
set_option linter.unusedVariables false

def NumsLt (N : Nat) (k : IntKind) (w : World) (v : Value) (zs : List Int) : Prop :=
 ∃ a c, v = .slice a zs.length c ∧ zs.length ≤ c ∧ c ≤ 9223372036854775807 ∧ (zs.length = 0 ∨ ∃ b off, a = some ⟨b, off, none⟩ ∧ b < N ∧ ∀ j, j < zs.length → w.cell? ⟨b, off + j, none⟩ = some (.int k (zs.getD j 0)))

theorem NumsLt.below {N : Nat} {k : IntKind} {w w' : World} {v : Value} {zs : List Int} (h : NumsLt N k w v zs) (hb : Below N w w') : NumsLt N k w' v zs := by
 obtain ⟨a, c, rfl, hc1, hc2, h | ⟨b, off, rfl, h1, h2⟩⟩ := h
 · exact ⟨a, c, rfl, hc1, hc2, .inl h⟩
 · refine ⟨_, c, rfl, hc1, hc2, .inr ⟨b, off, rfl, h1, fun j hj => ?_⟩⟩
   rw [hb.cell (by show b < N; omega)]
   exact h2 j hj
theorem NumsLt.nums {N : Nat} {k : IntKind} {w : World} {v : Value} {zs : List Int} (h : NumsLt N k w v zs) (hN : N ≤ w.heap.size) : IsNums k w v zs := by
 obtain ⟨a, c, rfl, hc1, hc2, h | ⟨b, off, rfl, h1, h2⟩⟩ := h
 · exact ⟨a, c, rfl, .inl h⟩
 · exact ⟨_, c, rfl, .inr ⟨b, off, rfl, by omega, h2⟩⟩

inductive Dec where
 | ok (n : Nat) (k : Nat)
 | err (e : Int)

def dec : Nat → Nat → List Int → Dec
 | _, _, [] => .err 21
 | acc, i, b :: r => if (i = 9 ∧ 1 < b) ∨ (0 < i ∧ b = 0) then .err 20 else
     if b < 128 then .ok (acc + (b % 128).toNat * 2 ^ (7 * i)) (i + 1) else dec (acc + (b % 128).toNat * 2 ^ (7 * i)) (i + 1) r

theorem andNot128 (b : Int) (h0 : 0 ≤ b) (h1 : b ≤ 255) : bits .andNot .u8 b 128 = b % 128 := by
 have h : ∀ z : Fin 256, bits .andNot .u8 ((z.val : Nat) : Int) 128 = ((z.val : Nat) : Int) % 128 := by decide +kernel
 have := h ⟨b.toNat, by omega⟩
 simp only at this
 rw [show ((b.toNat : Nat) : Int) = b by omega] at this
 exact this

theorem or_shift (acc k : Nat) (x : Int) (hacc : acc < 2 ^ (7 * k)) (hk : k ≤ 9) (x0 : 0 ≤ x) (hx : x ≤ 255) (h9 : k = 9 → x ≤ 1) :
   bits .or .u64 (acc : Int) (IntKind.u64.wrap (x % 128 * 2 ^ (7 * k))) = ((acc + (x % 128).toNat * 2 ^ (7 * k) : Nat) : Int) := by
 obtain ⟨y, hy⟩ : ∃ y : Nat, x % 128 = y := ⟨(x % 128).toNat, by omega⟩
 have hy1 : y < 128 := by omega
 have hy9 : k = 9 → y ≤ 1 := fun h => by have := h9 h; omega
 rw [hy]
 have hb : y * 2 ^ (7 * k) < 2 ^ 64 := by
   by_cases e : k = 9
   · subst e
     have := hy9 rfl
     have : y * 2 ^ (7 * 9) ≤ 1 * 2 ^ (7 * 9) := Nat.mul_le_mul_right _ this
     exact Nat.lt_of_le_of_lt this (by decide)
   · have h1 : 2 ^ (7 * k) ≤ 2 ^ 56 := Nat.pow_le_pow_right (by decide) (by omega)
     have h2 : y * 2 ^ (7 * k) ≤ 127 * 2 ^ 56 := Nat.mul_le_mul (by omega) h1
     exact Nat.lt_of_le_of_lt h2 (by decide)
 have ha : acc < 2 ^ 64 := Nat.lt_of_lt_of_le hacc (Nat.pow_le_pow_right (by decide) (by omega))
 have hcast : ((y : Int) * 2 ^ (7 * k)) = ((y * 2 ^ (7 * k) : Nat) : Int) := by simp
 have hw : ∀ n : Int, 0 ≤ n → n < 2 ^ 64 → IntKind.u64.wrap n = n := fun n h0 h1 => by rw [IntKind.wrap_u64]; omega
 rw [hcast, hw _ (by omega) (by have : ((y * 2 ^ (7 * k) : Nat) : Int) < ((2 ^ 64 : Nat) : Int) := Int.ofNat_lt.2 hb; simpa using this)]
 have h := (bits_nat .u64 64 (by decide) hw acc (y * 2 ^ (7 * k)) ha hb).2
 rw [h]
 have h2 : 2 ^ (7 * k) * y + acc = 2 ^ (7 * k) * y ||| acc := Nat.two_pow_add_eq_or_of_lt hacc y
 rw [Nat.or_comm, Nat.mul_comm y, ← h2, Int.toNat_natCast, Nat.mul_comm, Nat.add_comm]

theorem acc_bound (acc k : Nat) (x : Int) (hacc : acc < 2 ^ (7 * k)) : acc + (x % 128).toNat * 2 ^ (7 * k) < 2 ^ (7 * (k + 1)) := by
 have h1 : (x % 128).toNat ≤ 127 := by omega
 have h2 : (x % 128).toNat * 2 ^ (7 * k) ≤ 127 * 2 ^ (7 * k) := Nat.mul_le_mul_right _ h1
 rw [show 7 * (k + 1) = 7 * k + 7 by omega, Nat.pow_add]
 omega

def IsReader (w : World) (B : Nat) (v : Value) (bs : List Int) (e : Int) : Prop :=
 w.cell? ⟨B, 0, none⟩ = some v ∧ w.cell? ⟨B, 1, none⟩ = some (.int .i64 e) ∧ w.frozen? ⟨B, 0, none⟩ = false ∧ w.frozen? ⟨B, 1, none⟩ = false ∧ NumsLt B .u8 w v bs ∧ ∀ x ∈ bs, 0 ≤ x ∧ x ≤ 255

theorem reader_shift {w : World} {B b off c k c' : Nat} {bs : List Int} {e : Int} {v : Value} {a' : Option Addr} (h0 : w.cell? ⟨B, 0, none⟩ = some v) (h1 : w.cell? ⟨B, 1, none⟩ = some (.int .i64 e)) (h2 : w.frozen? ⟨B, 0, none⟩ = false) (h3 : w.frozen? ⟨B, 1, none⟩ = false)
   (hblk : b < B) (hcell : ∀ j, j < bs.length → w.cell? ⟨b, off + j, none⟩ = some (.int .u8 (bs.getD j 0))) (hbs : ∀ x ∈ bs, 0 ≤ x ∧ x ≤ 255) (hk : k ≤ bs.length) (hc1 : bs.length - k ≤ c') (hc2 : c' ≤ 9223372036854775807) (ha : bs.length - k = 0 ∨ a' = some ⟨b, off + k, none⟩) :
   IsReader (w.setCell ⟨B, 0, none⟩ (.slice a' (bs.length - k) c')) B (.slice a' (bs.length - k) c') (bs.drop k) e := by
 refine ⟨World.cell?_setCell_same _ _ _ h0, ?_, by rw [World.frozen?_setCell]; exact h2, by rw [World.frozen?_setCell]; exact h3, ?_, fun x hx => hbs x (List.mem_of_mem_drop hx)⟩
 · rw [World.cell?_setCell_other _ _ _ _ (by simp)]; exact h1
 · have hl : (bs.drop k).length = bs.length - k := by simp
   refine NumsLt.below (w := w) ⟨a', c', by rw [hl], by omega, hc2, ?_⟩ ((Below.refl B w).setCell (p := ⟨B, 0, none⟩) (Nat.le_refl _) _)
   rcases ha with ha | ha
   · left; omega
   · right
     refine ⟨b, off + k, ha, hblk, fun j hj => ?_⟩
     have := hcell (k + j) (by omega)
     rw [show off + k + j = off + (k + j) by omega, this]
     simp [List.getD]

def decPost (w : World) (B : Nat) (bs : List Int) (e : Int) : Dec → Ending → World → Prop
 | .ok n k, en, w' => en = .returned (.tuple #[.int .u64 n, .int .i64 0]) ∧ ∃ v', w' = w.setCell ⟨B, 0, none⟩ v' ∧ IsReader w' B v' (bs.drop k) e
 | .err er, en, w' => en = .returned (.tuple #[.int .u64 0, .int .i64 er]) ∧ w' = w

end Go.Proofs.YtogjhjiapinmcaaDoor.K
end
section
namespace Go.Proofs.YtogjhjiapinmcaaDoor.K
open Go.ChangeShapes Go.WideShapes Go.ChangeAt Go.RowKit
set_option linter.unusedVariables false

def Only (B : Nat) (w w' : World) : Prop := w.grownBy w' (some B)
theorem Only.refl (B : Nat) (w : World) : Only B w w := ⟨rfl, rfl, rfl, Nat.le_refl _, fun _ _ _ => rfl⟩
theorem Only.trans {B : Nat} {a b c : World} (h : Only B a b) (k : Only B b c) : Only B a c :=
 ⟨k.os.trans h.os, k.tape.trans h.tape, k.output.trans h.output, Nat.le_trans h.size k.size, fun i hi hne => (k.block i (Nat.lt_of_lt_of_le hi h.size) hne).trans (h.block i hi hne)⟩
theorem Only.set (B : Nat) (w : World) (o : Nat) (v : Value) : Only B w (w.setCell ⟨B, o, none⟩ v) :=
 ⟨rfl, rfl, rfl, by simp [World.setCell], fun k _ hne => Below.heap_setCell _ _ _ _ (fun e => hne (by rw [e]))⟩
theorem Only.ofBelow {B : Nat} {w w' : World} (h : Below w.heap.size w w') : Only B w w' := ⟨h.os, h.tape, h.output, h.size, fun k hk _ => h.block k hk⟩
theorem Only.below {B N : Nat} {w w' : World} (h : Only B w w') (hB : N ≤ B) (hN : N ≤ w.heap.size) : Below N w w' :=
 ⟨h.os, h.tape, h.output, h.size, fun k hk => h.block k (by omega) (fun e => by cases e; omega)⟩
theorem Only.drew (B : Nat) (w : World) : Only B w w.drew := ⟨rfl, rfl, rfl, Nat.le_refl _, fun _ _ _ => rfl⟩

theorem IsReader.lt {w : World} {B : Nat} {v : Value} {bs : List Int} {e : Int} (h : IsReader w B v bs e) : B < w.heap.size := World.block_lt_of_cell? w ⟨B, 0, none⟩ h.1

theorem IsReader.kept {w w' : World} {B B2 : Nat} {v : Value} {bs : List Int} {e : Int} (h : IsReader w B v bs e) (ho : Only B2 w w') (hB : B < B2) : IsReader w' B v bs e := by
 have hlt := h.lt
 obtain ⟨h0, h1, h2, h3, h4, h5⟩ := h
 have hb : w'.heap[B]? = w.heap[B]? := ho.block B hlt (fun e => by cases e; omega)
 exact ⟨by rw [World.cell?_of_block (w := w) hb]; exact h0, by rw [World.cell?_of_block (w := w) hb]; exact h1, by rw [World.frozen?_of_block (w := w) hb]; exact h2, by rw [World.frozen?_of_block (w := w) hb]; exact h3, h4.below (ho.below (by omega) (by omega)), h5⟩
theorem IsReader.later {w w' : World} {B : Nat} {v : Value} {bs : List Int} {e : Int} (h : IsReader w B v bs e) (hb : Below w.heap.size w w') : IsReader w' B v bs e := by
 have hlt := h.lt
 obtain ⟨h0, h1, h2, h3, h4, h5⟩ := h
 exact ⟨by rw [hb.cell (by exact hlt)]; exact h0, by rw [hb.cell (by exact hlt)]; exact h1, by rw [hb.frozen (by exact hlt)]; exact h2, by rw [hb.frozen (by exact hlt)]; exact h3, h4.below (hb.mono (by omega)), h5⟩

theorem dec_err : ∀ (bs : List Int) (acc i : Nat) (er : Int), dec acc i bs = .err er → er = 20 ∨ er = 21
 | [], acc, i, er, h => by rw [dec] at h; cases h; exact .inr rfl
 | b :: r, acc, i, er, h => by
   rw [dec] at h
   split at h
   · cases h; exact .inl rfl
   · split at h
     · cases h
     · exact dec_err r _ _ er h
def numR (bs : List Int) (e most : Int) : Int × List Int × Int :=
 if e = 0 then match dec 0 0 bs with
   | .err er => (0, [], er)
   | .ok n k => if most < n then (0, [], 22) else (n, bs.drop k, 0)
 else (0, bs, e)

end Go.Proofs.YtogjhjiapinmcaaDoor.K
end
section
namespace Go.Proofs.YtogjhjiapinmcaaDoor.K
open Go.ChangeShapes Go.WideShapes Go.ChangeAt Go.RowKit
set_option linter.unusedVariables false

def lumpR (bs : List Int) (e most : Int) : List Int × List Int × Int :=
 if (numR bs e (max most 0)).2.2 = 0 then
   if ((numR bs e (max most 0)).2.1.length : Int) < (numR bs e (max most 0)).1 then ([], [], 21)
   else ((numR bs e (max most 0)).2.1.take (numR bs e (max most 0)).1.toNat, (numR bs e (max most 0)).2.1.drop (numR bs e (max most 0)).1.toNat, 0)
 else ([], (numR bs e (max most 0)).2.1, (numR bs e (max most 0)).2.2)

theorem IsLists.lit (w : World) (us : List Value) (ls : List (List Int)) (N : Nat) (T : TypeId) (n c : Nat) (hN : N = w.heap.size) (hn : n = us.length) (hl : us.length = ls.length) (h : ∀ j, j < us.length → IsNums .u8 w (us.getD j default) (ls.getD j [])) :
   IsLists (w.alloc (.cells us.toArray T)) (.slice (some ⟨N, 0, none⟩) n c) ls := by
 subst hN; subst hn
 refine ⟨_, c, by rw [hl], .inr ⟨_, 0, rfl, by simp, fun j hj => ?_⟩⟩
 refine ⟨us.getD j default, ?_, (h j (by omega)).alloc _⟩
 unfold World.cell? World.alloc
 simp [List.getD, show j < us.length by omega]

theorem IsLists.one (w : World) (u : Value) (bs : List Int) (N : Nat) (T : TypeId) (hN : N = w.heap.size) (h : IsNums .u8 w u bs) : IsLists (w.alloc (.cells #[u] T)) (.slice (some ⟨N, 0, none⟩) 1 1) [bs] :=
 IsLists.lit w [u] [bs] N T 1 1 hN rfl rfl (fun j hj => by
   rcases j with _ | j
   · exact h
   · simp at hj)

theorem ownsRow_base {w : World} {B B' : Nat} {e : TypeId} {s : Nat} {v : Value} {n : Nat} {xs : List Value} (h : w.ownsRow B e s v n xs) (hB : B' ≤ B) : w.ownsRow B' e s v n xs := by
 obtain ⟨h1, h2 | ⟨g, cap, cur, a, b, r⟩⟩ := h
 · exact ⟨h1, .inl h2⟩
 · exact ⟨h1, .inr ⟨g, cap, cur, a, Nat.le_trans hB b, r⟩⟩

theorem NumsLt.ofOwn {k : IntKind} {w : World} {B : Nat} {e : TypeId} {v : Value} {n : Nat} {zs : List Int} (h : w.ownsRow B e 1 v n (zs.map (Value.int k))) : NumsLt w.heap.size k w v zs := by
 have hn : n = zs.length := by have := h.1; simpa using this.symm
 subst hn
 rcases h.2 with ⟨rfl, h0⟩ | ⟨g, cap, cur, rfl, hg, hb, h1, h2, h3, h4⟩
 · obtain rfl := List.length_eq_zero_iff.1 h0
   exact ⟨none, 0, rfl, Nat.le_refl _, by omega, .inl rfl⟩
 · refine ⟨_, cap, rfl, h1, h2, .inr ⟨g, 0, rfl, (Array.getElem?_eq_some_iff.1 hb).1, fun j hj => ?_⟩⟩
   have := h.cellAt j (by omega)
   rw [Nat.zero_add, this]
   simp [hj, List.getD]

theorem NumsLt.take {N : Nat} {k : IntKind} {w : World} {a : Option Addr} {len c : Nat} {zs : List Int} (h : NumsLt N k w (.slice a len c) zs) (n : Nat) (hn : n ≤ zs.length) : NumsLt N k w (.slice a n c) (zs.take n) := by
 obtain ⟨a', c', e, h1, h2, h3⟩ := h
 injection e with e1 e2 e3
 subst e1; subst e3
 refine ⟨a, c, by simp [hn], by simp; omega, h2, ?_⟩
 rcases h3 with h3 | ⟨b, off, rfl, hb, hc⟩
 · left; simp; omega
 · right
   refine ⟨b, off, rfl, hb, fun j hj => ?_⟩
   simp at hj
   rw [hc j (by omega)]
   simp only [List.getD, List.getElem?_take]
   rw [if_pos (by omega)]

theorem IsReader.set {w : World} {B : Nat} {a : Option Addr} {len c n : Nat} {bs : List Int} {e : Int} (h : IsReader w B (.slice a len c) bs e) (hn : n ≤ bs.length) (a' : Option Addr) (c' : Nat) (hc1 : bs.length - n ≤ c') (hc2 : c' ≤ 9223372036854775807)
   (ha : ∀ b off, a = some ⟨b, off, none⟩ → bs.length - n = 0 ∨ a' = some ⟨b, off + n, none⟩) : IsReader (w.setCell ⟨B, 0, none⟩ (.slice a' (bs.length - n) c')) B (.slice a' (bs.length - n) c') (bs.drop n) e := by
 obtain ⟨h0, h1, h2, h3, ⟨p, c0, ep, hc3, hc4, hcells⟩, h5⟩ := h
 injection ep with e1 e2 e3
 subst e1; subst e3
 rcases hcells with hz | ⟨b, off, rfl, hblk, hcell⟩
 · have hn0 : bs = [] := List.length_eq_zero_iff.1 hz
   subst hn0
   refine ⟨World.cell?_setCell_same _ _ _ h0, ?_, by rw [World.frozen?_setCell]; exact h2, by rw [World.frozen?_setCell]; exact h3, ⟨a', c', by simp, by simp, hc2, .inl (by simp)⟩, by simp⟩
   rw [World.cell?_setCell_other _ _ _ _ (by simp)]; exact h1
 · exact reader_shift (c := c) h0 h1 h2 h3 hblk hcell h5 hn hc1 hc2 (ha b off rfl)

def LumpPost (w : World) (B : Nat) (r : List Int × List Int × Int) (en : Ending) (w' : World) : Prop :=
 ∃ u, en = .returned u ∧ w'.ownsRow w.heap.size 5 1 u r.1.length (r.1.map (Value.int .u8)) ∧ ∃ v', IsReader w' B v' r.2.1 r.2.2 ∧ Only B w w'

end Go.Proofs.YtogjhjiapinmcaaDoor.K
end
section
namespace Go.Proofs.YtogjhjiapinmcaaDoor.K
open Go.ChangeShapes Go.WideShapes Go.ChangeAt Go.RowKit
set_option linter.unusedVariables false

def Low (N : Nat) (w0 : World) : World → Prop := fun W => Below N w0 W

section
variable {P : Program} {ops : Array Oper} {Q : Exit → Act → World → Prop} {md : Region.Mode} {w0 : World} {N : Nat}

end
end Go.Proofs.YtogjhjiapinmcaaDoor.K
end
section
namespace Go.Proofs.YtogjhjiapinmcaaDoor.K
open Go.ChangeShapes Go.WideShapes Go.ChangeAt Go.RowKit
set_option linter.unusedVariables false

theorem enc_dec (rest : List Int) : ∀ (f n i acc : Nat), i + f = 9 → n * 2 ^ (7 * i) < 2 ^ 64 → (0 < i → n ≠ 0) → dec acc i (encF f n ++ rest) = .ok (acc + n * 2 ^ (7 * i)) (i + (encF f n).length)
 | 0, n, i, acc, hi, hb, hz => by
   obtain rfl : i = 9 := by omega
   have hn : n ≤ 1 := by omega
   have h0 := hz (by omega)
   obtain rfl : n = 1 := by omega
   simp [encF, dec]
 | f + 1, n, i, acc, hi, hb, hz => by
   unfold encF
   by_cases h : n < 128
   · rw [if_pos h]
     have hc : ¬ ((i = 9 ∧ (1 : Int) < (n : Int)) ∨ (0 < i ∧ (n : Int) = 0)) := by omega
     simp only [List.cons_append, List.nil_append, dec]
     rw [if_neg hc, if_pos (by omega)]
     rw [show ((n : Int) % 128).toNat = n by omega]
     simp
   · rw [if_neg h]
     have hc : ¬ ((i = 9 ∧ (1 : Int) < ((n % 128 + 128 : Nat) : Int)) ∨ (0 < i ∧ ((n % 128 + 128 : Nat) : Int) = 0)) := by omega
     simp only [List.cons_append, dec]
     rw [if_neg hc, if_neg (by omega)]
     have hpow : (2 : Nat) ^ (7 * (i + 1)) = 128 * 2 ^ (7 * i) := by rw [show 7 * (i + 1) = 7 + 7 * i by omega, Nat.pow_add]
     have hdm : 128 * (n / 128) + n % 128 = n := Nat.div_add_mod n 128
     have hmul : n / 128 * 2 ^ (7 * (i + 1)) = 128 * (n / 128) * 2 ^ (7 * i) := by rw [hpow]; ac_rfl
     have hle : 128 * (n / 128) * 2 ^ (7 * i) ≤ n * 2 ^ (7 * i) := Nat.mul_le_mul_right _ (by omega)
     rw [enc_dec rest f (n / 128) (i + 1) _ (by omega) (by omega) (by omega)]
     rw [show (((n % 128 + 128 : Nat) : Int) % 128).toNat = n % 128 by omega, hmul]
     have hsum : n * 2 ^ (7 * i) = 128 * (n / 128) * 2 ^ (7 * i) + n % 128 * 2 ^ (7 * i) := by rw [← Nat.add_mul, hdm]
     rw [hsum]
     simp
     constructor <;> omega
theorem dec_enc (x : Int) (h0 : 0 ≤ x) (h1 : x ≤ 18446744073709551615) (rest : List Int) : dec 0 0 (enc x ++ rest) = .ok x.toNat (enc x).length := by
 have := enc_dec rest 9 x.toNat 0 0 (by omega) (by simp; omega) (by omega)
 simpa [enc] using this
theorem enc_bytes (x : Int) (h1 : x ≤ 18446744073709551615) : ∀ b ∈ enc x, 0 ≤ b ∧ b ≤ 255 := by
 have : ∀ (f n : Nat), n < 128 ^ (f + 1) → ∀ b ∈ encF f n, 0 ≤ b ∧ b ≤ 255 := by
   intro f
   induction f with
   | zero => intro n hn b hb; simp [encF] at hb hn; omega
   | succ f ih =>
     intro n hn b hb
     unfold encF at hb
     split at hb
     · simp at hb; omega
     · rcases List.mem_cons.1 hb with rfl | hb
       · omega
       · refine ih (n / 128) ?_ b hb
         rw [Nat.pow_succ] at hn
         exact Nat.div_lt_of_lt_mul (by rw [Nat.mul_comm]; exact hn)
 refine this 9 x.toNat ?_
 have : (128 : Nat) ^ 10 = 1180591620717411303424 := by decide
 omega
theorem numR_ok (x : Int) (h0 : 0 ≤ x) (h1 : x ≤ 18446744073709551615) (rest : List Int) (most : Int) (hm : x ≤ most) : numR (enc x ++ rest) 0 most = (x, rest, 0) := by
 unfold numR
 rw [if_pos rfl, dec_enc x h0 h1 rest]
 simp only []
 rw [if_neg (by omega)]
 simp; omega
theorem numR_bad (bs : List Int) (e most : Int) (h : e ≠ 0) : numR bs e most = (0, bs, e) := by rw [numR, if_neg h]
theorem IsNums.drew {k : IntKind} {w : World} {v : Value} {zs : List Int} (h : IsNums k w v zs) : IsNums k w.drew v zs := h.below (Below.refl w.heap.size w).drew (Nat.le_refl _)
theorem conv_at {w W : World} {v : Value} {bs : List Int} (h : IsNums .u8 w v bs) (hW : Below w.heap.size w W) : (convert 24 9 v).run Tryd.prog W = .ok (.string (strOfNums bs)) W :=
 conv_str (h.below hW (Nat.le_refl _)) 24 5 Tryd.underlying24 Tryd.underlying5 9 Tryd.underlying9
theorem IsLists.nil (w : World) (a : Option Addr) (c : Nat) : IsLists w (.slice a 0 c) [] := ⟨a, c, rfl, .inl rfl⟩
theorem IsNums.after {k : IntKind} {w w' : World} {v : Value} {zs : List Int} {o : Obj} (h : IsNums k w v zs) (hb : Below (w.alloc o).heap.size (w.alloc o) w') : IsNums k w' v zs := (h.alloc o).below hb (Nat.le_refl _)
theorem str_beq {a b : List Int} (ha : ∀ x ∈ a, 0 ≤ x ∧ x ≤ 255) (hb : ∀ x ∈ b, 0 ≤ x ∧ x ≤ 255) : ((strOfNums a).toList == (strOfNums b).toList) = decide (a = b) := by
 rw [Bool.eq_iff_iff]
 simp only [beq_iff_eq, decide_eq_true_eq]
 constructor
 · intro h
   refine str_inj ha hb (bytes_inj ?_)
   rw [← ByteArray.toList_eq, ← ByteArray.toList_eq]
   exact h
 · rintro rfl; rfl
set_option maxRecDepth 100000 in
theorem equal_any (w : World) (u v : Value) (xs ys : List Int) (hu : IsNums .u8 w u xs) (hv : IsNums .u8 w v ys) (hx : ∀ x ∈ xs, 0 ≤ x ∧ x ≤ 255) (hy : ∀ x ∈ ys, 0 ≤ x ∧ x ≤ 255) :
   Calls Tryd.prog 58 #[u, v] w fun e w' => e = .returned (.bool (decide (xs = ys))) ∧ w' = w := by
 obtain ⟨p1, c1, rfl, -⟩ := id hu
 obtain ⟨p2, c2, rfl, -⟩ := id hv
 have h1 := conv_str (P := Tryd.prog) hu 24 5 Tryd.underlying24 Tryd.underlying5 9 Tryd.underlying9
 have h2 := conv_str (P := Tryd.prog) hv 24 5 Tryd.underlying24 Tryd.underlying5 9 Tryd.underlying9
 have HD := Lib.hid (str_beq hx hy)
 clear hu hv hx hy
 go_enter Tryd.func58, Tryd.ntmps58
 go_wp2
 go_ret
 exact ⟨ret_bool HD.out, rfl⟩
end Go.Proofs.YtogjhjiapinmcaaDoor.K
end
section
namespace Go.Proofs.YtogjhjiapinmcaaDoor.K
open Go.ChangeShapes Go.WideShapes Go.ChangeAt Go.RowKit
set_option linter.unusedVariables false

def openB (bs : List Int) : Bool := decide (4 ≤ bs.length ∧ bs.drop (bs.length - 4) = fourC (sumC [bs.take (bs.length - 4)]))
def openC (bs : List Int) : List Int := if openB bs then bs.take (bs.length - 4) else []

theorem IsNums.part {k : IntKind} {w : World} {b off n : Nat} {cc : Nat} {zs : List Int} (h : IsNums k w (.slice (some ⟨b, off, none⟩) n cc) zs) (i j : Nat) (hij : i ≤ j) (hj : j ≤ n) (c : Nat) (m : Nat) (hm : m = j - i) :
   IsNums k w (.slice (some ⟨b, off + i, none⟩) m c) ((zs.take j).drop i) := by
 subst hm
 obtain ⟨a, c', hv, h⟩ := h
 simp only [Value.slice.injEq] at hv
 obtain ⟨rfl, hl, rfl⟩ := hv
 have hlen : ((zs.take j).drop i).length = j - i := by simp; omega
 refine ⟨_, c, by rw [hlen], ?_⟩
 rw [hlen]
 rcases h with h | ⟨b', off', hh, hb, hc⟩
 · left; omega
 · simp only [Option.some.injEq, Addr.mk.injEq, and_true] at hh
   obtain ⟨rfl, rfl⟩ := hh
   refine .inr ⟨_, _, rfl, hb, fun q hq => ?_⟩
   have := hc (i + q) (by omega)
   rw [show off + i + q = off + (i + q) by omega, this]
   simp only [List.getD, List.getElem?_drop, List.getElem?_take]
   rw [if_pos (by omega)]

def OpenPost (bs : List Int) (w : World) (e : Ending) (w' : World) : Prop :=
 ∃ u, e = .returned (.tuple #[u, .bool (openB bs)]) ∧ IsNums .u8 w' u (openC bs) ∧ Below w.heap.size w w'

theorem Bytes.mem {bs : List Int} (h : Bytes bs) : ∀ x ∈ bs, 0 ≤ x ∧ x ≤ 255 := by
 intro x hx
 obtain ⟨i, hi, rfl⟩ := List.getElem_of_mem hx
 have := h i hi
 simpa [List.getD, hi] using this

end Go.Proofs.YtogjhjiapinmcaaDoor.K
end
