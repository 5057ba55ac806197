/- Memory as a list of resources, temporaries as a list of values: what a walk holds. For any program. -/
import Derived.Test.YtocfbocdnklllaaApp
import Derived.Test.YtocfbocdnklllaaStage2
import Derived.Deep.LoopGhost
namespace Go.Proofs.Ytocfbocdnklllaa.K
open Go.ChangeShapes Go.WideShapes Go.ChangeAt Go.RowKit
set_option linter.unusedVariables false

inductive D where
 | v (x : Value)
 | ns (k : IntKind) (zs : List Int)
 | l (m : Nat) (rows : List (List D))

def NumsS (S : Nat → Prop) (k : IntKind) (w : World) (v : Value) (zs : List Int) : Prop :=
 ∃ a c, v = .slice a zs.length c ∧ (zs.length ≤ c ∧ c ≤ maxLen) ∧ (zs.length = 0 ∨ ∃ b off, a = some ⟨b, off, none⟩ ∧ S b ∧ b < w.heap.size ∧ ∀ j, j < zs.length → w.cell? ⟨b, off + j, none⟩ = some (.int k (zs.getD j 0)))
inductive Rd (S : Nat → Prop) (w : World) : Value → D → Prop
 | v (x : Value) : Rd S w x (.v x)
 | ns {k : IntKind} {v : Value} {zs : List Int} (h : NumsS S k w v zs) : Rd S w v (.ns k zs)
 | l0 (a : Option Addr) (c m : Nat) : Rd S w (.slice a 0 c) (.l m [])
 | l (m b off c : Nat) (rows : List (List D)) (f : Nat → Nat → Value) (hS : S b) (hb : b < w.heap.size) (hc : rows.length ≤ c) (hm : ∀ r ∈ rows, r.length = m)
     (hcell : ∀ j q, j < rows.length → q < m → w.cell? ⟨b, off + j * m + q, none⟩ = some (f j q) ∧ (f j q).oneCell' = true)
     (hr : ∀ j q r d, rows[j]? = some r → r[q]? = some d → Rd S w (f j q) d) : Rd S w (.slice (some ⟨b, off, none⟩) rows.length c) (.l m rows)

theorem NumsS.mono {S S' : Nat → Prop} {k : IntKind} {w W : World} {v : Value} {zs : List Int} (h : NumsS S k w v zs) (hs : w.heap.size ≤ W.heap.size) (hk : ∀ b, b < w.heap.size → S b → W.heap[b]? = w.heap[b]? ∧ S' b) : NumsS S' k W v zs := by
 obtain ⟨a, c, rfl, hc, h0 | ⟨b, off, rfl, h1, h2, h3⟩⟩ := h
 · exact ⟨a, c, rfl, hc, .inl h0⟩
 · exact ⟨_, c, rfl, hc, .inr ⟨b, off, rfl, (hk b h2 h1).2, Nat.lt_of_lt_of_le h2 hs, fun j hj => by rw [World.cell?_of_block (w := w) (hk b h2 h1).1]; exact h3 j hj⟩⟩
theorem Rd.mono {S S' : Nat → Prop} {w W : World} {v : Value} {d : D} (h : Rd S w v d) (hs : w.heap.size ≤ W.heap.size) (hk : ∀ b, b < w.heap.size → S b → W.heap[b]? = w.heap[b]? ∧ S' b) : Rd S' W v d := by
 induction h with
 | v x => exact .v x
 | ns h => exact .ns (h.mono hs hk)
 | l0 a c m => exact .l0 a c m
 | l m b off c rows f hS hb hc hm hcell hr ih =>
   exact .l m b off c rows f (hk b hb hS).2 (Nat.lt_of_lt_of_le hb hs) hc hm (fun j q hj hq => by rw [World.cell?_of_block (w := w) (hk b hb hS).1]; exact hcell j q hj hq) ih

def OwnsAt (w : World) (base : Nat) (e : TypeId) (size : Nat) (v : Value) (n : Nat) (xs : List Value) : Prop :=
 xs.length = n * size ∧
 ((v = .slice none 0 0 ∧ n = 0) ∨
  ∃ g off cap cur, v = .slice (some ⟨g, off, none⟩) n cap ∧ base ≤ g ∧ w.heap[g]? = some (.cells cur e (0, 0)) ∧ n ≤ cap ∧ cap ≤ maxLen ∧ off + cap * size ≤ cur.size ∧ (cur.toList.drop off).take (n * size) = xs)
theorem OwnsAt.of {w : World} {base : Nat} {e : TypeId} {size : Nat} {v : Value} {n : Nat} {xs : List Value} (h : w.ownsRow base e size v n xs) : OwnsAt w base e size v n xs := by
 refine ⟨h.1, ?_⟩
 rcases h.2 with h | ⟨g, cap, cur, h1, h2, h3, h4, h5, h6, h7⟩
 · exact .inl h
 · exact .inr ⟨g, 0, cap, cur, h1, h2, h3, h4, h5, by omega, by simpa using h7⟩
theorem OwnsAt.at {w W : World} {base : Nat} {e : TypeId} {size : Nat} {v : Value} {n : Nat} {xs : List Value} (h : OwnsAt w base e size v n xs) (hb : ∀ k, v.ownBlock = some k → W.heap[k]? = w.heap[k]?) : OwnsAt W base e size v n xs := by
 refine ⟨h.1, ?_⟩
 rcases h.2 with hn | ⟨g, off, cap, cur, rfl, hbg, hgg, rest⟩
 · exact .inl hn
 · refine .inr ⟨g, off, cap, cur, rfl, hbg, ?_, rest⟩
   rw [hb g rfl]; exact hgg
theorem OwnsAt.lt {w : World} {base : Nat} {e : TypeId} {size : Nat} {v : Value} {n : Nat} {xs : List Value} (h : OwnsAt w base e size v n xs) (b : Nat) (hb : v.ownBlock = some b) : base ≤ b ∧ b < w.heap.size := by
 rcases h.2 with ⟨rfl, _⟩ | ⟨g, off, cap, cur, rfl, hbg, hgg, _⟩
 · cases hb
 · injection hb with hb; subst hb
   exact ⟨hbg, (Array.getElem?_eq_some_iff.1 hgg).1⟩
def SegOk (S : Nat → Prop) (w : World) (v : Value) (e : TypeId) (m : Nat) (rows : List (List D)) : Prop :=
 ∃ cs : List (List Value), OwnsAt w 0 e m v rows.length cs.flatten ∧ cs.length = rows.length ∧ (∀ c ∈ cs, c.length = m ∧ ∀ x ∈ c, x.oneCell' = true) ∧ (∀ r ∈ rows, r.length = m) ∧
   ∀ (j q : Nat) (c : List Value) (r : List D) (x : Value) (d : D), cs[j]? = some c → rows[j]? = some r → c[q]? = some x → r[q]? = some d → Rd S w x d
inductive Res where
 | dat (v : Value) (d : D)
 | box (g : Nat) (e : TypeId) (cs : List Value)
 | num (v : Value) (e : TypeId) (k : IntKind) (zs : List Int)
 | row (v : Value) (e : TypeId) (m : Nat) (rows : List (List D))
 | cel (b o : Nat) (vs : List Value)
 | rowC (v : Value) (e : TypeId) (m : Nat) (rows : List (List D)) (cs : List (List Value))
 | seg (v : Value) (e : TypeId) (m : Nat) (rows : List (List D))
 | any (g : Nat)
 | gone
def Res.blk : Res → Option Nat
 | .box g _ _ => some g
 | .num v _ _ _ => v.ownBlock
 | .row v _ _ _ => v.ownBlock
 | .rowC v _ _ _ _ => v.ownBlock
 | .seg v _ _ _ => v.ownBlock
 | .any g => some g
 | _ => none
def RowOk (N : Nat) (S : Nat → Prop) (w : World) (v : Value) (e : TypeId) (m : Nat) (rows : List (List D)) : Prop :=
 ∃ cs : List (List Value), w.ownsRow N e m v rows.length cs.flatten ∧ cs.length = rows.length ∧ (∀ c ∈ cs, c.length = m ∧ ∀ x ∈ c, x.oneCell' = true) ∧ (∀ r ∈ rows, r.length = m) ∧
   ∀ (j q : Nat) (c : List Value) (r : List D) (x : Value) (d : D), cs[j]? = some c → rows[j]? = some r → c[q]? = some x → r[q]? = some d → Rd S w x d
def RowC (N : Nat) (S : Nat → Prop) (w : World) (v : Value) (e : TypeId) (m : Nat) (rows : List (List D)) (cs : List (List Value)) : Prop :=
 w.ownsRow N e m v rows.length cs.flatten ∧ cs.length = rows.length ∧ (∀ c ∈ cs, c.length = m ∧ ∀ x ∈ c, x.oneCell' = true) ∧ (∀ r ∈ rows, r.length = m) ∧
   ∀ (j q : Nat) (c : List Value) (r : List D) (x : Value) (d : D), cs[j]? = some c → rows[j]? = some r → c[q]? = some x → r[q]? = some d → Rd S w x d
def Res.ok (N : Nat) (X : List Nat) (S : Nat → Prop) (w : World) : Res → Prop
 | .dat v d => Rd S w v d
 | .box g e cs => Blk w g e cs ∧ (N ≤ g ∨ g ∈ X)
 | .num v e k zs => w.ownsRow N e 1 v zs.length (zs.map (Value.int k))
 | .row v e m rows => RowOk N S w v e m rows
 | .rowC v e m rows cs => RowC N S w v e m rows cs
 | .seg v e m rows => SegOk S w v e m rows ∧ ∀ b, v.ownBlock = some b → N ≤ b ∨ b ∈ X
 | .cel b o vs => S b ∧ b < w.heap.size ∧ w.rangeAt b o vs
 | .any g => g < w.heap.size ∧ (N ≤ g ∨ g ∈ X)
 | .gone => True
def lk {α : Type} : List (Nat × α) → Nat → Option α
 | [], _ => none
 | (k, x) :: t, i => bif Nat.beq k i then some x else lk t i
theorem lk_cons {α : Type} (k : Nat) (x : α) (t : List (Nat × α)) (i : Nat) : lk ((k, x) :: t) i = if k = i then some x else lk t i := by
 show (bif Nat.beq k i then some x else lk t i) = _
 by_cases h : k = i
 · rw [if_pos h, h, show Nat.beq i i = true from Nat.beq_refl i]; rfl
 · rw [if_neg h, show Nat.beq k i = false from by cases hb : Nat.beq k i with | false => rfl | true => exact absurd (Nat.eq_of_beq_eq_true hb) h]; rfl
abbrev Mm := List (Nat × Res)
def Own (M : Mm) (b : Nat) : Prop := ∃ i r, lk M i = some r ∧ r.blk = some b
structure Cx where
 bad : List Nat
 Z : Nat → Prop
def Free (X : Cx) (M : Mm) (b : Nat) : Prop := X.Z b ∧ ¬ Own M b
structure MemOk (X : Cx) (w0 : World) (M : Mm) (w : World) : Prop where
 keep : Keep (· ∈ X.bad) w0 w
 fresh : ∀ b, w0.heap.size ≤ b → X.Z b
 ok : ∀ i r, lk M i = some r → r.ok w0.heap.size X.bad (Free X M) w
 sep : ∀ i j r s b, lk M i = some r → lk M j = some s → r.blk = some b → s.blk = some b → i = j

theorem own_at {w W : World} {base : Nat} {e : TypeId} {size : Nat} {v : Value} {n : Nat} {xs : List Value} (h : w.ownsRow base e size v n xs) (hb : ∀ k, v.ownBlock = some k → W.heap[k]? = w.heap[k]?) : W.ownsRow base e size v n xs := by
 refine ⟨h.1, ?_⟩
 rcases h.2 with hn | ⟨g, cap, cur, rfl, hbg, hgg, rest⟩
 · exact .inl hn
 · refine .inr ⟨g, cap, cur, rfl, hbg, ?_, rest⟩
   rw [hb g rfl]
   exact hgg
theorem Res.ok_mono {N : Nat} {X : List Nat} {S S' : Nat → Prop} {w W : World} {r : Res} (h : r.ok N X S w) (hs : w.heap.size ≤ W.heap.size) (hk : ∀ b, b < w.heap.size → S b → W.heap[b]? = w.heap[b]? ∧ S' b) (hb : ∀ b, r.blk = some b → W.heap[b]? = w.heap[b]?) : r.ok N X S' W := by
 cases r with
 | dat v d => exact Rd.mono h hs hk
 | box g e cs => exact ⟨(hb g rfl).trans h.1, h.2⟩
 | num v e k zs => exact own_at h hb
 | row v e m rows =>
   obtain ⟨cs, h1, h2, h3, h4, h5⟩ := h
   exact ⟨cs, own_at h1 hb, h2, h3, h4, fun j q c r x d a1 a2 a3 a4 => (h5 j q c r x d a1 a2 a3 a4).mono hs hk⟩
 | rowC v e m rows cs =>
   obtain ⟨h1, h2, h3, h4, h5⟩ := h
   exact ⟨own_at h1 hb, h2, h3, h4, fun j q c r x d a1 a2 a3 a4 => (h5 j q c r x d a1 a2 a3 a4).mono hs hk⟩
 | seg v e m rows =>
   obtain ⟨⟨cs, h1, h2, h3, h4, h5⟩, hx⟩ := h
   exact ⟨⟨cs, h1.at hb, h2, h3, h4, fun j q c r x d a1 a2 a3 a4 => (h5 j q c r x d a1 a2 a3 a4).mono hs hk⟩, hx⟩
 | cel b o vs => exact ⟨(hk b h.2.1 h.1).2, Nat.lt_of_lt_of_le h.2.1 hs, fun j v hj => by rw [World.cell?_of_block (w := w) (hk b h.2.1 h.1).1]; exact h.2.2 j v hj⟩
 | any g => exact ⟨Nat.lt_of_lt_of_le h.1 hs, h.2⟩
 | gone => trivial
theorem Res.blk_lt {N : Nat} {X : List Nat} {S : Nat → Prop} {w : World} {r : Res} (h : r.ok N X S w) {b : Nat} (hb : r.blk = some b) : b < w.heap.size ∧ (N ≤ b ∨ b ∈ X) := by
 cases r with
 | dat v d => cases hb
 | box g e cs => injection hb with hb; subst hb; exact ⟨h.1.lt, h.2⟩
 | num v e k zs => have := World.ownsRow.lt h b hb; exact ⟨this.2, .inl this.1⟩
 | seg v e m rows => obtain ⟨⟨cs, h1, _⟩, hx⟩ := h; exact ⟨(h1.lt b hb).2, hx b hb⟩
 | rowC v e m rows cs => have := World.ownsRow.lt h.1 b hb; exact ⟨this.2, .inl this.1⟩
 | row v e m rows => obtain ⟨cs, h1, _⟩ := h; have := World.ownsRow.lt h1 b hb; exact ⟨this.2, .inl this.1⟩
 | cel b o vs => cases hb
 | any g => injection hb with hb; subst hb; exact h
 | gone => cases hb

section
variable {X : Cx} {w0 : World} {M : Mm} {w : World}
theorem MemOk.later (m : MemOk X w0 M w) {w' : World} (hb : Below w.heap.size w w') : MemOk X w0 M w' where
 keep := m.keep.trans' (bad' := fun _ => False) (Keep.ofBelow hb) (fun _ _ h => h.elim)
 fresh := m.fresh
 ok i r h := Res.ok_mono (m.ok i r h) hb.size (fun b hlt hS => ⟨hb.block b hlt, hS⟩) (fun b hbk => hb.block b (Res.blk_lt (m.ok i r h) hbk).1)
 sep := m.sep
theorem MemOk.upd (m : MemOk X w0 M w) (i : Nat) (r' : Res) {w' : World} (hk : Keep (fun b => ∃ r, lk M i = some r ∧ r.blk = some b) w w') (hb : ∀ b, r'.blk = some b → (∃ r, lk M i = some r ∧ r.blk = some b) ∨ w.heap.size ≤ b)
   (hok : (∀ b, b < w.heap.size → Free X M b → Free X ((i, r') :: M) b) → (∀ b, (∃ r, lk M i = some r ∧ r.blk = some b) → w0.heap.size ≤ b → (∀ c, r'.blk = some c → c ≠ b) → Free X ((i, r') :: M) b) → r'.ok w0.heap.size X.bad (Free X ((i, r') :: M)) w') : MemOk X w0 ((i, r') :: M) w' := by
 have hfree : ∀ b, b < w.heap.size → Free X M b → Free X ((i, r') :: M) b := by
   rintro b hlt ⟨hz, hf⟩
   refine ⟨hz, ?_⟩
   rintro ⟨j, s, hj, hs⟩
   rw [lk_cons] at hj
   split at hj
   · injection hj with hj; subst hj
     rcases hb b hs with ⟨r, h1, h2⟩ | h
     · exact hf ⟨i, r, h1, h2⟩
     · omega
   · exact hf ⟨j, s, hj, hs⟩
 have hold : ∀ b, (∃ r, lk M i = some r ∧ r.blk = some b) → w0.heap.size ≤ b → (∀ c, r'.blk = some c → c ≠ b) → Free X ((i, r') :: M) b := by
   rintro b ⟨r, h1, h2⟩ hN hc
   refine ⟨m.fresh b hN, ?_⟩
   rintro ⟨j, s, hj, hs⟩
   rw [lk_cons] at hj
   split at hj
   · injection hj with hj; subst hj
     exact hc b hs rfl
   · rename_i hne
     exact hne (m.sep i j r s b h1 hj h2 hs)
 refine ⟨m.keep.trans' hk ?_, m.fresh, ?_, ?_⟩
 · rintro b hlt ⟨r, h1, h2⟩
   rcases (Res.blk_lt (m.ok i r h1) h2).2 with h | h
   · omega
   · exact h
 · intro j s hj
   rw [lk_cons] at hj
   split at hj
   · injection hj with hj; subst hj
     exact hok hfree hold
   · rename_i hne
     refine Res.ok_mono (m.ok j s hj) hk.size (fun b hlt hS => ⟨hk.2.2.2.2 b hlt ?_, hfree b hlt hS⟩) (fun b hbk => hk.2.2.2.2 b (Res.blk_lt (m.ok j s hj) hbk).1 ?_)
     · rintro ⟨r, h1, h2⟩; exact hS.2 ⟨i, r, h1, h2⟩
     · rintro ⟨r, h1, h2⟩; exact hne (m.sep i j r s b h1 hj h2 hbk)
 · intro p q r s b hp hq hr hs
   rw [lk_cons] at hp hq
   split at hp <;> split at hq
   · omega
   · rename_i h1 h2
     injection hp with hp; subst hp
     rcases hb b hr with ⟨r0, h3, h4⟩ | h
     · rw [← h1]; exact m.sep i q r0 s b h3 hq h4 hs
     · have := (Res.blk_lt (m.ok q s hq) hs).1; omega
   · rename_i h1 h2
     injection hq with hq; subst hq
     rcases hb b hs with ⟨r0, h3, h4⟩ | h
     · rw [← h2]; exact m.sep p i r r0 b hp h3 hr h4
     · have := (Res.blk_lt (m.ok p r hp) hr).1; omega
   · exact m.sep p q r s b hp hq hr hs
theorem MemOk.sub (m : MemOk X w0 M w) {M' : Mm} (h : ∀ i r, lk M' i = some r → lk M i = some r) : MemOk X w0 M' w where
 keep := m.keep
 fresh := m.fresh
 ok i r hi := Res.ok_mono (m.ok i r (h i r hi)) (Nat.le_refl _) (fun b _ hS => ⟨rfl, hS.1, fun ⟨j, s, hj, hs⟩ => hS.2 ⟨j, s, h j s hj, hs⟩⟩) (fun _ _ => rfl)
 sep i j r s b h1 h2 := m.sep i j r s b (h i r h1) (h j s h2)
theorem MemOk.drew (m : MemOk X w0 M w) : MemOk X w0 M w.drew := m.later ((Below.refl _ w).drew)
theorem MemOk.dat (m : MemOk X w0 M w) (i : Nat) (hi : lk M i = none) {v : Value} {d : D} (h : Rd (Free X M) w v d) : MemOk X w0 ((i, .dat v d) :: M) w :=
 m.upd i (.dat v d) (Keep.refl _ _) (fun b hb => by cases hb) (fun h1 _ => h.mono (Nat.le_refl _) (fun b hlt hS => ⟨rfl, h1 b hlt hS⟩))
theorem MemOk.box (m : MemOk X w0 M w) (i : Nat) (e : TypeId) (cs : Array Value) : MemOk X w0 ((i, .box w.heap.size e cs.toList) :: M) (w.alloc (.cells cs e)) :=
 m.upd i _ (Keep.alloc _ _ _) (fun b hb => .inr (by injection hb with hb; omega)) (fun _ _ => ⟨Blk.alloc w e cs, .inl m.keep.size⟩)
theorem numsS_own {N : Nat} {S : Nat → Prop} {w : World} {v : Value} {e : TypeId} {k : IntKind} {zs : List Int} (h : w.ownsRow N e 1 v zs.length (zs.map (Value.int k))) (hS : ∀ b, v.ownBlock = some b → S b) : NumsS S k w v zs := by
 rcases h.2 with ⟨rfl, h0⟩ | ⟨g, cap, cur, rfl, hg, hbk, h1, h2, h3, h4⟩
 · exact ⟨none, 0, by rw [h0], ⟨by omega, by unfold maxLen; omega⟩, .inl h0⟩
 · have hlt := (Array.getElem?_eq_some_iff.1 hbk).1
   refine ⟨_, cap, rfl, ⟨h1, h2⟩, .inr ⟨g, 0, rfl, hS g rfl, hlt, fun j hj => ?_⟩⟩
   have := h.cellAt j (by omega)
   rw [Nat.zero_add, this]
   simp [hj, List.getD]
theorem flatten_at {α : Type} {m : Nat} : ∀ (cs : List (List α)) (j q : Nat) (c : List α), (∀ c ∈ cs, c.length = m) → cs[j]? = some c → q < m → cs.flatten[j * m + q]? = c[q]?
 | [], j, q, c, _, hj, _ => by simp at hj
 | a :: cs, 0, q, c, h, hj, hq => by
   have ha := h a (by simp)
   simp at hj; subst hj
   rw [List.flatten_cons, Nat.zero_mul, Nat.zero_add, List.getElem?_append_left (by omega)]
 | a :: cs, j + 1, q, c, h, hj, hq => by
   have ha := h a (by simp)
   rw [List.flatten_cons, List.getElem?_append_right (by rw [ha, Nat.add_mul]; omega), ha, show (j + 1) * m + q - m = j * m + q by rw [Nat.add_mul]; omega]
   exact flatten_at cs j q c (fun c hc => h c (by simp [hc])) (by simpa using hj) hq
theorem rd_row {N : Nat} {S S' : Nat → Prop} {w : World} {v : Value} {e : TypeId} {m : Nat} {rows : List (List D)} (h : RowOk N S w v e m rows) (hS : ∀ b, b < w.heap.size → S b → S' b) (hv : ∀ b, v.ownBlock = some b → S' b) : Rd S' w v (.l m rows) := by
 obtain ⟨cs, h1, h2, h3, h4, h5⟩ := h
 rcases h1.2 with ⟨rfl, h0⟩ | ⟨g, cap, cur, rfl, hg, hbk, hcap, h7, h8, h9⟩
 · obtain rfl := List.length_eq_zero_iff.1 h0
   exact .l0 none 0 m
 · have hlt := (Array.getElem?_eq_some_iff.1 hbk).1
   refine .l m g 0 cap rows (fun j q => (cs.flatten[j * m + q]?).getD undef) (hv g rfl) hlt hcap h4 (fun j q hj hq => ?_) (fun j q r d hj hq => ?_)
   · have hjc : j < cs.length := by omega
     have hc : cs[j]? = some cs[j] := List.getElem?_eq_getElem hjc
     have hm := (h3 cs[j] (List.getElem_mem hjc)).1
     have hx : cs[j][q]? = some (cs[j][q]'(by omega)) := List.getElem?_eq_getElem (by omega)
     have hf := flatten_at cs j q cs[j] (fun c hc => (h3 c hc).1) hc hq
     have := h1.cellAt (j * m + q) (by calc j * m + q < j * m + m := by omega
         _ = (j + 1) * m := by rw [Nat.add_mul]; omega
         _ ≤ rows.length * m := Nat.mul_le_mul_right _ (by omega))
     rw [Nat.zero_add, this, hf, hx]
     exact ⟨rfl, (h3 cs[j] (List.getElem_mem hjc)).2 _ (List.getElem_mem _)⟩
   · have hjr := (List.getElem?_eq_some_iff.1 hj).1
     have hjc : j < cs.length := by omega
     have hc : cs[j]? = some cs[j] := List.getElem?_eq_getElem hjc
     have hm := (h3 cs[j] (List.getElem_mem hjc)).1
     have hqr := (List.getElem?_eq_some_iff.1 hq).1
     have hrm := h4 r (List.mem_of_getElem? hj)
     have hx : cs[j][q]? = some (cs[j][q]'(by omega)) := List.getElem?_eq_getElem (by omega)
     have hf := flatten_at cs j q cs[j] (fun c hc => (h3 c hc).1) hc (by omega)
     show Rd S' w ((cs.flatten[j * m + q]?).getD undef) d
     rw [hf, hx]
     exact (h5 j q cs[j] r _ d hc hj hx hq).mono (Nat.le_refl _) (fun b hlt hs => ⟨rfl, hS b hlt hs⟩)
theorem MemOk.cel (m : MemOk X w0 M w) (i : Nat) (hi : lk M i = none) {b o : Nat} {vs : List Value} (h1 : Free X M b) (h2 : b < w.heap.size) (h3 : w.rangeAt b o vs) : MemOk X w0 ((i, .cel b o vs) :: M) w :=
 m.upd i (.cel b o vs) (Keep.refl _ _) (fun b hb => by cases hb) (fun h _ => ⟨h b h2 h1, h2, h3⟩)
theorem MemOk.nilN (m : MemOk X w0 M w) (i : Nat) (e : TypeId) (k : IntKind) : MemOk X w0 ((i, .num (.slice none 0 0) e k []) :: M) w :=
 m.upd i _ (Keep.refl _ _) (fun b hb => by cases hb) (fun _ _ => World.ownsRow_nil _ _ _ _)
theorem MemOk.nilR (m : MemOk X w0 M w) (i : Nat) (e : TypeId) (k : Nat) : MemOk X w0 ((i, .row (.slice none 0 0) e k []) :: M) w :=
 m.upd i _ (Keep.refl _ _) (fun b hb => by cases hb) (fun _ _ => ⟨[], World.ownsRow_nil _ _ _ _, rfl, by simp, by simp, by simp⟩)
theorem MemOk.newN (m : MemOk X w0 M w) (i : Nat) {w' : World} (hb : Below w.heap.size w w') {v : Value} {e : TypeId} {k : IntKind} {zs : List Int} (h : w'.ownsRow w.heap.size e 1 v zs.length (zs.map (Value.int k))) : MemOk X w0 ((i, .num v e k zs) :: M) w' :=
 m.upd i _ ((Keep.ofBelow (bad := fun _ => False) hb).mono (fun _ h => h.elim)) (fun b hb => .inr (h.lt b hb).1) (fun _ _ => by
   refine ⟨h.1, ?_⟩
   rcases h.2 with hn | ⟨g, cap, cur, e1, hg, rest⟩
   · exact .inl hn
   · exact .inr ⟨g, cap, cur, e1, Nat.le_trans m.keep.size hg, rest⟩)
theorem MemOk.newR (m : MemOk X w0 M w) (i : Nat) {w' : World} (hb : Below w.heap.size w w') {v : Value} {e : TypeId} {k : Nat} {rows : List (List D)} (h : RowOk w.heap.size (fun b => (Free X M b ∧ b < w.heap.size) ∨ w.heap.size ≤ b ∧ v.ownBlock ≠ some b) w' v e k rows) : MemOk X w0 ((i, .row v e k rows) :: M) w' :=
 m.upd i _ ((Keep.ofBelow (bad := fun _ => False) hb).mono (fun _ h => h.elim)) (fun b hb => .inr (by obtain ⟨cs, h1, _⟩ := h; exact (h1.lt b hb).1)) (fun hf _ => by
   obtain ⟨cs, h1, h2, h3, h4, h5⟩ := h
   refine ⟨cs, ⟨h1.1, ?_⟩, h2, h3, h4, fun j q c r x d a1 a2 a3 a4 => (h5 j q c r x d a1 a2 a3 a4).mono (Nat.le_refl _) (fun b hlt hS => ⟨rfl, ?_⟩)⟩
   · rcases h1.2 with hn | ⟨g, cap, cur, e1, hg, rest⟩
     · exact .inl hn
     · exact .inr ⟨g, cap, cur, e1, Nat.le_trans m.keep.size hg, rest⟩
   · rcases hS with ⟨hS, hlt⟩ | ⟨hge, hne⟩
     · exact hf b hlt hS
     · refine ⟨m.fresh b (Nat.le_trans m.keep.size hge), ?_⟩
       rintro ⟨j, s, hj, hs⟩
       rw [lk_cons] at hj
       split at hj
       · injection hj with hj; subst hj; exact hne hs
       · have := (Res.blk_lt (m.ok j s hj) hs).1; omega)
theorem MemOk.freezeN (m : MemOk X w0 M w) (i : Nat) {v : Value} {e : TypeId} {k : IntKind} {zs : List Int} (h : lk M i = some (.num v e k zs)) : MemOk X w0 ((i, .dat v (.ns k zs)) :: M) w :=
 m.upd i _ (Keep.refl _ _) (fun b hb => by cases hb) (fun _ h2 => .ns (numsS_own (m.ok i _ h) (fun b hb => h2 b ⟨_, h, hb⟩ (World.ownsRow.lt (m.ok i _ h) b hb).1 (fun c hc => by cases hc))))
theorem MemOk.freezeR (m : MemOk X w0 M w) (i : Nat) {v : Value} {e : TypeId} {k : Nat} {rows : List (List D)} (h : lk M i = some (.row v e k rows)) : MemOk X w0 ((i, .dat v (.l k rows)) :: M) w :=
 m.upd i _ (Keep.refl _ _) (fun b hb => by cases hb) (fun h1 h2 => rd_row (m.ok i _ h) h1 (fun b hb => h2 b ⟨_, h, hb⟩ (by obtain ⟨cs, q, _⟩ := m.ok i _ h; exact (World.ownsRow.lt q b hb).1) (fun c hc => by cases hc)))
end
end Go.Proofs.Ytocfbocdnklllaa.K
