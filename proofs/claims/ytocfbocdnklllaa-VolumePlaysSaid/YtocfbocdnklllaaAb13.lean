/- The frame: a call sees a part of memory; the rest stays. For any program. -/
import Derived.Test.YtocfbocdnklllaaAb12
namespace Go.Proofs.Ytocfbocdnklllaa.K
open Go.ChangeShapes Go.WideShapes Go.ChangeAt Go.RowKit
set_option linter.unusedVariables false
set_option linter.unusedSimpArgs false

def ownL (M : Mm) : List Nat := M.filterMap (fun p => p.2.blk)
def cxM (X : Cx) (M : Mm) (w : World) (L : Mm) : Cx := ⟨ownL L, fun b => b < w.heap.size → Free X M b⟩
def Res.pass : Res → Bool
 | .num _ _ _ _ => false
 | .row _ _ _ _ => false
 | .rowC _ _ _ _ _ => false
 | _ => true
def dropM (M : Mm) (ids : List Nat) : Mm := M.filter (fun p => !(ids.any (Nat.beq p.1)))
theorem lk_mem {α : Type} : ∀ {M : List (Nat × α)} {i : Nat} {r : α}, lk M i = some r → (i, r) ∈ M
 | [], i, r, h => by cases h
 | (k, x) :: t, i, r, h => by
   rw [lk_cons] at h
   split at h
   · rename_i e; subst e; cases h; exact List.mem_cons_self
   · exact List.mem_cons_of_mem _ (lk_mem h)
theorem renM_mem {M : Mm} : ∀ {ps : List (Nat × Nat)} {i : Nat} {r : Res}, (i, r) ∈ renM M ps → ∃ j, (i, j) ∈ ps ∧ lk M j = some r
 | [], i, r, h => by cases h
 | (i', j) :: t, i, r, h => by
   rw [renM] at h
   split at h
   · rename_i r' hr
     rcases List.mem_cons.1 h with e | h
     · injection e with e1 e2; subst e1; subst e2; exact ⟨j, List.mem_cons_self, hr⟩
     · obtain ⟨j', h1, h2⟩ := renM_mem h; exact ⟨j', List.mem_cons_of_mem _ h1, h2⟩
   · obtain ⟨j', h1, h2⟩ := renM_mem h; exact ⟨j', List.mem_cons_of_mem _ h1, h2⟩
theorem ownL_of {M : Mm} {i b : Nat} {r : Res} (h : lk M i = some r) (hb : r.blk = some b) : b ∈ ownL M := List.mem_filterMap.2 ⟨(i, r), lk_mem h, hb⟩
theorem ownL_ren {M : Mm} {ps : List (Nat × Nat)} {b : Nat} (h : b ∈ ownL (renM M ps)) : ∃ i j r, (i, j) ∈ ps ∧ lk M j = some r ∧ r.blk = some b := by
 obtain ⟨⟨i, r⟩, h1, h2⟩ := List.mem_filterMap.1 h
 obtain ⟨j, h3, h4⟩ := renM_mem h1
 exact ⟨i, j, r, h3, h4, h2⟩
theorem lk_app {α : Type} : ∀ {A B : List (Nat × α)} {i : Nat}, lk (A ++ B) i = (lk A i).or (lk B i)
 | [], B, i => rfl
 | (k, x) :: t, B, i => by
   rw [List.cons_append, lk_cons, lk_cons]
   split
   · rfl
   · exact lk_app
theorem dropM_lk {ids : List Nat} : ∀ {M : Mm} {i : Nat} {r : Res}, lk (dropM M ids) i = some r → i ∉ ids ∧ lk M i = some r
 | [], i, r, h => by cases h
 | (k, x) :: t, i, r, h => by
   unfold dropM at h
   rw [List.filter_cons] at h
   split at h
   · rename_i hk
     rw [lk_cons] at h
     rw [lk_cons]
     split at h
     · rename_i e; subst e
       rw [if_pos rfl]
       refine ⟨fun hm => ?_, h⟩
       simp at hk
       exact hk _ hm rfl
     · rename_i e
       rw [if_neg e]
       exact dropM_lk h
   · rename_i hk
     obtain ⟨h1, h2⟩ := dropM_lk (M := t) h
     refine ⟨h1, ?_⟩
     rw [lk_cons]
     split
     · rename_i e; subst e
       simp at hk
       exact absurd hk h1
     · exact h2
section
variable {w w0 : World} {X : Cx} {M : Mm}
theorem MemOk.into (m : MemOk X w0 M w) (ps : List (Nat × Nat)) (hp : (ps.all fun p => ps.all fun q => !(p.2 == q.2) || p.1 == q.1) = true) (h2 : (renM M ps).all (fun p => p.2.pass) = true) : MemOk (cxM X M w (renM M ps)) w (renM M ps) w where
 keep := Keep.refl _ _
 fresh := fun b hb hlt => absurd hlt (by omega)
 ok i r h := by
   obtain ⟨j, h3, h4⟩ := renM_out h
   have hpass : r.pass = true := List.all_eq_true.1 h2 _ (lk_mem h)
   have hown : ∀ b, Own (renM M ps) b → Own M b := fun b ⟨q, s, hq, hs⟩ => by obtain ⟨q', _, h5⟩ := renM_out hq; exact ⟨q', s, h5, hs⟩
   have hfree : ∀ b, b < w.heap.size → Free X M b → w.heap[b]? = w.heap[b]? ∧ Free (cxM X M w (renM M ps)) (renM M ps) b := fun b hb hF => ⟨rfl, fun _ => hF, fun ho => hF.2 (hown b ho)⟩
   have hbad : ∀ b, r.blk = some b → b ∈ ownL (renM M ps) := fun b hb => ownL_of h hb
   have ho := m.ok j r h4
   cases r with
   | dat v d => exact Rd.mono ho (Nat.le_refl _) hfree
   | box g e cs => exact ⟨ho.1, .inr (hbad g rfl)⟩
   | num v e k zs => cases hpass
   | row v e mm rows => cases hpass
   | rowC v e mm rows cs => cases hpass
   | seg v e mm rows => exact ⟨ho.1.mono (fun b hb hF => (hfree b hb hF).2), fun b hb => .inr (hbad b hb)⟩
   | cel b o vs => exact ⟨(hfree b ho.2.1 ho.1).2, ho.2⟩
   | any g => exact ⟨ho.1, .inr (hbad g rfl)⟩
   | gone => trivial
 sep i j r s b h1 h2' hr hs := by
   obtain ⟨i', a1, a2⟩ := renM_out h1
   obtain ⟨j', b1, b2⟩ := renM_out h2'
   obtain rfl := m.sep i' j' r s b a2 b2 hr hs
   rw [List.all_eq_true] at hp
   have h3 := hp _ a1
   rw [List.all_eq_true] at h3
   have h4 := h3 _ b1
   simpa using h4
theorem Res.ok_low {N N' : Nat} {X X' : List Nat} {S : Nat → Prop} {w : World} {r : Res} (h : r.ok N X S w) (hN : N' ≤ N) (hX : ∀ b, r.blk = some b → b ∈ X → N' ≤ b ∨ b ∈ X') : r.ok N' X' S w := by
 have low : ∀ {e : TypeId} {s : Nat} {v : Value} {n : Nat} {xs : List Value}, w.ownsRow N e s v n xs → w.ownsRow N' e s v n xs := by
   intro e s v n xs h
   refine ⟨h.1, ?_⟩
   rcases h.2 with hn | ⟨g, cap, cur, rfl, hg, rest⟩
   · exact .inl hn
   · exact .inr ⟨g, cap, cur, rfl, Nat.le_trans hN hg, rest⟩
 have two : ∀ b, r.blk = some b → (N ≤ b ∨ b ∈ X) → (N' ≤ b ∨ b ∈ X') := fun b hb h => h.elim (fun h => .inl (Nat.le_trans hN h)) (hX b hb)
 cases r with
 | dat v d => exact h
 | box g e cs => exact ⟨h.1, two g rfl h.2⟩
 | num v e k zs => exact low h
 | row v e mm rows => obtain ⟨cs, h1, h2⟩ := h; exact ⟨cs, low h1, h2⟩
 | rowC v e mm rows cs => exact ⟨low h.1, h.2⟩
 | seg v e mm rows => exact ⟨h.1, fun b hb => two b hb (h.2 b hb)⟩
 | cel b o vs => exact h
 | any g => exact ⟨h.1, two g rfl h.2⟩
 | gone => trivial
theorem MemOk.back (m : MemOk X w0 M w) {ps : List (Nat × Nat)} {L : Mm} {w' : World} (m' : MemOk (cxM X M w (renM M ps)) w L w') (qs : List (Nat × Nat)) (hq : (qs.all fun p => qs.all fun q => !(p.2 == q.2) || p.1 == q.1) = true) : MemOk X w0 (renM L qs ++ dropM M (ps.map (·.2))) w' := by
 -- the blocks that the call might write
 have hbad : ∀ b, b ∈ ownL (renM M ps) → ∃ j r, j ∈ ps.map (·.2) ∧ lk M j = some r ∧ r.blk = some b := fun b hb => by
   obtain ⟨i, j, r, h1, h2, h3⟩ := ownL_ren hb
   exact ⟨j, r, List.mem_map.2 ⟨(i, j), h1, rfl⟩, h2, h3⟩
 have hbadX : ∀ b, b ∈ ownL (renM M ps) → b < w.heap.size ∧ (w0.heap.size ≤ b ∨ b ∈ X.bad) := fun b hb => by
   obtain ⟨j, r, _, h2, h3⟩ := hbad b hb
   exact Res.blk_lt (m.ok j r h2) h3
 have hcase : ∀ i r, lk (renM L qs ++ dropM M (ps.map (·.2))) i = some r → (∃ j, (i, j) ∈ qs ∧ lk L j = some r) ∨ (i ∉ ps.map (·.2) ∧ lk M i = some r) := fun i r h => by
   rw [lk_app] at h
   cases hr : lk (renM L qs) i with
   | some r' =>
     rw [hr] at h
     injection h with h; subst h
     exact .inl (renM_out hr)
   | none =>
     rw [hr] at h
     exact .inr (dropM_lk h)
 have hnew : ∀ j r b, lk L j = some r → r.blk = some b → w.heap.size ≤ b ∨ b ∈ ownL (renM M ps) := fun j r b h1 h2 => (Res.blk_lt (m'.ok j r h1) h2).2
 have hold : ∀ i r b, i ∉ ps.map (·.2) → lk M i = some r → r.blk = some b → b < w.heap.size ∧ b ∉ ownL (renM M ps) := fun i r b h1 h2 h3 => by
   refine ⟨(Res.blk_lt (m.ok i r h2) h3).1, fun hb => ?_⟩
   obtain ⟨j, s, h4, h5, h6⟩ := hbad b hb
   obtain rfl := m.sep i j r s b h2 h5 h3 h6
   exact h1 h4
 have hsame : ∀ b, b < w.heap.size → b ∉ ownL (renM M ps) → w'.heap[b]? = w.heap[b]? := fun b hb hn => m'.keep.2.2.2.2 b hb hn
 have hfree : ∀ b, b < w.heap.size → Free X M b → Free X (renM L qs ++ dropM M (ps.map (·.2))) b := fun b hb hF => by
   refine ⟨hF.1, ?_⟩
   rintro ⟨i, r, hi, hr⟩
   rcases hcase i r hi with ⟨j, _, h2⟩ | ⟨_, h2⟩
   · rcases hnew j r b h2 hr with h | h
     · omega
     · obtain ⟨j', s, _, h5, h6⟩ := hbad b h
       exact hF.2 ⟨j', s, h5, h6⟩
   · exact hF.2 ⟨i, r, h2, hr⟩
 have hnb : ∀ b, b < w.heap.size → Free X M b → b ∉ ownL (renM M ps) := fun b hb hF h => by
   obtain ⟨j', s, _, h5, h6⟩ := hbad b h
   exact hF.2 ⟨j', s, h5, h6⟩
 refine ⟨⟨m'.keep.1.trans m.keep.1, m'.keep.2.1.trans m.keep.2.1, m'.keep.2.2.1.trans m.keep.2.2.1, Nat.le_trans m.keep.size m'.keep.size, fun b hb hn => ?_⟩, m.fresh, fun i r hi => ?_, fun i j r s b hi hj hr hs => ?_⟩
 · rw [hsame b (Nat.lt_of_lt_of_le hb m.keep.size) (fun h => (hbadX b h).2.elim (fun h => by omega) hn)]
   exact m.keep.2.2.2.2 b hb hn
 · rcases hcase i r hi with ⟨j, h1, h2⟩ | ⟨h1, h2⟩
   · have h3 := m'.ok j r h2
     have h4 : r.ok w0.heap.size X.bad (Free (cxM X M w (renM M ps)) L) w' := Res.ok_low h3 m.keep.size (fun b _ hb => (hbadX b hb).2)
     refine Res.ok_mono h4 (Nat.le_refl _) (fun b hb hF => ⟨rfl, ?_⟩) (fun _ _ => rfl)
     by_cases hbw : b < w.heap.size
     · exact hfree b hbw (hF.1 hbw)
     · refine ⟨m.fresh b (by have := m.keep.size; omega), ?_⟩
       rintro ⟨i', r', hi', hr'⟩
       rcases hcase i' r' hi' with ⟨j', _, h6⟩ | ⟨h5, h6⟩
       · exact hF.2 ⟨j', r', h6, hr'⟩
       · have := (hold i' r' b h5 h6 hr').1; omega
   · exact Res.ok_mono (m.ok i r h2) m'.keep.size (fun b hb hF => ⟨hsame b hb (hnb b hb hF), hfree b hb hF⟩) (fun b hb => hsame b (hold i r b h1 h2 hb).1 (hold i r b h1 h2 hb).2)
 · rcases hcase i r hi with ⟨i', a1, a2⟩ | ⟨a1, a2⟩ <;> rcases hcase j s hj with ⟨j', b1, b2⟩ | ⟨b1, b2⟩
   · obtain rfl := m'.sep i' j' r s b a2 b2 hr hs
     rw [List.all_eq_true] at hq
     have h3 := hq _ a1
     rw [List.all_eq_true] at h3
     have h4 := h3 _ b1
     simpa using h4
   · exfalso
     have h1 := hold j s b b1 b2 hs
     rcases hnew i' r b a2 hr with h | h
     · omega
     · exact h1.2 h
   · exfalso
     have h1 := hold i r b a1 a2 hr
     rcases hnew j' s b b2 hs with h | h
     · omega
     · exact h1.2 h
   · exact m.sep i j r s b a2 b2 hr hs
end
end Go.Proofs.Ytocfbocdnklllaa.K
