/- More steps: append to nothing, slices by natural numbers. For any program. -/
import Derived.Test.YtocfbocdnklllaaAb6
namespace Go.Proofs.Ytocfbocdnklllaa.K
open Go.ChangeShapes Go.WideShapes Go.ChangeAt Go.RowKit
set_option linter.unusedVariables false

def xor8 (a b : Int) : Int := IntKind.u8.wrap (BitVec.ofInt IntKind.u8.bits a ^^^ BitVec.ofInt IntKind.u8.bits b).toNat
theorem wrap_u8 (z : Int) : 0 ≤ IntKind.u8.wrap z ∧ IntKind.u8.wrap z ≤ 255 := by
 have e : IntKind.u8.wrap z = z % 256 := by simp [IntKind.wrap, IntKind.signed, IntKind.bits]
 rw [e]; omega
theorem NumsS.blk {S : Nat → Prop} {k : IntKind} {w : World} {p : Option Addr} {l c : Nat} {zs : List Int} (h : NumsS S k w (.slice p l c) zs) : zs.length = 0 ∨ ∃ b o, p = some ⟨b, o, none⟩ ∧ b < w.heap.size := by
 obtain ⟨a, c', e, hc, h0 | ⟨b, off, rfl, h1, h2, h3⟩⟩ := h
 · exact .inl h0
 · injection e with e1; exact .inr ⟨b, off, e1, h2⟩
theorem NumsS.cap {S : Nat → Prop} {k : IntKind} {w : World} {p : Option Addr} {l c : Nat} {zs : List Int} (h : NumsS S k w (.slice p l c) zs) : zs.length ≤ c ∧ c ≤ maxLen := by
 obtain ⟨a, c', e, hc, -⟩ := h
 injection e with e1 e2 e3; subst e3; exact hc
theorem NumsS.ofRow {k : IntKind} {w : World} {a : Option Addr} {len cap : Nat} {zs : List Int}
   (h : (a = none ∧ len = 0 ∧ cap = 0 ∧ zs = []) ∨ ∃ x, a = some x ∧ len ≤ cap ∧ cap ≤ maxLen ∧ zs.length = cap ∧ (∀ i, i < zs.length → w.cell? (x.add i) = some (.int k (zs.getD i 0))) ∧ ∀ n ∈ zs, (Lit.int k n).wf = true) :
   ∃ ys, Rd (fun _ => True) w (.slice a ys.length cap) (.ns k ys) ∧ ys.length = len ∧ ∀ n ∈ ys, (Lit.int k n).wf = true := by
 have hl : len ≤ cap ∧ cap ≤ maxLen := by
   rcases h with ⟨rfl, rfl, rfl, rfl⟩ | ⟨x, -, h1, h2, -⟩
   · exact ⟨Nat.le_refl _, Nat.zero_le _⟩
   · exact ⟨h1, h2⟩
 obtain ⟨ys, hn, e, -, hw⟩ := IsNums.ofRow h
 refine ⟨ys, .ns ?_, e, hw⟩
 subst e
 obtain ⟨p, c, e1, hz⟩ := hn
 injection e1 with e1 _ e3
 subst e1; subst e3
 refine ⟨_, _, rfl, hl, ?_⟩
 rcases hz with hz | ⟨b, off, e2, h1, h2⟩
 · exact .inl hz
 · exact .inr ⟨b, off, e2, trivial, h1, h2⟩

section
variable {P : Program} {n : Nat} {T : List (Nat × Value)} {a : Act} {w w0 : World} {X : Cx} {M : Mm} {tt : TypeId} {pos : String} {af : Array Edge} {gd : Option (Nat × Bool)} {Q : Exit → Act → World → Prop} {K : Act → World → Prop}
theorem e_app0N (ha : Has n T a) (m : MemOk X w0 M w) (i : Nat) {d : Tmp} {t e : TypeId} {k : IntKind} {bytes : Nat} {s x : Operand} {u : Value} {zs : List Int} (hs : evT T s = some (.slice none 0 0)) (hx : evT T x = some u) (hu : IsNums k w u zs)
   (ht : P.underlying t = some (.slice e)) (hinf : (P.info? e).map (fun i => (i.zero, i.size, i.bytes)) = some (some (.int k 0), 1, bytes)) (hb8 : bytes ≤ 8) (hn : zs.length ≤ 1000000000) (hd : Nat.blt d n = true)
   (h : ∀ p c a' w', Has n ((d, .slice p zs.length c) :: T) a' → MemOk X w0 ((i, .num (.slice p zs.length c) e k zs) :: M) w' → K a' w') : Oper.wp P ⟨some d, .call { callee := .builtin .append, args := #[s, x], argTypes := #[t, t] }, tt, pos, af, gd⟩ a w K Q := by
 obtain ⟨v', w', hr, h1, h2, h3⟩ := run_appS (P := P) w0.heap.size t tt e k bytes ht hinf hb8 (.slice none 0 0) [] (World.ownsRow_nil _ _ _ _) u zs hu (by simpa using hn) m.keep.size
 rw [List.nil_append] at h1
 have hm' : MemOk X w0 ((i, .num v' e k zs) :: M) w' := m.upd i _ ((keep_grown h2).mono (fun b e => by cases e)) (fun b hb => by
   rcases h3 with e1 | e1
   · rw [show (Res.num v' e k zs).blk = v'.ownBlock from rfl, e1] at hb; cases hb
   · have : some w.heap.size = some b := e1.symm.trans hb
     injection this with this; right; omega) (fun _ _ => h1)
 obtain ⟨p, c, e1⟩ := ownsRow_shape h1
 have hrun : (execOp a.eval ⟨some d, .call { callee := .builtin .append, args := #[s, x], argTypes := #[t, t] }, tt, pos, af, gd⟩).run P w = .ok (.value v') w' := by
   simp only [execOp, resolve, invoke, builtin, Sem.run_bind, Sem.run_pure, Result.andThen_ok, List.map_toArray, List.map_cons, List.map_nil, ha.ev hs, ha.ev hx, hr]
 show Oper.upon P _ a K Q _
 rw [hrun]
 subst e1
 exact h p c _ _ (ha.put hd _) hm'
variable {d : Option Tmp}
theorem y_sliceHn (h : Has n T a) {t e : TypeId} {x y : Operand} {p : Option Addr} {l c : Nat} {k : IntKind} {q : Int} (j : Nat) (hx : evT T x = some (.slice p l c)) (hy : evT T y = some (.int k q)) (hu : P.underlying t = some (.slice e)) {s : Nat} (hs : (P.info? e).map (·.size) = some s) (hq : q = j) (h1 : j ≤ c) : Yl P a w ⟨d, .slice t x none (some y) none, tt, pos, af, gd⟩ (.slice p j c) := by
 subst hq
 have := y_sliceH (P := P) (w := w) (tt := tt) (pos := pos) (af := af) (gd := gd) (d := d) h hx hy hu hs (by omega) (by omega)
 rwa [Int.toNat_natCast] at this
theorem y_sliceLn (h : Has n T a) {t e : TypeId} {x y : Operand} {p : Option Addr} {l c : Nat} {k : IntKind} {q : Int} (j : Nat) (hx : evT T x = some (.slice p l c)) (hy : evT T y = some (.int k q)) (hu : P.underlying t = some (.slice e)) {s : Nat} (hs : (P.info? e).map (·.size) = some s) (hq : q = j) (h1 : j ≤ l) : Yl P a w ⟨d, .slice t x (some y) none none, tt, pos, af, gd⟩ (.slice (if c = j then p else p.map (·.add (j * s))) (l - j) (c - j)) := by
 subst hq
 have := y_sliceL (P := P) (w := w) (tt := tt) (pos := pos) (af := af) (gd := gd) (d := d) h hx hy hu hs (by omega) (by omega)
 rwa [Int.toNat_natCast] at this
theorem MemOk.takeN (m : MemOk X w0 M w) {i : Nat} {p : Option Addr} {l c : Nat} {k : IntKind} {zs : List Int} (hm : lk M i = some (.dat (.slice p l c) (.ns k zs))) (j : Nat) (hj : j ≤ zs.length) (i2 : Nat) (hi2 : lk M i2 = none) : MemOk X w0 ((i2, .dat (.slice p j c) (.ns k (zs.take j))) :: M) w :=
 m.dat i2 hi2 (.ns ((m.rd hm).ns_out.take j hj))
end
section
variable {P : Program} {n : Nat} {T : List (Nat × Value)} {a : Act} {w w0 : World} {X : Cx} {M : Mm} {tt : TypeId} {pos : String} {af : Array Edge} {gd : Option (Nat × Bool)}
theorem MemOk.openC (m : MemOk X w0 M w) {i : Nat} {p : Option Addr} {l c mm : Nat} {e : TypeId} {rows : List (List D)} (hm : lk M i = some (.row (.slice p l c) e mm rows)) (h0 : 0 < rows.length) : ∃ g cs, p = some ⟨g, 0, none⟩ ∧ MemOk X w0 ((i, .rowC (.slice p l c) e mm rows cs) :: M) w := by
 obtain ⟨cs, hc⟩ := m.ok i _ hm
 have hown := hc.1
 rcases hown.2 with ⟨e1, h1⟩ | ⟨g, cap, cur, e1, rest⟩
 · omega
 · injection e1 with e1 e2 e3
   exact ⟨g, cs, e1, m.upd i _ (Keep.refl _ _) (fun b hb => .inl ⟨_, hm, hb⟩) (fun h1 _ => ⟨hc.1, hc.2.1, hc.2.2.1, hc.2.2.2.1, fun j q c r x d a1 a2 a3 a4 => (hc.2.2.2.2 j q c r x d a1 a2 a3 a4).mono (Nat.le_refl _) (fun b hlt hS => ⟨rfl, h1 b hlt hS⟩)⟩)⟩
end
def renM (M : Mm) : List (Nat × Nat) → Mm
 | [] => []
 | (i, j) :: t => match lk M j with
   | some r => (i, r) :: renM M t
   | none => renM M t
theorem renM_out {M : Mm} : ∀ {ps : List (Nat × Nat)} {i : Nat} {r : Res}, lk (renM M ps) i = some r → ∃ j, (i, j) ∈ ps ∧ lk M j = some r
 | [], i, r, h => by cases h
 | (i', j) :: t, i, r, h => by
   rw [renM] at h
   split at h
   · rename_i r' hr
     rw [lk_cons] at h
     split at h
     · rename_i e; subst e; cases h; exact ⟨j, List.mem_cons_self, hr⟩
     · obtain ⟨j', h1, h2⟩ := renM_out h; exact ⟨j', List.mem_cons_of_mem _ h1, h2⟩
   · obtain ⟨j', h1, h2⟩ := renM_out h; exact ⟨j', List.mem_cons_of_mem _ h1, h2⟩
theorem MemOk.ren {X : Cx} {w0 w : World} {M : Mm} (m : MemOk X w0 M w) (ps : List (Nat × Nat)) (hp : (ps.all fun p => ps.all fun q => !(p.2 == q.2) || p.1 == q.1) = true) : MemOk X w0 (renM M ps) w where
 keep := m.keep
 fresh := m.fresh
 ok i r hi := by
   obtain ⟨j, h1, h2⟩ := renM_out hi
   exact Res.ok_mono (m.ok j r h2) (Nat.le_refl _) (fun b _ hS => ⟨rfl, hS.1, fun ⟨k, s, hk, hs⟩ => by obtain ⟨k', h3, h4⟩ := renM_out hk; exact hS.2 ⟨k', s, h4, hs⟩⟩) (fun _ _ => rfl)
 sep i j r s b h1 h2 hr hs := by
   obtain ⟨i', a1, a2⟩ := renM_out h1
   obtain ⟨j', b1, b2⟩ := renM_out h2
   obtain rfl := m.sep i' j' r s b a2 b2 hr hs
   rw [List.all_eq_true] at hp
   have h3 := hp _ a1
   rw [List.all_eq_true] at h3
   have h4 := h3 _ b1
   simpa using h4
end Go.Proofs.Ytocfbocdnklllaa.K
