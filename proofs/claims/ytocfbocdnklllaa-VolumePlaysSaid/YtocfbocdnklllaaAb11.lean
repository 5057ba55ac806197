/- append of many bytes; a slice of one's own as a source. For any program. -/
import Derived.Test.YtocfbocdnklllaaAb10
namespace Go.Proofs.Ytocfbocdnklllaa.K
open Go.ChangeShapes Go.WideShapes Go.ChangeAt Go.RowKit
set_option linter.unusedVariables false
set_option linter.unusedSimpArgs false

theorem run_appM {P : Program} {w : World} (base : Nat) (t ty e : TypeId) (k : IntKind) (bytes : Nat) (ht : P.underlying t = some (.slice e)) (hinf : (P.info? e).map (fun i => (i.zero, i.size, i.bytes)) = some (some (.int k 0), 1, bytes))
   (u : Value) (zs : List Int) (hu : IsNums k w u zs) (hn : zs.length ≤ maxLen) (hbn : zs.length * bytes ≤ 140737488355328) (hbase : base ≤ w.heap.size) :
   ∃ v' w', (Builtin.append_ #[t, t] ty #[.slice none 0 0, u]).run P w = .ok v' w' ∧ w'.ownsRow base e 1 v' zs.length (zs.map (Value.int k)) ∧ w.grownBy w' none ∧ (v'.ownBlock = none ∨ v'.ownBlock = some w.heap.size) := by
 obtain ⟨p, c, rfl, hp⟩ := hu
 have hown : w.ownsRow base e 1 (.slice none 0 0) 0 [] := World.ownsRow_nil _ _ _ _
 have main : ∀ ad : Addr, p = some ad → (∀ j v, (zs.map (Value.int k))[j]? = some v → w.cell? (ad.add j) = some v) → ∃ v' w', (Builtin.append_ #[t, t] ty #[.slice none 0 0, .slice p zs.length c]).run P w = .ok v' w' ∧ w'.ownsRow base e 1 v' zs.length (zs.map (Value.int k)) ∧ w.grownBy w' none ∧ (v'.ownBlock = none ∨ v'.ownBlock = some w.heap.size) := by
   intro ad hpa hcells
   rw [hpa]
   have := run_append_where (P := P) w base t ty e (.int k 0) 1 bytes ht hinf rfl (by decide) (.slice none 0 0) 0 [] hown ad zs.length c (zs.map (Value.int k)) (by simp) hcells (by intro u hu; obtain ⟨y, _, rfl⟩ := List.mem_map.1 hu; rfl) (by omega) (by rw [Nat.zero_add]; exact hbn) hbase
   simpa [Value.ownBlock] using this
 by_cases h0 : zs.length = 0
 · obtain rfl := List.length_eq_zero_iff.1 h0
   cases p with
   | none =>
     obtain ⟨i0, hi, -⟩ := info_parts hinf
     exact ⟨.slice none 0 0, w, run_app_none ht hi hown c, by simpa using hown, ⟨rfl, rfl, rfl, Nat.le_refl _, fun _ _ _ => rfl⟩, .inl rfl⟩
   | some ad => exact main ad rfl (by simp)
 · rcases hp with hp | ⟨b, off, rfl, hblk, hc⟩
   · exact absurd hp h0
   · refine main _ rfl ?_
     intro j u hj
     have hjn : j < zs.length := by
       have := (List.getElem?_eq_some_iff.1 hj).1
       simpa using this
     rw [Addr.add_lit, hc j hjn]
     simp [hjn] at hj
     subst hj
     simp [List.getD, hjn]
section
variable {P : Program} {n : Nat} {T : List (Nat × Value)} {a : Act} {w w0 : World} {X : Cx} {M : Mm} {tt : TypeId} {pos : String} {af : Array Edge} {gd : Option (Nat × Bool)} {Q : Exit → Act → World → Prop} {K : Act → World → Prop}
theorem e_app0M (ha : Has n T a) (m : MemOk X w0 M w) (i : Nat) {d : Tmp} {t e : TypeId} {k : IntKind} {bytes : Nat} {s x : Operand} {u : Value} {zs : List Int} (hs : evT T s = some (.slice none 0 0)) (hx : evT T x = some u) (hu : IsNums k w u zs)
   (ht : P.underlying t = some (.slice e)) (hinf : (P.info? e).map (fun i => (i.zero, i.size, i.bytes)) = some (some (.int k 0), 1, bytes)) (hb8 : 1 ≤ bytes) (hn : zs.length * bytes ≤ 140737488355328) (hd : Nat.blt d n = true)
   (h : ∀ p c a' w', Has n ((d, .slice p zs.length c) :: T) a' → MemOk X w0 ((i, .num (.slice p zs.length c) e k zs) :: M) w' → K a' w') : Oper.wp P ⟨some d, .call { callee := .builtin .append, args := #[s, x], argTypes := #[t, t] }, tt, pos, af, gd⟩ a w K Q := by
 have hle : zs.length ≤ zs.length * bytes := Nat.le_mul_of_pos_right _ hb8
 obtain ⟨v', w', hr, h1, h2, h3⟩ := run_appM (P := P) w0.heap.size t tt e k bytes ht hinf u zs hu (by unfold maxLen; omega) hn m.keep.size
 have hm' : MemOk X w0 ((i, .num v' e k zs) :: M) w' := m.upd i _ ((keep_grown (v := .slice none 0 0) h2).mono (fun b e => by cases e)) (fun b hb => by
   rcases h3 with e1 | e1
   · rw [show (Res.num v' e k zs).blk = v'.ownBlock from rfl, e1] at hb; cases hb
   · have : some w.heap.size = some b := e1.symm.trans hb
     injection this with this; right; omega) (fun _ _ => h1)
 obtain ⟨p, c, e1⟩ := ownsRow_shape h1
 have hrun : (execOp a.eval ⟨some d, .call { callee := .builtin .append, args := #[s, x], argTypes := #[t, t] }, tt, pos, af, gd⟩).run P w = .ok (.value v') w' := by
   simp only [execOp, resolve, invoke, builtin, Sem.run_bind, Sem.run_pure, Result.andThen_ok, List.map_toArray, List.map_cons, List.map_nil, ha.ev hs, ha.ev hx, hr]
 show Oper.upon P _ a K Q _
 rw [hrun]
 subst e1
 exact h p c _ _ (ha.put hd _) hm'
end
theorem SegOk.src {S : Nat → Prop} {w : World} {v : Value} {e : TypeId} {mm : Nat} {rows : List (List D)} (h : SegOk S w v e mm rows) : SrcOk S w v mm rows := by
 obtain ⟨cs, h1, h2, h3, h4, h5⟩ := h
 rcases h1.2 with ⟨e1, h0⟩ | ⟨g, off, cap, cur, e1, hg, hbk, hcap, h7, h8, h9⟩
 · exact ⟨none, 0, cs, by rw [e1, h0], h2, h3, h4, h5, .inl h0⟩
 · refine ⟨_, cap, cs, e1, h2, h3, h4, h5, .inr ⟨_, rfl, fun j u hj => ?_⟩⟩
   have hjl : j < rows.length * mm := by rw [← h1.1]; exact (List.getElem?_eq_some_iff.1 hj).1
   have := h1.cellAt e1 j hjl
   rw [Addr.add_mid, this, hj]
theorem MemOk.srcS {w w0 : World} {X : Cx} {M : Mm} (m : MemOk X w0 M w) {i : Nat} {v : Value} {e : TypeId} {mm : Nat} {rows : List (List D)} (hm : lk M i = some (.seg v e mm rows)) : SrcOk (Free X M) w v mm rows := (m.ok i _ hm).1.src
end Go.Proofs.Ytocfbocdnklllaa.K
