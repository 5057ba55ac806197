/- Appending, literals, conversions, parts of slices, the code around. For any program. -/
import Derived.Test.YtocfbocdnklllaaAb3
namespace Go.Proofs.Ytocfbocdnklllaa.K
open Go.ChangeShapes Go.WideShapes Go.ChangeAt Go.RowKit
set_option linter.unusedVariables false

theorem NumsS.nums {S : Nat → Prop} {k : IntKind} {w : World} {v : Value} {zs : List Int} (h : NumsS S k w v zs) : IsNums k w v zs := by
 obtain ⟨a, c, rfl, hc, h0 | ⟨b, off, rfl, h1, h2, h3⟩⟩ := h
 · exact ⟨a, c, rfl, .inl h0⟩
 · exact ⟨_, c, rfl, .inr ⟨b, off, rfl, h2, h3⟩⟩
theorem NumsS.take {S : Nat → Prop} {k : IntKind} {w : World} {p : Option Addr} {l c : Nat} {zs : List Int} (h : NumsS S k w (.slice p l c) zs) (j : Nat) (hj : j ≤ zs.length) : NumsS S k w (.slice p j c) (zs.take j) := by
 obtain ⟨a, c', e, hc, hz⟩ := h
 injection e with e1 e2 e3
 subst e1; subst e3
 have hl : (zs.take j).length = j := by rw [List.length_take]; omega
 refine ⟨_, _, by rw [hl], ⟨by omega, hc.2⟩, ?_⟩
 rcases hz with h0 | ⟨b, off, rfl, h1, h2, h3⟩
 · left; omega
 · refine .inr ⟨b, off, rfl, h1, h2, fun q hq => ?_⟩
   rw [h3 q (by omega)]
   simp [List.getD, List.getElem?_take, show q < j by omega]
theorem NumsS.drop {S : Nat → Prop} {k : IntKind} {w : World} {p : Option Addr} {l c : Nat} {zs : List Int} (h : NumsS S k w (.slice p l c) zs) (j : Nat) (hj : j ≤ zs.length) : NumsS S k w (.slice (if c = j then p else p.map (·.add (j * 1))) (l - j) (c - j)) (zs.drop j) := by
 obtain ⟨a, c', e, hc, hz⟩ := h
 injection e with e1 e2 e3
 subst e1; subst e3; subst e2
 refine ⟨_, _, by rw [List.length_drop], ⟨by rw [List.length_drop]; omega, by omega⟩, ?_⟩
 rcases hz with h0 | ⟨b, off, rfl, h1, h2, h3⟩
 · left; rw [List.length_drop]; omega
 · by_cases he : c = j
   · left; rw [List.length_drop]; omega
   · refine .inr ⟨b, off + j, by rw [if_neg he]; simp [Addr.add_mid], h1, h2, fun q hq => ?_⟩
     rw [List.length_drop] at hq
     rw [Nat.add_assoc, h3 (j + q) (by omega)]
     simp [List.getD, List.getElem?_drop]

theorem Rd.cells {S : Nat → Prop} {w : World} {u : Value} {mm : Nat} {rows : List (List D)} (h : Rd S w u (.l mm rows)) : ∃ (p : Option Addr) (c : Nat) (cs : List (List Value)), u = .slice p rows.length c ∧ cs.length = rows.length ∧ (∀ c ∈ cs, c.length = mm ∧ ∀ x ∈ c, x.oneCell' = true) ∧ (∀ r ∈ rows, r.length = mm) ∧
   (∀ (j q : Nat) (c : List Value) (r : List D) (x : Value) (d : D), cs[j]? = some c → rows[j]? = some r → c[q]? = some x → r[q]? = some d → Rd S w x d) ∧ (rows.length = 0 ∨ ∃ ad, p = some ad ∧ ∀ j u, cs.flatten[j]? = some u → w.cell? (ad.add j) = some u) := by
 cases h with
 | l0 a c m => exact ⟨a, c, [], rfl, rfl, by simp, by simp, by simp, .inl rfl⟩
 | l m b off c rows f hS hb hc hm hcell hr =>
   have hin : ∀ c ∈ (List.range rows.length).map (fun j => (List.range mm).map (f j)), c.length = mm ∧ ∀ x ∈ c, x.oneCell' = true := by
     intro c hc'
     obtain ⟨j, hj, rfl⟩ := List.mem_map.1 hc'
     refine ⟨by simp, fun x hx => ?_⟩
     obtain ⟨q, hq, rfl⟩ := List.mem_map.1 hx
     exact (hcell j q (List.mem_range.1 hj) (List.mem_range.1 hq)).2
   refine ⟨_, c, (List.range rows.length).map (fun j => (List.range mm).map (f j)), rfl, by simp, hin, hm, fun j q c r x d a1 a2 a3 a4 => ?_, .inr ⟨_, rfl, fun j u hj => ?_⟩⟩
   · have hj := (List.getElem?_eq_some_iff.1 a2).1
     have hc1 : c = (List.range mm).map (f j) := by simpa [hj] using a1.symm
     subst hc1
     have hq : q < mm := by have := (List.getElem?_eq_some_iff.1 a3).1; simpa using this
     have hx : x = f j q := by simpa [hq] using a3.symm
     subst hx
     exact hr j q r d a2 a4
   · have hjl := (List.getElem?_eq_some_iff.1 hj).1
     have hfl : ((List.range rows.length).map (fun j => (List.range mm).map (f j))).flatten.length = rows.length * mm := by
       rw [← List.flatMap_id, parts_len id mm _ (fun c hc => (hin c hc).1)]; simp
     rw [hfl] at hjl
     have hm0 : 0 < mm := Nat.pos_of_ne_zero (fun e => by subst e; simp at hjl)
     have hd : j / mm < rows.length := Nat.div_lt_of_lt_mul (by rw [Nat.mul_comm]; exact hjl)
     have hr' : j % mm < mm := Nat.mod_lt _ hm0
     have hjj : j / mm * mm + j % mm = j := by rw [Nat.mul_comm]; exact Nat.div_add_mod j mm
     have hf := flatten_at ((List.range rows.length).map (fun j => (List.range mm).map (f j))) (j / mm) (j % mm) ((List.range mm).map (f (j / mm))) (fun c hc => (hin c hc).1) (by simp [hd]) hr'
     rw [hjj, hj] at hf
     have hu : u = f (j / mm) (j % mm) := by simpa [hr'] using hf
     subst hu
     rw [Addr.add_mid, ← (hcell (j / mm) (j % mm) hd hr').1]
     congr 2
     omega

section
variable {P : Program} {n : Nat} {T : List (Nat × Value)} {a : Act} {w w0 : World} {X : Cx} {M : Mm} {tt : TypeId} {pos : String} {af : Array Edge} {gd : Option (Nat × Bool)} {ops : Array Oper} {rest : List Oper} {Q : Exit → Act → World → Prop} {K : Act → World → Prop}
theorem MemOk.nums (m : MemOk X w0 M w) {i : Nat} {v : Value} {k : IntKind} {zs : List Int} (hm : lk M i = some (.dat v (.ns k zs))) : IsNums k w v zs := (m.ok i _ hm).ns_out.nums
theorem MemOk.numsO (m : MemOk X w0 M w) {i : Nat} {v : Value} {e : TypeId} {k : IntKind} {zs : List Int} (hm : lk M i = some (.num v e k zs)) : IsNums k w v zs := IsNums.ofOwn (m.ok i _ hm)
theorem run_appS {w : World} (base : Nat) (t ty e : TypeId) (k : IntKind) (bytes : Nat) (ht : P.underlying t = some (.slice e)) (hinf : (P.info? e).map (fun i => (i.zero, i.size, i.bytes)) = some (some (.int k 0), 1, bytes)) (hb8 : bytes ≤ 8)
   (v : Value) (xs : List Int) (hown : w.ownsRow base e 1 v xs.length (xs.map (Value.int k))) (u : Value) (zs : List Int) (hu : IsNums k w u zs) (hn : xs.length + zs.length ≤ 1000000000) (hbase : base ≤ w.heap.size) :
   ∃ v' w', (Builtin.append_ #[t, t] ty #[v, u]).run P w = .ok v' w' ∧ w'.ownsRow base e 1 v' (xs ++ zs).length ((xs ++ zs).map (Value.int k)) ∧ w.grownBy w' v.ownBlock ∧ (v'.ownBlock = v.ownBlock ∨ v'.ownBlock = some w.heap.size) := by
 have hbn : (xs.length + zs.length) * bytes ≤ 140737488355328 := Nat.le_trans (Nat.mul_le_mul_left _ hb8) (by omega)
 obtain ⟨p, c, rfl, hp⟩ := hu
 rw [List.length_append, List.map_append]
 have main : ∀ ad : Addr, p = some ad → (∀ j v, (zs.map (Value.int k))[j]? = some v → w.cell? (ad.add j) = some v) → ∃ v' w', (Builtin.append_ #[t, t] ty #[v, .slice p zs.length c]).run P w = .ok v' w' ∧ w'.ownsRow base e 1 v' (xs.length + zs.length) (xs.map (Value.int k) ++ zs.map (Value.int k)) ∧ w.grownBy w' v.ownBlock ∧ (v'.ownBlock = v.ownBlock ∨ v'.ownBlock = some w.heap.size) := by
   intro ad hpa hcells
   rw [hpa]
   exact run_append_where (P := P) w base t ty e (.int k 0) 1 bytes ht hinf rfl (by decide) v xs.length _ hown ad zs.length c (zs.map (Value.int k)) (by simp) hcells (by intro u hu; obtain ⟨y, _, rfl⟩ := List.mem_map.1 hu; rfl) (by unfold maxLen; omega) hbn hbase
 by_cases h0 : zs.length = 0
 · obtain rfl := List.length_eq_zero_iff.1 h0
   cases p with
   | none =>
     obtain ⟨i0, hi, -⟩ := info_parts hinf
     refine ⟨v, w, run_app_none ht hi hown c, by simpa using hown, ⟨rfl, rfl, rfl, Nat.le_refl _, fun _ _ _ => rfl⟩, .inl rfl⟩
   | some ad => exact main ad rfl (by simp)
 · rcases hp with hp | ⟨b, off, rfl, hblk, hc⟩
   · exact absurd hp h0
   · refine main _ rfl ?_
     intro j u hj
     have hjn : j < zs.length := by
       have := (List.getElem?_eq_some_iff.1 hj).1
       simpa using this
     rw [Addr.add_lit, hc j hjn]
     simp [hjn] at hj
     subst hj
     simp [List.getD, hjn]
theorem keep_grown {w w' : World} {v : Value} (hg : w.grownBy w' v.ownBlock) : Keep (fun b => v.ownBlock = some b) w w' := ⟨hg.os, hg.tape, hg.output, hg.size, fun k hk hn => hg.block k hk (fun e => hn e.symm)⟩
theorem e_appN (ha : Has n T a) (m : MemOk X w0 M w) (i : Nat) {d : Tmp} {t e : TypeId} {k : IntKind} {bytes : Nat} {s x : Operand} {v u : Value} {xs zs : List Int} (hm : lk M i = some (.num v e k xs)) (hs : evT T s = some v) (hx : evT T x = some u) (hu : IsNums k w u zs)
   (ht : P.underlying t = some (.slice e)) (hinf : (P.info? e).map (fun i => (i.zero, i.size, i.bytes)) = some (some (.int k 0), 1, bytes)) (hb8 : bytes ≤ 8) (hn : xs.length + zs.length ≤ 1000000000) (hd : Nat.blt d n = true)
   (h : ∀ p c a' w', Has n ((d, .slice p (xs ++ zs).length c) :: T) a' → MemOk X w0 ((i, .num (.slice p (xs ++ zs).length c) e k (xs ++ zs)) :: M) w' → K a' w') : Oper.wp P ⟨some d, .call { callee := .builtin .append, args := #[s, x], argTypes := #[t, t] }, tt, pos, af, gd⟩ a w K Q := by
 obtain ⟨v', w', hr, h1, h2, h3⟩ := run_appS (P := P) w0.heap.size t tt e k bytes ht hinf hb8 v xs (m.ok i _ hm) u zs hu hn m.keep.size
 have hm' : MemOk X w0 ((i, .num v' e k (xs ++ zs)) :: M) w' := m.upd i _ ((keep_grown h2).mono (fun b e => ⟨_, hm, e⟩)) (fun b hb => by
   rcases h3 with e1 | e1
   · exact .inl ⟨_, hm, e1.symm.trans hb⟩
   · have : some w.heap.size = some b := e1.symm.trans hb
     injection this with this; right; omega) (fun _ _ => h1)
 obtain ⟨p, c, e1⟩ := ownsRow_shape h1
 have hrun : (execOp a.eval ⟨some d, .call { callee := .builtin .append, args := #[s, x], argTypes := #[t, t] }, tt, pos, af, gd⟩).run P w = .ok (.value v') w' := by
   simp only [execOp, resolve, invoke, builtin, Sem.run_bind, Sem.run_pure, Result.andThen_ok, List.map_toArray, List.map_cons, List.map_nil, ha.ev hs, ha.ev hx, hr]
 show Oper.upon P _ a K Q _
 rw [hrun]
 subst e1
 exact h p c _ _ (ha.put hd _) hm'
theorem e_appR (ha : Has n T a) (m : MemOk X w0 M w) (i : Nat) {d : Tmp} {t e : TypeId} {mm bytes : Nat} {z : Value} {s x : Operand} {v u : Value} {xs zs : List (List D)} (hm : lk M i = some (.row v e mm xs)) (hs : evT T s = some v) (hx : evT T x = some u) (hu : Rd (Free X M) w u (.l mm zs))
   (ht : P.underlying t = some (.slice e)) (hinf : (P.info? e).map (fun i => (i.zero, i.size, i.bytes)) = some (some z, mm, bytes)) (hz : z.cells.size = mm) (h0 : Nat.blt 0 mm = true) (hb8 : bytes ≤ 1000) (hn : xs.length + zs.length ≤ 100000000) (hd : Nat.blt d n = true)
   (h : ∀ p c a' w', Has n ((d, .slice p (xs ++ zs).length c) :: T) a' → MemOk X w0 ((i, .row (.slice p (xs ++ zs).length c) e mm (xs ++ zs)) :: M) w' → K a' w') : Oper.wp P ⟨some d, .call { callee := .builtin .append, args := #[s, x], argTypes := #[t, t] }, tt, pos, af, gd⟩ a w K Q := by
 obtain ⟨cs, hown, hcl, hc1, hxm, hcr⟩ := m.ok i _ hm
 obtain ⟨pu, cu, cz, rfl, hzl, hz1, hzm, hzr, hzp⟩ := hu.cells
 have h0' : 0 < mm := by simpa using h0
 have hbn : (xs.length + zs.length) * bytes ≤ 140737488355328 := Nat.le_trans (Nat.mul_le_mul_left _ hb8) (by omega)
 have hfl : cz.flatten.length = zs.length * mm := by rw [← List.flatMap_id, parts_len id mm _ (fun c hc => (hz1 c hc).1), hzl]
 have hrun0 : ∃ v' w', (Builtin.append_ #[t, t] tt #[v, .slice pu zs.length cu]).run P w = .ok v' w' ∧ w'.ownsRow w0.heap.size e mm v' (xs.length + zs.length) (cs.flatten ++ cz.flatten) ∧ w.grownBy w' v.ownBlock ∧ (v'.ownBlock = v.ownBlock ∨ v'.ownBlock = some w.heap.size) := by
   have main : ∀ ad : Addr, pu = some ad → (∀ j u, cz.flatten[j]? = some u → w.cell? (ad.add j) = some u) → ∃ v' w', (Builtin.append_ #[t, t] tt #[v, .slice pu zs.length cu]).run P w = .ok v' w' ∧ w'.ownsRow w0.heap.size e mm v' (xs.length + zs.length) (cs.flatten ++ cz.flatten) ∧ w.grownBy w' v.ownBlock ∧ (v'.ownBlock = v.ownBlock ∨ v'.ownBlock = some w.heap.size) := by
     intro ad hpa hcells
     rw [hpa]
     exact run_append_where (P := P) w w0.heap.size t tt e z mm bytes ht hinf hz h0' v xs.length _ hown ad zs.length cu cz.flatten hfl hcells (fun u hu => by obtain ⟨c, hc, hx⟩ := List.mem_flatten.1 hu; exact (hz1 c hc).2 u hx) (by unfold maxLen; omega) hbn m.keep.size
   rcases hzp with h9 | ⟨ad, e1, e2⟩
   · obtain rfl := List.length_eq_zero_iff.1 h9
     obtain rfl : cz = [] := List.length_eq_zero_iff.1 (by simpa using hzl)
     cases pu with
     | none =>
       obtain ⟨i0, hi, -⟩ := info_parts hinf
       refine ⟨v, w, run_app_none ht hi hown cu, by simpa using hown, ⟨rfl, rfl, rfl, Nat.le_refl _, fun _ _ _ => rfl⟩, .inl rfl⟩
     | some ad => exact main ad rfl (by simp)
   · exact main ad e1 e2
 obtain ⟨v', w', hr, h1, h2, h3⟩ := hrun0
 have hm' : MemOk X w0 ((i, .row v' e mm (xs ++ zs)) :: M) w' := m.upd i _ ((keep_grown h2).mono (fun b e => ⟨_, hm, e⟩)) (fun b hb => by
   rcases h3 with e1 | e1
   · exact .inl ⟨_, hm, e1.symm.trans hb⟩
   · have : some w.heap.size = some b := e1.symm.trans hb
     injection this with this; right; omega) (fun hf _ => by
   refine ⟨cs ++ cz, ?_, by rw [List.length_append, List.length_append, hcl, hzl], ?_, ?_, ?_⟩
   · rw [List.length_append, List.flatten_append]; exact h1
   · intro c hc
     rcases List.mem_append.1 hc with hc | hc
     · exact hc1 c hc
     · exact hz1 c hc
   · intro r hr
     rcases List.mem_append.1 hr with hr | hr
     · exact hxm r hr
     · exact hzm r hr
   · intro j q c r x d a1 a2 a3 a4
     have hmono : ∀ b, b < w.heap.size → Free X M b → w'.heap[b]? = w.heap[b]? ∧ Free X ((i, Res.row v' e mm (xs ++ zs)) :: M) b := fun b hlt hF => ⟨h2.block b hlt (fun e1 => hF.2 ⟨i, _, hm, e1.symm⟩), hf b hlt hF⟩
     by_cases hj : j < cs.length
     · rw [List.getElem?_append_left hj] at a1
       rw [List.getElem?_append_left (by omega)] at a2
       exact (hcr j q c r x d a1 a2 a3 a4).mono h2.size hmono
     · rw [List.getElem?_append_right (by omega)] at a1
       rw [List.getElem?_append_right (by omega)] at a2
       rw [hcl] at a1
       exact (hzr _ q c r x d a1 a2 a3 a4).mono h2.size hmono)
 have h1' : w'.ownsRow w0.heap.size e mm v' (xs ++ zs).length (cs.flatten ++ cz.flatten) := by rw [List.length_append]; exact h1
 obtain ⟨p, c, e1⟩ := ownsRow_shape h1'
 have hrun : (execOp a.eval ⟨some d, .call { callee := .builtin .append, args := #[s, x], argTypes := #[t, t] }, tt, pos, af, gd⟩).run P w = .ok (.value v') w' := by
   simp only [execOp, resolve, invoke, builtin, Sem.run_bind, Sem.run_pure, Result.andThen_ok, List.map_toArray, List.map_cons, List.map_nil, ha.ev hs, ha.ev hx, hr]
 show Oper.upon P _ a K Q _
 rw [hrun]
 subst e1
 exact h p c _ _ (ha.put hd _) hm'
end
end Go.Proofs.Ytocfbocdnklllaa.K
