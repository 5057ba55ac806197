/- A slice of one's own that may begin in the middle of its block: cut, appended to, cut out of. For any program. -/
import Derived.Test.YtocfbocdnklllaaAb7
namespace Go.Proofs.Ytocfbocdnklllaa.K
open Go.ChangeShapes Go.WideShapes Go.ChangeAt Go.RowKit
set_option linter.unusedVariables false
set_option linter.unusedSimpArgs false

theorem OwnsAt.cellAt {w : World} {base : Nat} {e : TypeId} {size : Nat} {v : Value} {n : Nat} {xs : List Value} (h : OwnsAt w base e size v n xs) {g off cap : Nat} (hv : v = .slice (some ⟨g, off, none⟩) n cap) (j : Nat) (hj : j < n * size) : w.cell? ⟨g, off + j, none⟩ = xs[j]? := by
 rcases h.2 with ⟨rfl, _⟩ | ⟨g', off', cap', cur, rfl, hbg, hgg, h1, h2, h3, h4⟩
 · cases hv
 · injection hv with hv _ _
   injection hv with hv
   injection hv with e1 e2
   subst e1; subst e2
   have hlt : off' + j < cur.size := by
     have : n * size ≤ cap' * size := Nat.mul_le_mul_right _ h1
     omega
   rw [← h4, List.getElem?_take_of_lt hj, List.getElem?_drop]
   simp [World.cell?, hgg, hlt]
section
variable {P : Program} (w : World)
theorem run_append_room_at (t ty e : TypeId) (i : TypeInfo) (ht : P.underlying t = some (.slice e)) (hi : P.info? e = some i)
   (g off sLen sCap : Nat) (cur : Array Value) (hg : w.heap[g]? = some (.cells cur e (0, 0)))
   (a : Addr) (m c : Nat) (news : List Value) (hl : news.length = m * i.size) (hnews : ∀ j u, news[j]? = some u → w.cell? (a.add j) = some u) (h1 : ∀ u ∈ news, u.oneCell' = true)
   (hroom : sLen + m ≤ sCap) (hfit : off + sLen * i.size + news.length ≤ cur.size) :
   (Builtin.append_ #[t, t] ty #[.slice (some ⟨g, off, none⟩) sLen sCap, .slice (some a) m c]).run P w =
     .ok (.slice (some ⟨g, off, none⟩) (sLen + m) sCap) (w.setRow g (cur.toList.take (off + sLen * i.size) ++ news ++ cur.toList.drop (off + sLen * i.size + news.length)).toArray) := by
 have hf := run_firstCells_some (P := P) w i.size m a m c news hl hnews
 have hst := run_storeCells_at P g (off + sLen * i.size) e news 0 cur w hg (by simpa using hfit) h1
 simp only [Nat.add_zero] at hst
 simp [Builtin.append_, run_underlying ht, sizeOf, typeInfo, hi, Builtin.lenOf, hroom, hf, Addr.add_lit, hst]
theorem run_append_seg (base : Nat) (t ty e : TypeId) (z : Value) (size bytes : Nat) (ht : P.underlying t = some (.slice e)) (hinf : (P.info? e).map (fun i => (i.zero, i.size, i.bytes)) = some (some z, size, bytes))
   (hzs : z.cells.size = size) (hsz : 0 < size) (p : Option Addr) (n cap k : Nat) (hk : k ≤ n) (xs : List Value) (hown : OwnsAt w base e size (.slice p n cap) n xs)
   (a : Addr) (m c : Nat) (news : List Value) (hl : news.length = m * size) (hnews : ∀ j u, news[j]? = some u → w.cell? (a.add j) = some u) (h1 : ∀ u ∈ news, u.oneCell' = true)
   (h63 : k + m ≤ maxLen) (hbytes : (k + m) * bytes ≤ 140737488355328) (hbase : base ≤ w.heap.size) :
   ∃ v' w', (Builtin.append_ #[t, t] ty #[.slice p k cap, .slice (some a) m c]).run P w = .ok v' w' ∧ OwnsAt w' base e size v' (k + m) (xs.take (k * size) ++ news) ∧ w.grownBy w' (Value.slice p n cap).ownBlock ∧ (v'.ownBlock = (Value.slice p n cap).ownBlock ∨ v'.ownBlock = some w.heap.size) := by
 rcases hown.2 with ⟨e1, rfl⟩ | ⟨g, off, cap', cur, e1, hbg, hg, hnc, hcm, hcs, htake⟩
 · injection e1 with e1 _ e3
   subst e1; subst e3
   obtain rfl : k = 0 := by omega
   have hx : xs = [] := List.eq_nil_of_length_eq_zero (by simpa using hown.1)
   subst hx
   obtain ⟨v', w', r1, r2, r3, r4⟩ := run_append_where (P := P) w base t ty e z size bytes ht hinf hzs hsz (.slice none 0 0) 0 [] (World.ownsRow_nil _ _ _ _) a m c news hl hnews h1 h63 hbytes hbase
   exact ⟨v', w', r1, by simpa using OwnsAt.of r2, r3, r4⟩
 · injection e1 with e1 _ e3
   subst e1; subst e3
   obtain ⟨i, hi, hz, hsize, hby⟩ := info_parts hinf
   clear hinf
   subst hsize
   subst hby
   have hxl := hown.1
   have hkn : k * i.size ≤ n * i.size := Nat.mul_le_mul_right _ hk
   have hlen : (xs.take (k * i.size) ++ news).length = (k + m) * i.size := by rw [List.length_append, List.length_take, hxl, hl, Nat.add_mul, Nat.min_eq_left hkn]
   by_cases hroom : k + m ≤ cap
   · have hfit : off + k * i.size + news.length ≤ cur.size := by
       have : (k + m) * i.size ≤ cap * i.size := Nat.mul_le_mul_right _ hroom
       rw [Nat.add_mul] at this
       omega
     have hr := run_append_room_at (P := P) w t ty e i ht hi g off k cap cur hg a m c news hl hnews h1 hroom hfit
     refine ⟨_, _, hr, ⟨hlen, .inr ⟨g, off, cap, _, rfl, hbg, setRow_heap w g cur _ e _ hg, hroom, hcm, ?_, ?_⟩⟩, ⟨rfl, rfl, rfl, by simp, fun b _ hb => setRow_other w g b _ (fun e => hb (by simp [Value.ownBlock, e]))⟩, .inl rfl⟩
     · simp only [List.size_toArray, List.length_append, List.length_take, List.length_drop, Array.length_toList]
       omega
     · have h5 : cur.toList.take (off + k * i.size) = cur.toList.take off ++ xs.take (k * i.size) := by
         rw [List.take_add, ← htake, List.take_take, Nat.min_eq_left hkn]
       have h6 : (cur.toList.take off).length = off := by
         rw [List.length_take, Array.length_toList]; omega
       show ((List.toArray _).toList.drop off).take _ = _
       rw [List.toList_toArray, h5, List.append_assoc, List.append_assoc, List.drop_left' h6, ← List.append_assoc, List.take_left' hlen]
   · have holds : ∀ j u, (xs.take (k * i.size))[j]? = some u → w.cell? ((⟨g, off, none⟩ : Addr).add j) = some u := fun j u hj => by
       have hjl : j < k * i.size := by
         have := (List.getElem?_eq_some_iff.1 hj).1
         rw [List.length_take] at this; omega
       rw [List.getElem?_take_of_lt hjl] at hj
       have := hown.cellAt rfl j (by omega)
       rw [Addr.add_mid, this, hj]
     have hgr := run_append_grow (P := P) w t ty e i z ht hi hz ⟨g, off, none⟩ k cap (xs.take (k * i.size)) (by rw [List.length_take, hxl, Nat.min_eq_left hkn]) holds a m c news hl hnews (by omega) (by unfold maxLen at h63; omega) (growslice_fits (by omega) hbytes)
     have hge := grownCap_ge w (k + m) cap e
     have hcm' : grownCap w (k + m) cap e ≤ maxLen := grownCap_le_maxLen w (k + m) cap e h63
     refine ⟨_, _, hgr, ⟨hlen, .inr ⟨w.heap.size, 0, _, _, rfl, hbase, heap_alloc_new w.drew _, hge, hcm', ?_, ?_⟩⟩, ⟨rfl, rfl, rfl, by simp, fun b hb _ => heap_alloc_old w.drew _ hb⟩, .inr rfl⟩
     · have h7 : (xs.take (k * i.size)).length + news.length = (k + m) * i.size := by rw [← List.length_append]; exact hlen
       simp only [Array.size_append, List.size_toArray, size_zeroCells, hzs, h7, ← Nat.add_mul]
       have : (k + m + (grownCap w (k + m) cap e - (k + m))) = grownCap w (k + m) cap e := by omega
       rw [this]; omega
     · simp only [Array.toList_append, List.append_assoc, List.drop_zero]
       rw [← List.append_assoc, ← hlen]
       exact List.take_left
end
section
variable {X : Cx} {w0 w : World} {M : Mm}
theorem MemOk.rowS (m : MemOk X w0 M w) (i : Nat) {v : Value} {e : TypeId} {mm : Nat} {rows : List (List D)} (h : lk M i = some (.row v e mm rows)) : MemOk X w0 ((i, .seg v e mm rows) :: M) w := by
 obtain ⟨cs, h1, h2, h3, h4, h5⟩ := m.ok i _ h
 have hl := World.ownsRow.lt h1
 refine m.upd i _ (Keep.refl _ _) (fun b hb => .inl ⟨_, h, hb⟩) (fun hf _ => ⟨⟨cs, ?_, h2, h3, h4, fun j q c r x d a1 a2 a3 a4 => (h5 j q c r x d a1 a2 a3 a4).mono (Nat.le_refl _) (fun b hlt hS => ⟨rfl, hf b hlt hS⟩)⟩, fun b hb => .inl (hl b hb).1⟩)
 obtain ⟨a1, a2⟩ := OwnsAt.of h1
 refine ⟨a1, ?_⟩
 rcases a2 with a2 | ⟨g, off, cap, cur, b1, _, rest⟩
 · exact .inl a2
 · exact .inr ⟨g, off, cap, cur, b1, Nat.zero_le _, rest⟩
end
def SrcOk (S : Nat → Prop) (w : World) (u : Value) (mm : Nat) (rows : List (List D)) : Prop :=
 ∃ (p : Option Addr) (c : Nat) (cs : List (List Value)), u = .slice p rows.length c ∧ cs.length = rows.length ∧ (∀ c ∈ cs, c.length = mm ∧ ∀ x ∈ c, x.oneCell' = true) ∧ (∀ r ∈ rows, r.length = mm) ∧
   (∀ (j q : Nat) (c : List Value) (r : List D) (x : Value) (d : D), cs[j]? = some c → rows[j]? = some r → c[q]? = some x → r[q]? = some d → Rd S w x d) ∧ (rows.length = 0 ∨ ∃ ad, p = some ad ∧ ∀ j u, cs.flatten[j]? = some u → w.cell? (ad.add j) = some u)
theorem run_app_nothing {P : Program} (w : World) (t ty e : TypeId) (i : TypeInfo) (ht : P.underlying t = some (.slice e)) (hi : P.info? e = some i) (p : Option Addr) (k c cu : Nat) (hk : k ≤ c) : (Builtin.append_ #[t, t] ty #[.slice p k c, .slice none 0 cu]).run P w = .ok (.slice p k c) w := by
 cases p <;> simp [Builtin.append_, run_underlying ht, sizeOf, typeInfo, hi, Builtin.lenOf, Builtin.firstCells, loadCells, loadCellsFrom, hk, storeCells]
theorem flatten_take {α : Type} {mm : Nat} : ∀ (cs : List (List α)) (j : Nat), (∀ c ∈ cs, c.length = mm) → j ≤ cs.length → (cs.take j).flatten = cs.flatten.take (j * mm)
 | cs, 0, _, _ => by simp
 | [], j + 1, _, h => by simp at h
 | a :: cs, j + 1, hc, h => by
   have ha := hc a (by simp)
   rw [List.take_succ_cons, List.flatten_cons, flatten_take cs j (fun c h => hc c (by simp [h])) (by simpa using h), List.flatten_cons, Nat.add_mul, Nat.one_mul, List.take_append, (List.take_of_length_le (by omega) : a.take (j * mm + mm) = a), ha, Nat.add_sub_cancel]
section
variable {P : Program} {n : Nat} {T : List (Nat × Value)} {a : Act} {w w0 : World} {X : Cx} {M : Mm} {tt : TypeId} {pos : String} {af : Array Edge} {gd : Option (Nat × Bool)} {Q : Exit → Act → World → Prop} {K : Act → World → Prop}
theorem e_appS (ha : Has n T a) (m : MemOk X w0 M w) (i : Nat) {d : Tmp} {t e : TypeId} {mm bytes l c : Nat} {p : Option Addr} {z : Value} {s x : Operand} {u : Value} {xs zs : List (List D)} (hm : lk M i = some (.seg (.slice p l c) e mm xs)) (k : Nat) (hk : k ≤ xs.length) (hs : evT T s = some (.slice p k c)) (hx : evT T x = some u) (hu : SrcOk (Free X M) w u mm zs)
   (ht : P.underlying t = some (.slice e)) (hinf : (P.info? e).map (fun i => (i.zero, i.size, i.bytes)) = some (some z, mm, bytes)) (hz : z.cells.size = mm) (h0 : Nat.blt 0 mm = true) (hb8 : bytes ≤ 1000) (hn : k + zs.length ≤ 100000000) (hd : Nat.blt d n = true)
   (h : ∀ p c a' w', Has n ((d, .slice p (xs.take k ++ zs).length c) :: T) a' → MemOk X w0 ((i, .seg (.slice p (xs.take k ++ zs).length c) e mm (xs.take k ++ zs)) :: M) w' → K a' w') : Oper.wp P ⟨some d, .call { callee := .builtin .append, args := #[s, x], argTypes := #[t, t] }, tt, pos, af, gd⟩ a w K Q := by
 obtain ⟨⟨cs, hown, hcl, hc1, hxm, hcr⟩, hxx⟩ := m.ok i _ hm
 obtain ⟨pu, cu, cz, rfl, hzl, hz1, hzm, hzr, hzp⟩ := hu
 have hl : l = xs.length := by
   rcases hown.2 with ⟨e1, h1⟩ | ⟨_, _, _, _, e1, _⟩
   · injection e1 with _ e2 _; omega
   · injection e1
 subst hl
 have h0' : 0 < mm := by simpa using h0
 have hbn : (k + zs.length) * bytes ≤ 140737488355328 := Nat.le_trans (Nat.mul_le_mul_left _ hb8) (by omega)
 have hfl : cz.flatten.length = zs.length * mm := by rw [← List.flatMap_id, parts_len id mm _ (fun c hc => (hz1 c hc).1), hzl]
 have hkl : (xs.take k).length = k := by rw [List.length_take]; omega
 have hkc : k ≤ c := by
   rcases hown.2 with ⟨e1, h1⟩ | ⟨_, _, _, _, e1, _, _, h1, _⟩
   · injection e1 with _ e2 e3; omega
   · injection e1 with _ _ e3; subst e3; omega
 have hft : (cs.take k).flatten = cs.flatten.take (k * mm) := flatten_take cs k (fun c hc => (hc1 c hc).1) (by omega)
 have hrun0 : ∃ v' w', (Builtin.append_ #[t, t] tt #[.slice p k c, .slice pu zs.length cu]).run P w = .ok v' w' ∧ OwnsAt w' 0 e mm v' (k + zs.length) (cs.flatten.take (k * mm) ++ cz.flatten) ∧ w.grownBy w' (Value.slice p xs.length c).ownBlock ∧ (v'.ownBlock = (Value.slice p xs.length c).ownBlock ∨ v'.ownBlock = some w.heap.size) := by
   have main : ∀ ad : Addr, pu = some ad → (∀ j u, cz.flatten[j]? = some u → w.cell? (ad.add j) = some u) → ∃ v' w', (Builtin.append_ #[t, t] tt #[.slice p k c, .slice pu zs.length cu]).run P w = .ok v' w' ∧ OwnsAt w' 0 e mm v' (k + zs.length) (cs.flatten.take (k * mm) ++ cz.flatten) ∧ w.grownBy w' (Value.slice p xs.length c).ownBlock ∧ (v'.ownBlock = (Value.slice p xs.length c).ownBlock ∨ v'.ownBlock = some w.heap.size) := by
     intro ad hpa hcells
     rw [hpa]
     exact run_append_seg (P := P) w 0 t tt e z mm bytes ht hinf hz h0' p xs.length c k hk cs.flatten hown ad zs.length cu cz.flatten hfl hcells (fun u hu => by obtain ⟨c, hc, hx⟩ := List.mem_flatten.1 hu; exact (hz1 c hc).2 u hx) (by unfold maxLen; omega) hbn (Nat.zero_le _)
   rcases hzp with h9 | ⟨ad, e1, e2⟩
   · obtain rfl := List.length_eq_zero_iff.1 h9
     obtain rfl : cz = [] := List.length_eq_zero_iff.1 (by simpa using hzl)
     cases pu with
     | none =>
       obtain ⟨i0, hi, -⟩ := info_parts hinf
       refine ⟨_, w, run_app_nothing w t tt e i0 ht hi p k c cu hkc, ?_, ⟨rfl, rfl, rfl, Nat.le_refl _, fun _ _ _ => rfl⟩, .inl (by cases p <;> rfl)⟩
       have hkm : k * mm ≤ xs.length * mm := Nat.mul_le_mul_right _ hk
       refine ⟨by rw [List.length_append, List.length_take, hown.1, Nat.min_eq_left hkm]; simp, ?_⟩
       rcases hown.2 with ⟨e1, h1⟩ | ⟨g, off, cap, cur, e1, hbg, hg, hnc, hcm, hcs, htake⟩
       · injection e1 with e1 _ e3; subst e1; subst e3
         obtain rfl : k = 0 := by omega
         exact .inl ⟨rfl, rfl⟩
       · injection e1 with e1 _ e3; subst e1; subst e3
         refine .inr ⟨g, off, c, cur, rfl, hbg, hg, hkc, hcm, hcs, ?_⟩
         rw [← htake]; simp [List.take_take, Nat.min_eq_left hkm]
     | some ad => exact main ad rfl (by simp)
   · exact main ad e1 e2
 obtain ⟨v', w', hr, h1, h2, h3⟩ := hrun0
 have hm' : MemOk X w0 ((i, .seg v' e mm (xs.take k ++ zs)) :: M) w' := m.upd i _ ((keep_grown h2).mono (fun b e => ⟨_, hm, e⟩)) (fun b hb => by
   rcases h3 with e1 | e1
   · exact .inl ⟨_, hm, e1.symm.trans hb⟩
   · have : some w.heap.size = some b := e1.symm.trans hb
     injection this with this; right; omega) (fun hf _ => by
   refine ⟨⟨cs.take k ++ cz, ?_, by rw [List.length_append, List.length_append, List.length_take, List.length_take, hcl, hzl], ?_, ?_, ?_⟩, ?_⟩
   · rw [List.length_append, List.flatten_append, hkl, hft]; exact h1
   · intro c hc
     rcases List.mem_append.1 hc with hc | hc
     · exact hc1 c (List.mem_of_mem_take hc)
     · exact hz1 c hc
   · intro r hr
     rcases List.mem_append.1 hr with hr | hr
     · exact hxm r (List.mem_of_mem_take hr)
     · exact hzm r hr
   · intro j q c' r x d a1 a2 a3 a4
     have hmono : ∀ b, b < w.heap.size → Free X M b → w'.heap[b]? = w.heap[b]? ∧ Free X ((i, Res.seg v' e mm (xs.take k ++ zs)) :: M) b := fun b hlt hF => ⟨h2.block b hlt (fun e1 => hF.2 ⟨i, _, hm, e1.symm⟩), hf b hlt hF⟩
     have hkc' : (cs.take k).length = k := by rw [List.length_take]; omega
     by_cases hj : j < k
     · rw [List.getElem?_append_left (by omega), List.getElem?_take_of_lt hj] at a1
       rw [List.getElem?_append_left (by omega), List.getElem?_take_of_lt hj] at a2
       exact (hcr j q c' r x d a1 a2 a3 a4).mono h2.size hmono
     · rw [List.getElem?_append_right (by omega)] at a1
       rw [List.getElem?_append_right (by omega)] at a2
       rw [hkc'] at a1
       rw [hkl] at a2
       exact (hzr _ q c' r x d a1 a2 a3 a4).mono h2.size hmono
   · intro b hb
     rcases h3 with e1 | e1
     · exact hxx b (e1.symm.trans hb)
     · have : some w.heap.size = some b := e1.symm.trans hb
       injection this with this; left; have := m.keep.size; omega)
 have hsh : ∃ p' c', v' = .slice p' (xs.take k ++ zs).length c' := by
   rw [List.length_append, hkl]
   rcases h1.2 with ⟨e1, e2⟩ | ⟨g, off, cap, cur, e1, _⟩
   · rw [e2]; exact ⟨_, _, e1⟩
   · exact ⟨_, _, e1⟩
 obtain ⟨p', c', e1⟩ := hsh
 have hrun : (execOp a.eval ⟨some d, .call { callee := .builtin .append, args := #[s, x], argTypes := #[t, t] }, tt, pos, af, gd⟩).run P w = .ok (.value v') w' := by
   simp only [execOp, resolve, invoke, builtin, Sem.run_bind, Sem.run_pure, Result.andThen_ok, List.map_toArray, List.map_cons, List.map_nil, ha.ev hs, ha.ev hx, hr]
 show Oper.upon P _ a K Q _
 rw [hrun]
 subst e1
 exact h p' c' _ _ (ha.put hd _) hm'
end
section
variable {P : Program} {n : Nat} {T : List (Nat × Value)} {a : Act} {w w0 : World} {X : Cx} {M : Mm} {tt : TypeId} {pos : String} {af : Array Edge} {gd : Option (Nat × Bool)} {Q : Exit → Act → World → Prop} {K : Act → World → Prop}
theorem e_appSA (ha : Has n T a) (m : MemOk X w0 M w) (i : Nat) {d : Tmp} {t e : TypeId} {mm bytes l c : Nat} {p : Option Addr} {z : Value} {s x : Operand} {u : Value} {xs zs : List (List D)} (hm : lk M i = some (.seg (.slice p l c) e mm xs)) (hs : evT T s = some (.slice p l c)) (hx : evT T x = some u) (hu : SrcOk (Free X M) w u mm zs)
   (ht : P.underlying t = some (.slice e)) (hinf : (P.info? e).map (fun i => (i.zero, i.size, i.bytes)) = some (some z, mm, bytes)) (hz : z.cells.size = mm) (h0 : Nat.blt 0 mm = true) (hb8 : bytes ≤ 1000) (hn : xs.length + zs.length ≤ 100000000) (hd : Nat.blt d n = true)
   (h : ∀ p c a' w', Has n ((d, .slice p (xs ++ zs).length c) :: T) a' → MemOk X w0 ((i, .seg (.slice p (xs ++ zs).length c) e mm (xs ++ zs)) :: M) w' → K a' w') : Oper.wp P ⟨some d, .call { callee := .builtin .append, args := #[s, x], argTypes := #[t, t] }, tt, pos, af, gd⟩ a w K Q := by
 have hl : l = xs.length := by
   obtain ⟨⟨cs, hown, _⟩, _⟩ := m.ok i _ hm
   rcases hown.2 with ⟨e1, h1⟩ | ⟨_, _, _, _, e1, _⟩
   · injection e1 with _ e2 _; omega
   · injection e1
 subst hl
 refine e_appS ha m i hm xs.length (Nat.le_refl _) hs hx hu ht hinf hz h0 hb8 hn hd ?_
 rw [List.take_length]
 exact h
theorem MemOk.openS (m : MemOk X w0 M w) {i : Nat} {p : Option Addr} {l c mm : Nat} {e : TypeId} {rows : List (List D)} (hm : lk M i = some (.seg (.slice p l c) e mm rows)) (j : Nat) {r : List D} (hr : rows[j]? = some r) : ∃ g off vs, p = some ⟨g, off, none⟩ ∧ l = rows.length ∧ RdL (Free X M) w vs r ∧ w.rangeAt g (off + j * mm) vs := by
 obtain ⟨⟨cs, hown, h2, h3, h4, h5⟩, hx⟩ := m.ok i _ hm
 have hj : j < rows.length := (List.getElem?_eq_some_iff.1 hr).1
 have hjc : j < cs.length := by omega
 rcases hown.2 with ⟨e1, h1⟩ | ⟨g, off, cap, cur, e1, _⟩
 · omega
 · injection e1 with e1 e2 e3
   have hc : cs[j]? = some cs[j] := List.getElem?_eq_getElem hjc
   refine ⟨g, off, cs[j], e1, e2, RdL.of ?_ (fun q x d a1 a2 => h5 j q cs[j] r x d hc hr a1 a2), fun q v hv => ?_⟩
   · rw [(h3 _ (List.getElem_mem hjc)).1, h4 r (List.mem_of_getElem? hr)]
   · have hq := (List.getElem?_eq_some_iff.1 hv).1
     have hvl := (h3 _ (List.getElem_mem hjc)).1
     have hf := flatten_at cs j q cs[j] (fun c hc => (h3 c hc).1) hc (by omega)
     have := hown.cellAt (by rw [e1, e2]) (j * mm + q) (by calc j * mm + q < j * mm + mm := by omega
       _ = (j + 1) * mm := by rw [Nat.add_mul]; omega
       _ ≤ rows.length * mm := Nat.mul_le_mul_right _ (by omega))
     rw [Nat.add_assoc, this, hf, hv]
theorem y_loadAt (ha : Has n T a) {d : Option Tmp} {t : TypeId} {td : TypeDesc} {x : Operand} {b o : Nat} {vs : List Value} (hr : w.rangeAt b o vs) (hx : evT T x = some (.pointer (some ⟨b, o, none⟩))) (hu : P.underlying t = some td) (hd : td.isRow = true) (hs : (P.info? t).map (·.size) = some vs.length) : Yl P a w ⟨d, .load t x, tt, pos, af, gd⟩ (.agg vs.toArray) := by
 show (execOp _ _).run P w = _
 rw [exec_load t x rfl b o (ha.ev hx) vs td hr hu hd hs]
/-! ### A struct of one slice of one's own, behind a pointer -/
def cxp (S : Nat → Prop) (w : World) (B : Nat) (v : Value) : Cx := ⟨B :: v.ownBlock.toList, fun b => b < w.heap.size → S b⟩
theorem SegOk.mono {S S' : Nat → Prop} {w : World} {v : Value} {e : TypeId} {m : Nat} {rows : List (List D)} (h : SegOk S w v e m rows) (hs : ∀ b, b < w.heap.size → S b → S' b) : SegOk S' w v e m rows := by
 obtain ⟨cs, h1, h2, h3, h4, h5⟩ := h
 exact ⟨cs, h1, h2, h3, h4, fun j q c r x d a1 a2 a3 a4 => (h5 j q c r x d a1 a2 a3 a4).mono (Nat.le_refl _) (fun b hlt hS => ⟨rfl, hs b hlt hS⟩)⟩
def PoolAt (S : Nat → Prop) (w : World) (B : Nat) (pt e : TypeId) (mm : Nat) (v : Value) (rows : List (List D)) (w' : World) (v' : Value) : Prop :=
 Blk w' B pt [v'] ∧ SegOk (fun b => (S b ∨ w.heap.size ≤ b) ∧ b ≠ B ∧ v'.ownBlock ≠ some b) w' v' e mm rows ∧ Keep (fun b => b = B ∨ v.ownBlock = some b) w w' ∧ (∀ b, v'.ownBlock = some b → w.heap.size ≤ b ∨ v.ownBlock = some b) ∧ v'.ownBlock ≠ some B
theorem SegOk.shape {S : Nat → Prop} {w : World} {v : Value} {e : TypeId} {m : Nat} {rows : List (List D)} (h : SegOk S w v e m rows) : ∃ p c, v = .slice p rows.length c := by
 obtain ⟨cs, h1, _⟩ := h
 rcases h1.2 with ⟨e1, e2⟩ | ⟨g, off, cap, cur, e1, _⟩
 · rw [e2]; exact ⟨_, _, e1⟩
 · exact ⟨_, _, e1⟩
end
end Go.Proofs.Ytocfbocdnklllaa.K
