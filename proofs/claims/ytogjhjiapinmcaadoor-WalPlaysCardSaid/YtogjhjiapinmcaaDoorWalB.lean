/- Bytes of one's own, wherever they lie in their block. For any program. -/
import Derived.Test.YtogjhjiapinmcaaDoorWal0
import Derived.Test.YtogjhjiapinmcaaDoorStr4m
namespace Go.Proofs.YtogjhjiapinmcaaDoor.K
open Go.ChangeShapes Go.WideShapes Go.ChangeAt Go.RowKit Go.Sort
set_option linter.unusedVariables false
set_option linter.unusedSimpArgs false
variable {P : Program} {X : Cx} {M : Mm} {w w0 : World}
def nB (z : Int) : List D := [.v (.int .u8 z)]
theorem seg_numsB {S : Nat → Prop} {v : Value} {e : TypeId} {zs : List Int} (h : SegOk S w v e 1 (zs.map nB)) : OwnsAt w 0 e 1 v zs.length (zs.map (Value.int .u8)) := by
 obtain ⟨cs, h1, h2, h3, h4, h5⟩ := h
 rw [List.length_map] at h1 h2
 have hcs : cs = zs.map (fun z => [Value.int .u8 z]) := by
   apply List.ext_getElem (by simp [h2])
   intro j g1 g2
   have hz : j < zs.length := by omega
   obtain ⟨a1, -⟩ := h3 cs[j] (List.getElem_mem g1)
   match hc : cs[j], a1 with
   | [x], _ =>
     have h := h5 j 0 cs[j] (nB zs[j]) x (.v (.int .u8 zs[j])) (List.getElem?_eq_getElem g1) (by simp [hz]) (by rw [hc]; rfl) rfl
     simp [h.v_out]
 have hfl : cs.flatten = zs.map (Value.int .u8) := by
   rw [hcs]
   clear h1 h2 h3 h4 h5 hcs
   induction zs with
   | nil => rfl
   | cons z r ih => simpa using ih
 rwa [hfl] at h1
theorem nums_segB {S : Nat → Prop} {v : Value} {e : TypeId} {zs : List Int} (h : OwnsAt w 0 e 1 v zs.length (zs.map (Value.int .u8))) : SegOk S w v e 1 (zs.map nB) := by
 refine ⟨zs.map (fun z => [Value.int .u8 z]), ?_, by simp, ?_, ?_, ?_⟩
 · have : (zs.map (fun z => [Value.int .u8 z])).flatten = zs.map (Value.int .u8) := by
     clear h
     induction zs with
     | nil => rfl
     | cons z r ih => simpa using ih
   rw [this, List.length_map]; exact h
 · intro c hc
   obtain ⟨z, -, rfl⟩ := List.mem_map.1 hc
   exact ⟨rfl, fun x hx => by simp at hx; subst hx; rfl⟩
 · intro r hr
   obtain ⟨z, -, rfl⟩ := List.mem_map.1 hr
   rfl
 · intro j q c r x d a1 a2 a3 a4
   rw [List.getElem?_map] at a1 a2
   cases hz : zs[j]? with
   | none => rw [hz] at a1; cases a1
   | some z =>
     rw [hz] at a1 a2
     injection a1 with a1; injection a2 with a2
     subst a1; subst a2
     match q with
     | 0 =>
       injection a3 with a3; injection a4 with a4
       subst a3; subst a4; exact .v _
     | q + 1 => cases a3
theorem cell_atB {g off n : Nat} {cur : Array Value} {e : TypeId} {zs : List Int} (hb : w.heap[g]? = some (.cells cur e (0, 0))) (htk : (cur.toList.drop off).take n = zs.map (Value.int .u8)) (hn : n = zs.length) {j : Nat} (hj : j < zs.length) : w.cell? ⟨g, off + j, none⟩ = some (.int .u8 (zs.getD j 0)) := by
 subst hn
 have h1 : ((cur.toList.drop off).take zs.length)[j]? = (zs.map (Value.int .u8))[j]? := by rw [htk]
 rw [List.getElem?_take_of_lt hj, List.getElem?_drop] at h1
 simp only [World.cell?, hb]
 simp only [Option.isSome_none, Bool.false_eq_true, if_false]
 rw [← Array.getElem?_toList, h1]
 simp [hj, List.getD]
theorem nums_rdB {S S' : Nat → Prop} {v : Value} {e : TypeId} {zs : List Int} (h : SegOk S w v e 1 (zs.map nB)) (hv : ∀ b, v.ownBlock = some b → S' b) : Rd S' w v (.ns .u8 zs) := by
 obtain ⟨h1, h2⟩ := seg_numsB h
 refine .ns ?_
 rcases h2 with ⟨rfl, h0⟩ | ⟨g, off, cap, cur, rfl, -, hb, hnc, hcm, hcs, htk⟩
 · obtain rfl := List.length_eq_zero_iff.1 h0
   exact (Rd.nilN _ _ .u8 none).ns_out
 · exact ⟨_, cap, rfl, ⟨hnc, hcm⟩, .inr ⟨g, off, rfl, hv g rfl, (Array.getElem?_eq_some_iff.1 hb).1, fun j hj => cell_atB hb htk (by omega) hj⟩⟩
theorem MemOk.numSB (m : MemOk X w0 M w) (i : Nat) {v : Value} {e : TypeId} {zs : List Int} (h : lk M i = some (.num v e .u8 zs)) : MemOk X w0 ((i, .seg v e 1 (zs.map nB)) :: M) w := by
 have h1 : w.ownsRow w0.heap.size e 1 v zs.length (zs.map (Value.int .u8)) := m.ok i _ h
 have hl := World.ownsRow.lt h1
 refine m.upd i _ (Keep.refl _ _) (fun b hb => .inl ⟨_, h, hb⟩) (fun hf _ => ⟨nums_segB ?_, fun b hb => .inl (hl b hb).1⟩)
 obtain ⟨a1, a2⟩ := OwnsAt.of h1
 refine ⟨a1, ?_⟩
 rcases a2 with a2 | ⟨g, off, cap, cur, b1, _, rest⟩
 · exact .inl a2
 · exact .inr ⟨g, off, cap, cur, b1, Nat.zero_le _, rest⟩
theorem MemOk.rdNB (m : MemOk X w0 M w) {i : Nat} {v : Value} {e : TypeId} {zs : List Int} (h : lk M i = some (.seg v e 1 (zs.map nB))) : Rd (fun _ => True) w v (.ns .u8 zs) := nums_rdB (m.ok i _ h).1 (fun _ _ => trivial)
theorem MemOk.newO (m : MemOk X w0 M w) (i : Nat) {w' : World} (hb : Below w.heap.size w w') {v : Value} {e : TypeId} {zs : List Int} (h : OwnsAt w' w.heap.size e 1 v zs.length (zs.map (Value.int .u8))) : MemOk X w0 ((i, .seg v e 1 (zs.map nB)) :: M) w' := by
 have hlt := fun b hv => OwnsAt.lt h b hv
 refine m.upd i _ ((Keep.ofBelow (bad := fun _ => False) hb).mono (fun _ h => h.elim)) (fun b hb => .inr (hlt b hb).1) (fun hf _ => ⟨nums_segB ?_, fun b hb => .inl (Nat.le_trans m.keep.2.2.2.1 (hlt b hb).1)⟩)
 refine ⟨h.1, ?_⟩
 rcases h.2 with h2 | ⟨g, off, cap, cur, b1, _, rest⟩
 · exact .inl h2
 · exact .inr ⟨g, off, cap, cur, b1, Nat.zero_le _, rest⟩
theorem OwnsAt.part {N : Nat} {e : TypeId} {p : Option Addr} {l c : Nat} {zs : List Int} (h : OwnsAt w N e 1 (.slice p l c) zs.length (zs.map (Value.int .u8))) (i j : Nat) (hij : i < j) (hj : j ≤ zs.length) : OwnsAt w N e 1 (.slice (p.map (·.add (i * 1))) (j - i) (c - i)) ((zs.take j).drop i).length (((zs.take j).drop i).map (Value.int .u8)) := by
 refine ⟨by simp, ?_⟩
 rcases h.2 with ⟨e1, h2⟩ | ⟨g, off, cap, cur, e1, h1, h2, h3, h4, h5, h6⟩
 · omega
 · injection e1 with e1 e2 e3
   subst e1; subst e2; subst e3
   have hl : ((zs.take j).drop i).length = j - i := by rw [List.length_drop, List.length_take]; omega
   refine .inr ⟨g, off + i, c - i, cur, by rw [hl]; simp [Addr.add], h1, h2, by omega, by omega, by omega, ?_⟩
   rw [hl, Nat.mul_one, ← List.drop_drop, List.map_drop, List.map_take]
   rw [Nat.mul_one] at h6
   rw [← h6, List.take_take, Nat.min_eq_left hj, List.drop_take]
theorem run_copy_min {P : Program} {w : World} {g : Nat} {e : TypeId} {cs : List Value} (h : Blk w g e cs) (o n cap : Nat) (u : Value) (zs : List Int) (hu : IsNums .u8 w u zs) (hfit : o + (zs.take n).length ≤ cs.length)
   (dT sT ty elem : TypeId) (ht : P.underlying dT = some (.slice elem)) (hs : (P.info? elem).map (·.size) = some 1) :
   ∃ w', (Builtin.copy_ #[dT, sT] ty #[.slice (some ⟨g, o, none⟩) n cap, u]).run P w = .ok (goInt (zs.take n).length) w' ∧ Blk w' g e (cs.take o ++ B8 (zs.take n) ++ cs.drop (o + (zs.take n).length)) ∧ ∀ bad : Nat → Prop, bad g → Keep bad w w' := by
 obtain ⟨a, c, rfl, hz0 | ⟨b, off, rfl, hlt, hc⟩⟩ := hu
 · obtain rfl := List.length_eq_zero_iff.1 hz0
   refine ⟨w, by rw [run_copy_none w dT sT ty elem _ _ _ _ _ _ ht hs (by simp)]; simp, ?_, fun bad _ => Keep.refl _ _⟩
   simpa [B8] using h
 · refine ⟨w.setRow g (cs.take o ++ B8 (zs.take n) ++ cs.drop (o + (zs.take n).length)).toArray, ?_, ?_, fun bad hb => Keep.setRow hb _⟩
   · have hr := run_copy_row (P := P) w dT sT ty elem g o n cap ⟨b, off, none⟩ zs.length c cs.toArray e (B8 (zs.take n)) ht hs h (by rw [B8_len, List.length_take, Nat.min_comm])
       (by
         intro j v hv
         have hj : j < (zs.take n).length := by have := (List.getElem?_eq_some_iff.1 hv).1; rwa [B8_len] at this
         have hj2 : j < zs.length := by rw [List.length_take] at hj; omega
         rw [Addr.add_lit, hc j hj2, ← hv]
         rw [List.length_take] at hj
         have hj3 : j < n := by omega
         simp [B8, hj2, hj3, List.getD, List.getElem?_take_of_lt]) (by rw [B8_len]; simpa using hfit) (B8_one _)
     rw [B8_len] at hr
     exact hr
   · unfold Blk
     rw [setRow_heap w g _ _ e _ h]
theorem e_copyN {n : Nat} {T : List (Nat × Value)} {a : Act} {tt : TypeId} {pos : String} {af : Array Edge} {gd : Option (Nat × Bool)} {Q : Exit → Act → World → Prop} {K : Act → World → Prop} (ha : Has n T a) (m : MemOk X w0 M w) (i : Nat) {d : Tmp} {t e : TypeId} {l c : Nat} {p : Option Addr} {x y : Operand} {u : Value} {zs ys : List Int} (hm : lk M i = some (.num (.slice p l c) e .u8 zs)) (hs : evT T x = some (.slice p l c)) (hy : evT T y = some u) (hu : IsNums .u8 w u ys)
   (ht : P.underlying t = some (.slice e)) (hsz : (P.info? e).map (·.size) = some 1) (h0 : 0 < zs.length) (hd : Nat.blt d n = true)
   (h : ∀ a' w', Has n ((d, .int .i64 ((min zs.length ys.length : Nat) : Int)) :: T) a' → MemOk X w0 ((i, .num (.slice p l c) e .u8 (ys.take zs.length ++ zs.drop (ys.take zs.length).length)) :: M) w' → K a' w') : Oper.wp P ⟨some d, .call { callee := .builtin .copy, args := #[x, y], argTypes := #[t, t] }, tt, pos, af, gd⟩ a w K Q := by
 have hown := m.ok i _ hm
 rcases hown.2 with ⟨e1, e2⟩ | ⟨g, cap, cur, e1, hg', hbk, h1, h2, h3, h4⟩
 · omega
 · injection e1 with e1 e2 e3
   subst e1; subst e2; subst e3
   have hlt := (Array.getElem?_eq_some_iff.1 hbk).1
   have hb : Blk w g e cur.toList := by unfold Blk; rw [Array.toArray_toList]; exact hbk
   have hle : (ys.take zs.length).length ≤ zs.length := by rw [List.length_take]; omega
   have hnl : (ys.take zs.length ++ zs.drop (ys.take zs.length).length).length = zs.length := by rw [List.length_append, List.length_drop]; omega
   obtain ⟨w', hrun, hb', hk⟩ := run_copy_min (P := P) hb 0 zs.length c u ys hu (by simp only [Array.length_toList]; omega) t t tt e ht hsz
   rw [List.take_zero, List.nil_append, Nat.zero_add] at hb'
   unfold Oper.wp
   simp [execOp, resolve, invoke, builtin, ha.ev hs, ha.ev hy, hrun, Result.andThen]
   refine h _ w' (ha.put hd _) (m.upd i _ ((hk (fun b => b = g) rfl).mono (fun b e => ⟨_, hm, by rw [show b = g from e]; rfl⟩)) (fun b hb => .inl ⟨_, hm, hb⟩) (fun _ _ => ?_))
   refine ⟨by simp, .inr ⟨g, c, (B8 (ys.take zs.length) ++ cur.toList.drop (ys.take zs.length).length).toArray, by rw [hnl], hg', (show w'.heap[g]? = _ from hb'), by rw [hnl]; exact h1, h2, ?_, ?_⟩⟩
   · simp only [List.size_toArray, List.length_append, B8_len, List.length_drop, Array.length_toList]; omega
   · rw [hnl, Nat.mul_one, List.map_append, List.map_drop, ← h4, Nat.mul_one, List.drop_take]
     have hB : (B8 (ys.take zs.length)) = (ys.take zs.length).map (Value.int .u8) := rfl
     rw [hB]
     have hl2 : ((ys.take zs.length).map (Value.int .u8)).length ≤ zs.length := by rw [List.length_map]; exact hle
     rw [List.take_append, List.take_of_length_le hl2, List.length_map]
end Go.Proofs.YtogjhjiapinmcaaDoor.K
