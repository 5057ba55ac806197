/- DiskKeeps: what its loops hold. -/
import Derived.Test.YtnjmlkohgbbafaaDiskB
namespace Go.Proofs.Ytnjmlkohgbbafaa.K
open Go.ChangeShapes Go.WideShapes Go.ChangeAt Go.RowKit
set_option linter.unusedVariables false

section
variable {P : Program} {ops : Array Oper} {Q : Exit → Act → World → Prop} {K : Act → World → Prop} {md : Region.Mode} {e : Nat} {a : Act} {w : World}
/-- Two operations may come up; nothing is held. -/
theorem stepE_two (i j : Nat) {oi oj : Oper} {fuel : Nat} {listed : Array Bool} (hi : ops[i]? = some oi) (hj : ops[j]? = some oj) (hr : Region.ready md ops listed = [i, j])
    (hwi : Region.wanted oi (yielded ops a.tmps) = true) (hwj : Region.wanted oj (yielded ops a.tmps) = true)
    (h1 : ∀ K' : Act → World → Prop, (∀ a' w', wpAnyE P md ops Q e (fun _ => True) fuel (listed.setIfInBounds i true) a' w' → K' a' w') → Oper.wp P oi a w K' Q)
    (h2 : ∀ K' : Act → World → Prop, (∀ a' w', wpAnyE P md ops Q e (fun _ => True) fuel (listed.setIfInBounds j true) a' w' → K' a' w') → Oper.wp P oj a w K' Q) :
    wpAnyE P md ops Q e (fun _ => True) (fuel + 1) listed a w := by
  refine ⟨fun h0 => absurd (hr ▸ h0) (by simp), fun q hq => ?_⟩
  rw [hr] at hq
  rcases List.mem_cons.1 hq with rfl | hq
  · refine wpOp_step hi (fun K' hK => ?_)
    rw [if_pos hwi]
    exact h1 K' (fun a' w' hn => hK a' w' ⟨fun _ => trivial, hn⟩)
  · obtain rfl : q = j := by simpa using hq
    refine wpOp_step hj (fun K' hK => ?_)
    rw [if_pos hwj]
    exact h2 K' (fun a' w' hn => hK a' w' ⟨fun _ => trivial, hn⟩)

/-- One cell of a block that is known is stored into. -/
theorem wp_store1 {op : Oper} {g : Nat} {et : TypeId} {cs : List Value} (h : Blk w g et cs) (ty : TypeId) (x y : Operand) (ho : op.op = .store ty x y) (j : Nat) (v : Value) (h1 : v.oneCell' = true) (hv : v.cells = #[v]) (hj : j < cs.length)
    (hi : (P.info? ty).map (·.size) = some 1) (hx : a.eval x = .pointer (some ⟨g, j, none⟩)) (hy : a.eval y = v)
    (hK : ∀ w', Blk w' g et (cs.set j v) → (∀ bad : Nat → Prop, bad g → Keep bad w w') → w'.heap.size = w.heap.size → K (a.put op.dst undef) w') : op.wp P a w K Q := by
  have hc : w.cell? ⟨g, j, none⟩ = some (cs[j]'hj) := by rw [h.cell]; exact List.getElem?_eq_getElem hj
  have hst : (Instr.storeAt ty (.pointer (some ⟨g, j, none⟩)) v).run P w = .ok () (w.setCell ⟨g, j, none⟩ v) := by
    cases hq : P.info? ty with
    | none => simp [hq] at hi
    | some i =>
      have hs : i.size = 1 := by simpa [hq] using hi
      have hf := h.free j
      have hs0 : (store ⟨g, j, none⟩ v).run P w = .ok () (w.setCell ⟨g, j, none⟩ v) := by
        rw [run_store P w _ v _ h1, hc]; simp [hf]
      simp [Instr.storeAt, Instr.sureAddr, Sem.run_bind, storeVar, sizeOf, typeInfo, hq, hv, hs, storeCells]
      rw [Addr.add_lit, Nat.add_zero]
      exact hs0
  unfold Oper.wp execOp
  simp only [ho, hx, hy, Sem.run_bind, hst, Result.andThen_ok]
  exact hK _ (h.setCell j v) (fun bad hb => Keep.setCell hb v) (by simp [World.setCell])

/-- 'make([]byte, 64)'. -/
theorem wp_make64 {op : Oper} (l c : Operand) (ho : op.op = .makeSlice 27 l c) (hl : a.eval l = .int .i64 64) (hc : a.eval c = .int .i64 64)
    (hK : ∀ w', Blk w' w.heap.size 5 (B8 zeros) → Below w.heap.size w w' → w'.heap.size = w.heap.size + 1 → K (a.put op.dst (sl w.heap.size)) w') : op.wp Try.prog a w K Q := by
  obtain ⟨i0, hi, hz0, hz1, hz2⟩ := info_parts info_u8
  have hr := run_make (P := Try.prog) w 27 5 i0 _ Try.underlying27 hi hz0 .i64 .i64 64 64 (by omega) (by omega) (by rw [hz2]; omega) (by omega)
  rw [hz1] at hr
  have hz : (madeCells (Value.int .u8 0).cells ((64 : Int).toNat * 1)) = (B8 zeros).toArray := by
    apply Array.ext'
    have := madeCells_zeros 1 64 (by omega)
    rw [show (Value.int .u8 0).cells = Array.replicate 1 (Value.int .u8 0) from rfl]
    rw [show ((64 : Int).toNat * 1) = 64 from rfl, this, zeros, B8_zeros]
  rw [hz] at hr
  unfold Oper.wp execOp
  simp only [ho, hl, hc, Sem.run_bind, hr, Result.andThen_ok]
  exact hK _ (Blk.alloc w _ _) ((Below.refl _ _).alloc (Nat.le_refl _) _) (by simp)
end

theorem mine_ge {w : World} {B S N : Nat} {vu : Value} {secs : List (List Int)} {uns : List Un} {l : Int} (h : IsDisk w B S vu secs uns l) (hN : N ≤ S) : ∀ k, Mine B S vu k → N ≤ k := by
  have hlt := h.lt
  rintro k (rfl | rfl | e)
  · omega
  · omega
  · have := (h.row.lt k e).1; omega

theorem torn_new' (pn po : List Int) (nf i : Nat) (h : i < nf) (hl : pn.length = 64) (hi : i < 64) : (pn.take nf ++ po.drop nf)[i]? = pn[i]? := by
  rw [List.getElem?_append_left (by rw [List.length_take]; omega), List.getElem?_take, if_pos h]
theorem torn_old' (pn po : List Int) (nf i : Nat) (h : ¬ i < nf) (hl : po.length = 64) (hl2 : pn.length = 64) : (pn.take nf ++ po.drop nf)[i]? = po[i]? := by
  by_cases h6 : nf ≤ 64
  · rw [List.getElem?_append_right (by rw [List.length_take]; omega), List.getElem?_drop, List.length_take]
    congr 1
    omega
  · rw [List.getElem?_eq_none (by rw [List.length_append, List.length_take, List.length_drop]; omega), List.getElem?_eq_none (by omega)]
theorem crashed_len' (secs : List (List Int)) (uns : List Un) (mask torn : Int) : (crashed secs uns mask torn).length = secs.length := by
  unfold crashed; rw [redoN_len, undo_len]
/-- The first k of eight are these, padded; noughts behind them. -/
def padTo (ls : List (List Int)) (k : Nat) : List (List Int) := (List.range 8).map fun i => if i < k then pad (ls.getD i []) else zeros
def mixTo (ls SO : List (List Int)) (k : Nat) : List (List Int) := (List.range 8).map fun i => if i < k then pad (ls.getD i []) else SO.getD i []
def unsTo (ls SO : List (List Int)) (k : Nat) : List Un := (List.range k).map fun j => ⟨j, SO.getD j [], pad (ls.getD j [])⟩
theorem padTo_len (ls : List (List Int)) (k : Nat) : (padTo ls k).length = 8 := by simp [padTo]
theorem mixTo_len (ls SO : List (List Int)) (k : Nat) : (mixTo ls SO k).length = 8 := by simp [mixTo]
theorem unsTo_len (ls SO : List (List Int)) (k : Nat) : (unsTo ls SO k).length = k := by simp [unsTo]
theorem padTo_get (ls : List (List Int)) (k i : Nat) (hi : i < 8) : (padTo ls k)[i]? = some (if i < k then pad (ls.getD i []) else zeros) := by simp [padTo, hi]
theorem mixTo_get (ls SO : List (List Int)) (k i : Nat) (hi : i < 8) : (mixTo ls SO k)[i]? = some (if i < k then pad (ls.getD i []) else SO.getD i []) := by simp [mixTo, hi]
theorem padTo_zero (ls : List (List Int)) : padTo ls 0 = List.replicate 8 zeros := by simp [padTo]; rfl
theorem mixTo_zero (ls SO : List (List Int)) (h : SO.length = 8) : mixTo ls SO 0 = SO := by
  apply List.ext_getElem?
  intro i
  by_cases hi : i < 8
  · rw [mixTo_get _ _ _ _ hi, if_neg (by omega)]
    simp [List.getD, show i < SO.length by omega]
  · rw [List.getElem?_eq_none (by rw [mixTo_len]; omega), List.getElem?_eq_none (by omega)]
theorem padTo_set (ls : List (List Int)) (k : Nat) (hk : k < 8) : (padTo ls k).set k (pad (ls.getD k [])) = padTo ls (k + 1) := by
  apply List.ext_getElem?
  intro i
  rw [List.getElem?_set]
  by_cases hi : i < 8
  · rw [padTo_get _ _ _ hi, padTo_get _ _ _ hi]
    by_cases e : k = i
    · subst e
      rw [if_pos rfl, if_pos (by rw [padTo_len]; exact hk), if_pos (by omega)]
    · rw [if_neg e]
      by_cases h1 : i < k
      · rw [if_pos h1, if_pos (by omega)]
      · rw [if_neg h1, if_neg (by omega)]
  · rw [if_neg (by omega), List.getElem?_eq_none (by rw [padTo_len]; omega), List.getElem?_eq_none (by rw [padTo_len]; omega)]
theorem mixTo_set (ls SO : List (List Int)) (k : Nat) (hk : k < 8) : (mixTo ls SO k).set k (pad (ls.getD k [])) = mixTo ls SO (k + 1) := by
  apply List.ext_getElem?
  intro i
  rw [List.getElem?_set]
  by_cases hi : i < 8
  · rw [mixTo_get _ _ _ _ hi, mixTo_get _ _ _ _ hi]
    by_cases e : k = i
    · subst e
      rw [if_pos rfl, if_pos (by rw [mixTo_len]; exact hk), if_pos (by omega)]
    · rw [if_neg e]
      by_cases h1 : i < k
      · rw [if_pos h1, if_pos (by omega)]
      · rw [if_neg h1, if_neg (by omega)]
  · rw [if_neg (by omega), List.getElem?_eq_none (by rw [mixTo_len]; omega), List.getElem?_eq_none (by rw [mixTo_len]; omega)]
theorem unsTo_succ (ls SO : List (List Int)) (k : Nat) (hk : k < 8) : unsTo ls SO k ++ [⟨k, (mixTo ls SO k).getD k [], pad (ls.getD k [])⟩] = unsTo ls SO (k + 1) := by
  have : (mixTo ls SO k).getD k [] = SO.getD k [] := by simp only [List.getD, mixTo_get _ _ _ _ hk, if_neg (Nat.lt_irrefl k)]; rfl
  rw [this]
  simp [unsTo, List.range_succ]
theorem fill_pad (b : List Int) (hb : b.length ≤ 64) : (B8 zeros).take 0 ++ B8 b ++ (B8 zeros).drop (0 + b.length) = B8 (pad b) := by
  rw [List.take_zero, List.nil_append, Nat.zero_add, ← B8_drop]
  unfold zeros
  rw [List.drop_replicate, ← B8_append]
  rfl

/-- What eight sectors are behind a crash. -/
theorem keeps_crash (ls SO : List (List Int)) (n : Nat) (mask torn : Int) (hn : n ≤ 8) (hSO : SO.length = 8) (i : Nat) (hi : i < 8) :
    (crashed (mixTo ls SO n) (unsTo ls SO n) mask torn)[i]? = SO[i]? ∨ (bit mask i = true ∧ i < n ∧ ∃ m, (crashed (mixTo ls SO n) (unsTo ls SO n) mask torn)[i]? = some ((pad (ls.getD i [])).take m ++ (SO.getD i []).drop m)) := by
  have hget : ∀ (j : Nat) (u : Un), (unsTo ls SO n)[j]? = some u → j < n ∧ u = ⟨j, SO.getD j [], pad (ls.getD j [])⟩ := by
    intro j u h
    have hj : j < n := by have := (List.getElem?_eq_some_iff.1 h).1; rwa [unsTo_len] at this
    refine ⟨hj, ?_⟩
    simp [unsTo, hj] at h
    exact h.symm
  rcases crash_at SO (mixTo ls SO n) (unsTo ls SO n) mask torn (by rw [mixTo_len, hSO]) (by rw [unsTo_len]; omega)
    (fun j u h => by obtain ⟨h1, rfl⟩ := hget j u h; exact ⟨rfl, by simp [List.getD, show j < SO.length by omega]⟩)
    (fun j hj => by
      rw [unsTo_len] at hj
      by_cases h8 : j < 8
      · rw [mixTo_get _ _ _ _ h8, if_neg (by omega)]; simp [List.getD, show j < SO.length by omega]
      · rw [List.getElem?_eq_none (by rw [mixTo_len]; omega), List.getElem?_eq_none (by omega)]) (by rw [unsTo_len]; omega) i (by omega) with h | ⟨h1, u, m, h2, h3⟩
  · exact .inl h
  · obtain ⟨h4, rfl⟩ := hget i u h2
    exact .inr ⟨h1, h4, m, h3⟩
end Go.Proofs.Ytnjmlkohgbbafaa.K
