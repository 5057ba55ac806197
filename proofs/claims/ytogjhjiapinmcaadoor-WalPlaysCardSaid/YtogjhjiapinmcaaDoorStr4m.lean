/- Of stream's general texts what any layer over pack and crc wants. -/
import Derived.Test.YtogjhjiapinmcaaDoorStr1
import Derived.Test.YtogjhjiapinmcaaDoorG2
namespace Go.Proofs.YtogjhjiapinmcaaDoor.K
open Go.ChangeShapes Go.WideShapes Go.ChangeAt Go.RowKit
set_option linter.unusedVariables false
set_option linter.unusedSimpArgs false
theorem numR_suf (x : List Int) (e most : Int) : ∃ k, k ≤ x.length ∧ (numR x e most).2.1 = x.drop k := by
 unfold numR
 split
 · split
   · exact ⟨x.length, Nat.le_refl _, (List.drop_length).symm⟩
   · split
     · exact ⟨x.length, Nat.le_refl _, (List.drop_length).symm⟩
     · rename_i n k _ _
       by_cases hk : k ≤ x.length
       · exact ⟨k, hk, rfl⟩
       · exact ⟨x.length, Nat.le_refl _, by rw [List.drop_length, List.drop_of_length_le (by omega)]⟩
 · exact ⟨0, Nat.zero_le _, rfl⟩
theorem run_conv_own {P : Program} (w : World) (t e e' : TypeId) (g : Nat) (C : Array Value) (fr : Nat × Nat) (n c : Nat) (hb : w.heap[g]? = some (.cells C e' fr)) (ht : P.underlying t = some (.slice e)) (he : P.underlying e = some (.int .u8)) :
   (convert t t (.slice (some ⟨g, 0, none⟩) n c)).run P w = .ok (.slice (some ⟨g, 0, none⟩) n c) (w.freeze ⟨g, C.size, none⟩ 1) := by
 have hsh : w.shape? g = some (e', C.size) := by unfold World.shape?; rw [hb]
 simp [convert, run_underlying ht, run_underlying he, markStringish, hsh]
theorem freeze_block (w : World) (g k b : Nat) (hb : b ≠ g) : (w.freeze ⟨g, k, none⟩ 1).heap[b]? = w.heap[b]? := by
 unfold World.freeze
 rw [if_neg (by decide)]
 show (w.heap.modify g _)[b]? = _
 rw [Array.getElem?_modify, if_neg (fun h => hb h.symm)]
theorem freeze_size (w : World) (g k : Nat) : (w.freeze ⟨g, k, none⟩ 1).heap.size = w.heap.size := by
 unfold World.freeze
 rw [if_neg (by decide)]
 show (w.heap.modify g _).size = _
 rw [Array.size_modify]
theorem freeze_cell (w : World) (g k j : Nat) (C : Array Value) (e : TypeId) (fr : Nat × Nat) (hb : w.heap[g]? = some (.cells C e fr)) : (w.freeze ⟨g, k, none⟩ 1).cell? ⟨g, j, none⟩ = w.cell? ⟨g, j, none⟩ := by
 have h : ∃ fr', (w.freeze ⟨g, k, none⟩ 1).heap[g]? = some (.cells C e fr') := by
   unfold World.freeze
   rw [if_neg (by decide)]
   obtain ⟨lo, hi⟩ := fr
   refine ⟨(if lo == hi then (k, k + 1) else (min lo k, max hi (k + 1))), ?_⟩
   show (w.heap.modify g _)[g]? = _
   rw [Array.getElem?_modify, if_pos rfl, hb]
   rfl
 obtain ⟨fr', h⟩ := h
 unfold World.cell?
 simp [h, hb]
theorem freeze_keep (w : World) (g k : Nat) : Keep (fun b => b = g) w (w.freeze ⟨g, k, none⟩ 1) := by
 refine ⟨?_, ?_, ?_, Nat.le_of_eq (freeze_size w g k).symm, fun b hb hn => freeze_block w g k b hn⟩ <;> (unfold World.freeze; rw [if_neg (by decide)])
theorem e_cvN {P : Program} {X : Cx} {M : Mm} {T : List (Nat × Value)} {n : Nat} {a : Act} {w w0 : World} {K : Act → World → Prop} {Q : Exit → Act → World → Prop} {tt : TypeId} {pos : String} {af : Array Edge} {gd : Option (Nat × Bool)} (ha : Has n T a) (m : MemOk X w0 M w) (i : Nat) {d : Tmp} {t e e' : TypeId} {x : Operand} {g l c : Nat} {zs : List Int} (hm : lk M i = some (.num (.slice (some ⟨g, 0, none⟩) l c) e' .u8 zs)) (hp : evT T x = some (.slice (some ⟨g, 0, none⟩) l c)) (hu : P.underlying t = some (.slice e)) (he : P.underlying e = some (.int .u8)) (ht : Nat.blt d n = true)
   (h : ∀ a' w', Has n ((d, .slice (some ⟨g, 0, none⟩) l c) :: T) a' → MemOk X w0 ((i, .dat (.slice (some ⟨g, 0, none⟩) l c) (.ns .u8 zs)) :: M) w' → K a' w') : Oper.wp P ⟨some d, .convert t t x, tt, pos, af, gd⟩ a w K Q := by
 have how := m.ok i _ hm
 have hev := ha.ev hp
 rcases how.2 with ⟨hv, h0⟩ | ⟨g', cap, cur, hv, hg, hbk, h1, h2, h3, h4⟩
 · injection hv with hv _ _; cases hv
 · injection hv with hv1 hv2 hv3
   injection hv1 with hv1; injection hv1 with hv1 _ _
   subst hv1; subst hv2; subst hv3
   have hc := run_conv_own (P := P) w t e _ g _ _ zs.length c hbk hu he
   have hrun : (execOp a.eval ⟨some d, .convert t t x, tt, pos, af, gd⟩).run P w = .ok (.value (.slice (some ⟨g, 0, none⟩) zs.length c)) (w.freeze ⟨g, cur.size, none⟩ 1) := by
     simp only [execOp, hev, Sem.run_bind, hc, Result.andThen_ok, Sem.run_pure]
   show Oper.upon P _ a K Q _
   rw [hrun]
   have hlt := (Array.getElem?_eq_some_iff.1 hbk).1
   refine h _ _ (ha.put ht _) (m.upd i _ ((freeze_keep w g _).mono (fun b hb => ⟨_, hm, by rw [hb]; rfl⟩)) (fun b hb => by cases hb) (fun _ hf => .ns ⟨_, c, rfl, ⟨h1, h2⟩, .inr ⟨g, 0, rfl, hf g ⟨_, hm, rfl⟩ hg (fun c hc => by cases hc), by rw [freeze_size]; exact hlt, fun j hj => ?_⟩⟩))
   rw [freeze_cell w g _ _ _ _ _ hbk]
   have := how.cellAt j (by omega)
   rw [Nat.zero_add, this]
   simp [hj, List.getD]
abbrev cxt (w : World) : Cx := cx (fun _ => True) w
theorem MemOk.own_new {w0 w : World} {M : Mm} (m : MemOk (cxt w0) w0 M w) {b : Nat} (h : Own M b) : w0.heap.size ≤ b := by
 obtain ⟨i, r, hl, hb⟩ := h
 have hok := m.ok i r hl
 have hn : ¬ b ∈ (cxt w0).bad := List.not_mem_nil
 cases r with
 | dat v d => cases hb
 | box g e cs => injection hb with hb; subst hb; exact hok.2.resolve_right hn
 | num v e k zs => exact (World.ownsRow.lt hok b hb).1
 | row v e k rows => obtain ⟨cs, q, _⟩ := hok; exact (World.ownsRow.lt q b hb).1
 | cel b o vs => cases hb
 | rowC v e k rows cs => exact (World.ownsRow.lt hok.1 b hb).1
 | seg v e k rows => exact (hok.2 b hb).resolve_right hn
 | any g => injection hb with hb; subst hb; exact hok.2.resolve_right hn
 | gone => cases hb
theorem MemOk.old {w0 w : World} {M : Mm} (m : MemOk (cxt w0) w0 M w) {S : Nat → Prop} {v : Value} {d : D} (h : Rd S w0 v d) : Rd (Free (cxt w0) M) w v d :=
 h.mono m.keep.2.2.2.1 (fun b hlt _ => ⟨m.keep.2.2.2.2 b hlt (by simp [cx]), fun _ => trivial, fun ho => by have := m.own_new ho; omega⟩)
theorem pjoin_is {v : Value} {ls : List (List Int)} {w0 : World} {S : List Int} (h : Rd (fun _ => True) w0 v (.l 1 (ls.map bD))) (hl : ls.length ≤ 1000) (hs : sumLen ls ≤ 1000000) (hS : ls.flatten = S) :
   Calls Tryd.prog 27 #[v] w0 fun e w' => ∃ p c, e = .returned (.slice p S.length c) ∧ w'.ownsRow w0.heap.size 5 1 (.slice p S.length c) S.length (S.map (Value.int .u8)) ∧ Below w0.heap.size w0 w' := by
 subst hS; exact pjoin_x v ls w0 h hl hs
theorem bytesApp {a b : List Int} (ha : BytesL a) (hb : BytesL b) : BytesL (a ++ b) := fun x hx => (List.mem_append.1 hx).elim (ha x) (hb x)
theorem encBytes {x : Int} (h : x ≤ 18446744073709551615) : BytesL (enc x) := enc_bytes x h
theorem fourBytes (c : Int) : BytesL (fourC c) := fun x hx => by
 simp only [fourC, List.mem_cons, List.not_mem_nil, or_false] at hx
 omega
theorem sealBytes {l : List Int} (h : BytesL l) : BytesL (sealC l) := bytesApp h (fourBytes _)
end Go.Proofs.YtogjhjiapinmcaaDoor.K
