/- stream: the bytes of a stream, and what is read of bytes: pure. -/
import Derived.Test.YtcccomafnmdlfaaDoorStr3
namespace Go.Proofs.YtcccomafnmdlfaaDoor.K
open Go.ChangeShapes Go.WideShapes Go.ChangeAt Go.RowKit
set_option linter.unusedVariables false
set_option linter.unusedSimpArgs false
def magicB : List Int := [77, 69, 77, 79, 49]
def itemB (e : Int × List Int) : List Int := sealC (enc e.1 ++ e.2)
def itemsB (its : List (Int × List Int)) : List Int := its.flatMap itemB
def headB (bl sz fr to : Int) (n : Nat) : List Int := sealC (magicB ++ encs [bl, sz, fr + 1, to, (n : Int)])
def bodyB (bl sz fr to : Int) (its : List (Int × List Int)) : List Int := headB bl sz fr to its.length ++ itemsB its
def strB (bl sz fr to : Int) (its : List (Int × List Int)) : List Int := bodyB bl sz fr to its ++ fourC (sumC [bodyB bl sz fr to its])
theorem itemsB_snoc {its : List (Int × List Int)} {k : Nat} {e : Int × List Int} (h : its[k]? = some e) : itemsB (its.take (k + 1)) = itemsB (its.take k) ++ itemB e := by
 rw [take_snoc h]; simp [itemsB]
theorem itemB_len {e : Int × List Int} (h : e.2.length ≤ 32) : (itemB e).length ≤ 46 := by
 have := (enc_len e.1).1
 rw [itemB, sealC_len, List.length_append]; omega
theorem itemsB_len (its : List (Int × List Int)) (h : ∀ e ∈ its, e.2.length ≤ 32) : (itemsB its).length ≤ 46 * its.length := by
 induction its with
 | nil => simp [itemsB]
 | cons e es ih =>
   have h1 := ih (fun x hx => h x (List.mem_cons_of_mem _ hx))
   have h2 := itemB_len (h e List.mem_cons_self)
   simp only [itemsB, List.flatMap_cons, List.length_append, List.length_cons] at h1 ⊢
   omega
theorem headB_len (bl sz fr to : Int) (n : Nat) : (headB bl sz fr to n).length ≤ 60 := by
 have h := encs_len [bl, sz, fr + 1, to, (n : Int)]
 rw [headB, sealC_len, List.length_append]
 simp only [List.length_cons, List.length_nil, magicB] at h ⊢
 omega
theorem numR_suf (x : List Int) (e most : Int) : ∃ k, k ≤ x.length ∧ (numR x e most).2.1 = x.drop k := by
 unfold numR
 split
 · split
   · exact ⟨x.length, Nat.le_refl _, (List.drop_length).symm⟩
   split
   · exact ⟨x.length, Nat.le_refl _, (List.drop_length).symm⟩
   rename_i n k _ _
   by_cases hk : k ≤ x.length
   · exact ⟨k, hk, rfl⟩
   exact ⟨x.length, Nat.le_refl _, by rw [List.drop_length, List.drop_of_length_le (by omega)]⟩
 exact ⟨0, Nat.zero_le _, rfl⟩
theorem suf_drop {x y : List Int} (h : ∃ k, k ≤ x.length ∧ y = x.drop k) : x.drop (x.length - y.length) = y := by
 obtain ⟨k, hk, rfl⟩ := h
 rw [List.length_drop]; congr 1; omega
theorem suf_trans {x y z : List Int} (h : ∃ k, k ≤ x.length ∧ y = x.drop k) (h2 : ∃ k, k ≤ y.length ∧ z = y.drop k) : ∃ k, k ≤ x.length ∧ z = x.drop k := by
 obtain ⟨k, hk, rfl⟩ := h
 obtain ⟨j, hj, rfl⟩ := h2
 rw [List.length_drop] at hj
 exact ⟨k + j, by omega, by rw [List.drop_drop]⟩
def headR (x : List Int) : Int × Int × Int × Int × Int × List Int :=
 let a := numR x 0 256
 let b := numR a.2.1 a.2.2 32
 let c := numR b.2.1 b.2.2 1099511627777
 let d := numR c.2.1 c.2.2 1099511627776
 let n := numR d.2.1 d.2.2 256
 (a.1, b.1, c.1 - 1, d.1, n.1, n.2.1.drop 4)
def itemR (sz : Int) (x : List Int) : Option ((Int × List Int) × List Int) :=
 let a := numR (x.take 2) 0 256
 let r := x.drop ((x.take 2).length - a.2.1.length)
 if a.2.2 ≠ 0 ∨ (r.length : Int) < sz + 4 then none else some ((a.1, r.take sz.toNat), r.drop (sz.toNat + 4))
def itemsR (sz : Int) : Nat → List Int → List (Int × List Int)
 | 0, _ => []
 | n + 1, x => match itemR sz x with
   | none => []
   | some (e, r) => e :: itemsR sz n r
def takeE (x : List Int) : Int × Int × Int × Int × List (Int × List Int) :=
 if x.take 5 = magicB then ((headR (x.drop 5)).1, (headR (x.drop 5)).2.1, (headR (x.drop 5)).2.2.1, (headR (x.drop 5)).2.2.2.1, itemsR (headR (x.drop 5)).2.1 (headR (x.drop 5)).2.2.2.2.1.toNat (headR (x.drop 5)).2.2.2.2.2) else (0, 0, 0, 0, [])
theorem enc_two {x : Int} (h0 : 0 ≤ x) (h1 : x < 16384) : (enc x).length ≤ 2 := by
 unfold enc
 rw [show (9 : Nat) = 7 + 1 + 1 from rfl, encF]
 split
 · simp
 rw [encF, if_pos (by omega)]; simp
theorem itemR_item {e : Int × List Int} {sz : Int} (rest : List Int) (h0 : 0 ≤ e.1 ∧ e.1 ≤ 256) (hz : (e.2.length : Int) = sz) : itemR sz (itemB e ++ rest) = some (e, rest) := by
 obtain ⟨b, d⟩ := e
 dsimp only at h0 hz
 have hl := enc_two h0.1 (by omega)
 have e1 : itemB (b, d) ++ rest = enc b ++ (d ++ (fourC (sumC [enc b ++ d]) ++ rest)) := by simp [itemB, sealC]
 obtain ⟨Y, hY⟩ : ∃ Y, d ++ (fourC (sumC [enc b ++ d]) ++ rest) = Y := ⟨_, rfl⟩
 have e2 : (enc b ++ Y).take 2 = enc b ++ Y.take (2 - (enc b).length) := by
   rw [List.take_append, List.take_of_length_le hl]
 have e3 : numR ((enc b ++ Y).take 2) 0 256 = (b, Y.take (2 - (enc b).length), 0) := by
   rw [e2]; exact numR_ok b h0.1 (by omega) _ 256 h0.2
 have e4 : (enc b ++ Y).drop (((enc b ++ Y).take 2).length - (Y.take (2 - (enc b).length)).length) = Y := by
   rw [e2, List.length_append, Nat.add_sub_cancel, List.drop_left]
 have hYl : Y.length = d.length + 4 + rest.length := by rw [← hY]; simp [fourC_len]; omega
 have hd : sz.toNat = d.length := by omega
 rw [e1, hY]
 unfold itemR
 simp only [e3, e4]
 rw [if_neg (by omega), hd, ← hY]
 congr 2
 · rw [List.take_left]
 rw [← List.drop_drop, List.drop_left]
 exact List.drop_left (l₁ := fourC _)
theorem itemsR_items {sz : Int} : ∀ (its : List (Int × List Int)) (rest : List Int), (∀ e ∈ its, (0 ≤ e.1 ∧ e.1 ≤ 256) ∧ (e.2.length : Int) = sz) → itemsR sz its.length (itemsB its ++ rest) = its
 | [], _, _ => rfl
 | e :: es, rest, h => by
   have h1 := h e List.mem_cons_self
   show (match itemR sz (itemsB (e :: es) ++ rest) with | none => [] | some (e, r) => e :: itemsR sz es.length r) = e :: es
   rw [show itemsB (e :: es) ++ rest = itemB e ++ (itemsB es ++ rest) by simp [itemsB], itemR_item _ h1.1 h1.2]
   simp only []
   rw [itemsR_items es rest (fun x hx => h x (List.mem_cons_of_mem _ hx))]
theorem headR_head {bl sz fr to : Int} {n : Nat} (rest : List Int) (h : HeadOk bl sz fr to) (hn : n ≤ 256) : headR (encs [bl, sz, fr + 1, to, (n : Int)] ++ (fourC (sumC [magicB ++ encs [bl, sz, fr + 1, to, (n : Int)]]) ++ rest)) = (bl, sz, fr, to, (n : Int), rest) := by
 obtain ⟨⟨a1, a2⟩, ⟨a3, a4⟩, a5, ⟨a6, a7⟩, a8⟩ := h
 obtain ⟨Y, hY⟩ : ∃ Y, fourC (sumC [magicB ++ encs [bl, sz, fr + 1, to, (n : Int)]]) ++ rest = Y := ⟨_, rfl⟩
 have e1 : encs [bl, sz, fr + 1, to, (n : Int)] ++ Y = enc bl ++ (enc sz ++ (enc (fr + 1) ++ (enc to ++ (enc (n : Int) ++ Y)))) := by simp [encs]
 rw [hY, e1]
 unfold headR
 rw [numR_ok bl (by omega) (by omega) _ 256 (by omega)]
 dsimp only
 rw [numR_ok sz (by omega) (by omega) _ 32 (by omega)]
 dsimp only
 rw [numR_ok (fr + 1) (by omega) (by omega) _ _ (by omega)]
 dsimp only
 rw [numR_ok to (by omega) (by omega) _ _ (by omega)]
 dsimp only
 rw [numR_ok (n : Int) (by omega) (by omega) _ _ (by omega)]
 dsimp only
 rw [← hY, show fr + 1 - 1 = fr by omega]
 have : (fourC (sumC [magicB ++ encs [bl, sz, fr + 1, to, (n : Int)]]) ++ rest).drop 4 = rest := List.drop_left (l₁ := fourC _)
 rw [this]
theorem StreamOk.it {bl sz fr to : Int} {its : List (Int × List Int)} (h : StreamOk bl sz fr to its) : ∀ e ∈ its, (0 ≤ e.1 ∧ e.1 ≤ 256) ∧ (e.2.length : Int) = sz := fun e he => by
 obtain ⟨k, hk, rfl⟩ := List.getElem_of_mem he
 have h1 := h.i k _ (List.getElem?_eq_getElem hk)
 have h2 : ∀ j, j ≤ its.length → -1 ≤ lastB its j := fun j => by
   induction j with
   | zero => intro _; simp [lastB]
   | succ j ih =>
     intro hj
     have h3 := h.i j _ (List.getElem?_eq_getElem (show j < its.length by omega))
     have h4 := ih (by omega)
     have h5 : lastB its (j + 1) = its[j].1 := lastB_next (xd := its[j].2) (List.getElem?_eq_getElem (show j < its.length by omega))
     rw [h5]; omega
 have h3 := h2 k (by omega)
 have h4 := h.b
 exact ⟨⟨by omega, by omega⟩, h1.2.2⟩
theorem takeE_body {bl sz fr to : Int} {its : List (Int × List Int)} (h : StreamOk bl sz fr to its) : takeE (bodyB bl sz fr to its) = (bl, sz, fr, to, its) := by
 have e1 : bodyB bl sz fr to its = magicB ++ (encs [bl, sz, fr + 1, to, (its.length : Int)] ++ (fourC (sumC [magicB ++ encs [bl, sz, fr + 1, to, (its.length : Int)]]) ++ itemsB its)) := by simp [bodyB, headB, sealC]
 have e2 := headR_head (itemsB its) h.head (n := its.length) h.len
 obtain ⟨Y, hY⟩ : ∃ Y, encs [bl, sz, fr + 1, to, (its.length : Int)] ++ (fourC (sumC [magicB ++ encs [bl, sz, fr + 1, to, (its.length : Int)]]) ++ itemsB its) = Y := ⟨_, rfl⟩
 rw [hY] at e1 e2
 have e3 : (magicB ++ Y).take 5 = magicB := List.take_left (l₁ := magicB)
 have e4 : (magicB ++ Y).drop 5 = Y := List.drop_left (l₁ := magicB)
 have e5 := itemsR_items its [] h.it
 rw [List.append_nil] at e5
 rw [e1]
 unfold takeE
 rw [if_pos e3, e4, e2]
 dsimp only
 rw [show ((its.length : Int)).toNat = its.length by omega, e5]
theorem open_str (bl sz fr to : Int) (its : List (Int × List Int)) : openB (strB bl sz fr to its) = true ∧ openC (strB bl sz fr to its) = bodyB bl sz fr to its ∧ 4 ≤ (strB bl sz fr to its).length := by
 obtain ⟨X, hX⟩ : ∃ X, bodyB bl sz fr to its = X := ⟨_, rfl⟩
 have e : strB bl sz fr to its = X ++ fourC (sumC [X]) := by rw [strB, hX]
 have hl : (X ++ fourC (sumC [X])).length - 4 = X.length := by rw [List.length_append, fourC_len]; omega
 have h1 : openB (X ++ fourC (sumC [X])) = true := by
   rw [openB, decide_eq_true_eq, hl, List.take_left, List.drop_left]
   exact ⟨by rw [List.length_append, fourC_len]; omega, rfl⟩
 rw [e]
 refine ⟨h1, ?_, by rw [List.length_append, fourC_len]; omega⟩
 rw [openC, if_pos h1, hl, List.take_left]; exact hX.symm
theorem strB_inj {bl sz fr to bl' sz' fr' to' : Int} {its its' : List (Int × List Int)} (h : StreamOk bl sz fr to its) (h' : StreamOk bl' sz' fr' to' its') (e : strB bl sz fr to its = strB bl' sz' fr' to' its') : (bl, sz, fr, to, its) = (bl', sz', fr', to', its') := by
 have h1 := (open_str bl sz fr to its).2.1
 rw [e, (open_str bl' sz' fr' to' its').2.1] at h1
 rw [← takeE_body h, ← takeE_body h', h1]
theorem e_litB {P : Program} {X : Cx} {M : Mm} {T : List (Nat × Value)} {n : Nat} {a : Act} {w w0 : World} {K : Act → World → Prop} {Q : Exit → Act → World → Prop} {tt : TypeId} {pos : String} {af : Array Edge} {gd : Option (Nat × Bool)} (ha : Has n T a) (m : MemOk X w0 M w) (i : Nat) {d : Tmp} {t e : TypeId} {x : Operand} {p : Option Addr} {l c : Nat} (hp : evT T x = some (.slice p l c)) (hu : P.underlying t = some (.slice e)) {z : Value} {bytes : Nat} (hinf : (P.info? e).map (fun i => (i.zero, i.size, i.bytes)) = some (some z, 1, bytes)) (ht : Nat.blt d n = true)
   (h : ∀ g a' w', Has n ((d, .slice (some ⟨g, 0, none⟩) 1 1) :: T) a' → MemOk X w0 ((i, .box g e [.slice p l c]) :: M) w' → K a' w') : Oper.wp P ⟨some d, .buildSlice t 1 #[(0, x)], tt, pos, af, gd⟩ a w K Q := by
 obtain ⟨ie, hie, hzz, hsz, -⟩ := info_parts hinf
 have hp0 : evLit T 0 [(0, x)] = some [.slice p l c] := by simp [evLit, hp]
 have hpl := ha.evLit hp0
 have hf : Instr.fill (fun i => some (i * ie.size, ie.size)) ((Array.range (1 * ie.size)).map (z.cells[· % z.cells.size]!)) (#[(0, x)].map fun (i, x) => (i, a.eval x)).toList = some [Value.slice p l c].toArray := by
   rw [Array.toList_map, hsz]
   have := Great.fill_flat [Value.slice p l c] ((Array.range (1 * 1)).map (z.cells[· % z.cells.size]!)) (fun v hv => by obtain rfl := List.mem_singleton.1 hv; rfl) (by simp)
   rw [← this]
   congr 1
 have hr := run_buildSlice (P := P) w t e 1 _ _ ie z hu hie hzz (by rw [hsz]; omega) (by rw [hsz]; omega) hf
 have hrun : (execOp a.eval ⟨some d, .buildSlice t 1 #[(0, x)], tt, pos, af, gd⟩).run P w = .ok (.value (.slice (some ⟨w.heap.size, 0, none⟩) 1 1)) (w.alloc (.cells [Value.slice p l c].toArray e)) := by
   simp only [execOp, Sem.run_bind, hr, Result.andThen_ok, Sem.run_pure]
 show Oper.upon P _ a K Q _
 rw [hrun]
 exact h _ _ _ (ha.put ht _) (m.box i e #[.slice p l c])
theorem run_conv_own {P : Program} (w : World) (t e e' : TypeId) (g : Nat) (C : Array Value) (fr : Nat × Nat) (n c : Nat) (hb : w.heap[g]? = some (.cells C e' fr)) (ht : P.underlying t = some (.slice e)) (he : P.underlying e = some (.int .u8)) :
   (convert t t (.slice (some ⟨g, 0, none⟩) n c)).run P w = .ok (.slice (some ⟨g, 0, none⟩) n c) (w.freeze ⟨g, C.size, none⟩ 1) := by
 have hsh : w.shape? g = some (e', C.size) := by unfold World.shape?; rw [hb]
 simp [convert, run_underlying ht, run_underlying he, markStringish, hsh]
theorem freeze_block (w : World) (g k b : Nat) (hb : b ≠ g) : (w.freeze ⟨g, k, none⟩ 1).heap[b]? = w.heap[b]? := by
 unfold World.freeze
 rw [if_neg (by decide)]
 show (w.heap.modify g _)[b]? = _
 rw [Array.getElem?_modify, if_neg (fun h => hb h.symm)]
theorem freeze_size (w : World) (g k : Nat) : (w.freeze ⟨g, k, none⟩ 1).heap.size = w.heap.size := by
 unfold World.freeze
 rw [if_neg (by decide)]
 show (w.heap.modify g _).size = _
 rw [Array.size_modify]
theorem freeze_cell (w : World) (g k j : Nat) (C : Array Value) (e : TypeId) (fr : Nat × Nat) (hb : w.heap[g]? = some (.cells C e fr)) : (w.freeze ⟨g, k, none⟩ 1).cell? ⟨g, j, none⟩ = w.cell? ⟨g, j, none⟩ := by
 have h : ∃ fr', (w.freeze ⟨g, k, none⟩ 1).heap[g]? = some (.cells C e fr') := by
   unfold World.freeze
   rw [if_neg (by decide)]
   obtain ⟨lo, hi⟩ := fr
   refine ⟨(if lo == hi then (k, k + 1) else (min lo k, max hi (k + 1))), ?_⟩
   show (w.heap.modify g _)[g]? = _
   rw [Array.getElem?_modify, if_pos rfl, hb]
   rfl
 obtain ⟨fr', h⟩ := h
 unfold World.cell?
 simp [h, hb]
theorem freeze_keep (w : World) (g k : Nat) : Keep (fun b => b = g) w (w.freeze ⟨g, k, none⟩ 1) := by
 refine ⟨?_, ?_, ?_, Nat.le_of_eq (freeze_size w g k).symm, fun b hb hn => freeze_block w g k b hn⟩ <;> (unfold World.freeze; rw [if_neg (by decide)])
theorem e_cvN {P : Program} {X : Cx} {M : Mm} {T : List (Nat × Value)} {n : Nat} {a : Act} {w w0 : World} {K : Act → World → Prop} {Q : Exit → Act → World → Prop} {tt : TypeId} {pos : String} {af : Array Edge} {gd : Option (Nat × Bool)} (ha : Has n T a) (m : MemOk X w0 M w) (i : Nat) {d : Tmp} {t e e' : TypeId} {x : Operand} {g l c : Nat} {zs : List Int} (hm : lk M i = some (.num (.slice (some ⟨g, 0, none⟩) l c) e' .u8 zs)) (hp : evT T x = some (.slice (some ⟨g, 0, none⟩) l c)) (hu : P.underlying t = some (.slice e)) (he : P.underlying e = some (.int .u8)) (ht : Nat.blt d n = true)
   (h : ∀ a' w', Has n ((d, .slice (some ⟨g, 0, none⟩) l c) :: T) a' → MemOk X w0 ((i, .dat (.slice (some ⟨g, 0, none⟩) l c) (.ns .u8 zs)) :: M) w' → K a' w') : Oper.wp P ⟨some d, .convert t t x, tt, pos, af, gd⟩ a w K Q := by
 have how := m.ok i _ hm
 have hev := ha.ev hp
 rcases how.2 with ⟨hv, h0⟩ | ⟨g', cap, cur, hv, hg, hbk, h1, h2, h3, h4⟩
 · injection hv with hv _ _; cases hv
 injection hv with hv1 hv2 hv3
 injection hv1 with hv1; injection hv1 with hv1 _ _
 subst hv1; subst hv2; subst hv3
 have hc := run_conv_own (P := P) w t e _ g _ _ zs.length c hbk hu he
 have hrun : (execOp a.eval ⟨some d, .convert t t x, tt, pos, af, gd⟩).run P w = .ok (.value (.slice (some ⟨g, 0, none⟩) zs.length c)) (w.freeze ⟨g, cur.size, none⟩ 1) := by
   simp only [execOp, hev, Sem.run_bind, hc, Result.andThen_ok, Sem.run_pure]
 show Oper.upon P _ a K Q _
 rw [hrun]
 have hlt := (Array.getElem?_eq_some_iff.1 hbk).1
 refine h _ _ (ha.put ht _) (m.upd i _ ((freeze_keep w g _).mono (fun b hb => ⟨_, hm, by rw [hb]; rfl⟩)) (fun b hb => by cases hb) (fun _ hf => .ns ⟨_, c, rfl, ⟨h1, h2⟩, .inr ⟨g, 0, rfl, hf g ⟨_, hm, rfl⟩ hg (fun c hc => by cases hc), by rw [freeze_size]; exact hlt, fun j hj => ?_⟩⟩))
 rw [freeze_cell w g _ _ _ _ _ hbk]
 have := how.cellAt j (by omega)
 rw [Nat.zero_add, this]
 simp [hj, List.getD]
abbrev cxt (w : World) : Cx := cx (fun _ => True) w
theorem MemOk.own_new {w0 w : World} {M : Mm} (m : MemOk (cxt w0) w0 M w) {b : Nat} (h : Own M b) : w0.heap.size ≤ b := by
 obtain ⟨i, r, hl, hb⟩ := h
 have hok := m.ok i r hl
 have hn : ¬ b ∈ (cxt w0).bad := List.not_mem_nil
 cases r with
 | dat v d => cases hb
 | box g e cs => injection hb with hb; subst hb; exact hok.2.resolve_right hn
 | num v e k zs => exact (World.ownsRow.lt hok b hb).1
 | row v e k rows => obtain ⟨cs, q, _⟩ := hok; exact (World.ownsRow.lt q b hb).1
 | cel b o vs => cases hb
 | rowC v e k rows cs => exact (World.ownsRow.lt hok.1 b hb).1
 | seg v e k rows => exact (hok.2 b hb).resolve_right hn
 | any g => injection hb with hb; subst hb; exact hok.2.resolve_right hn
 | gone => cases hb
theorem MemOk.old {w0 w : World} {M : Mm} (m : MemOk (cxt w0) w0 M w) {S : Nat → Prop} {v : Value} {d : D} (h : Rd S w0 v d) : Rd (Free (cxt w0) M) w v d :=
 h.mono m.keep.2.2.2.1 (fun b hlt _ => ⟨m.keep.2.2.2.2 b hlt (by simp [cx]), fun _ => trivial, fun ho => by have := m.own_new ho; omega⟩)
theorem clists_box {w : World} {g : Nat} {e : TypeId} {v : Value} {bs : List Int} (hB : Blk w g e [v]) (hv : IsNums .u8 w v bs) : CLists w (.slice (some ⟨g, 0, none⟩) 1 1) [bs] := by
 refine ⟨_, 1, rfl, .inr ⟨g, 0, rfl, hB.lt, fun j hj => ?_⟩⟩
 obtain rfl : j = 0 := by simpa using hj
 exact ⟨v, hB.cell 0, hv⟩
theorem pjoin_is {v : Value} {ls : List (List Int)} {w0 : World} {S : List Int} (h : Rd (fun _ => True) w0 v (.l 1 (ls.map bD))) (hl : ls.length ≤ 1000) (hs : sumLen ls ≤ 1000000) (hS : ls.flatten = S) :
   Calls Tryd.prog 70 #[v] w0 fun e w' => ∃ p c, e = .returned (.slice p S.length c) ∧ w'.ownsRow w0.heap.size 5 1 (.slice p S.length c) S.length (S.map (Value.int .u8)) ∧ Below w0.heap.size w0 w' := by
 subst hS; exact pjoin_x v ls w0 h hl hs
theorem psum_b {w0 : World} {g : Nat} {e : TypeId} {v : Value} {bs : List Int} (hT : TabOk w0) (hB : Blk w0 g e [v]) (hv : IsNums .u8 w0 v bs) (hb : BytesL bs) (hl : bs.length ≤ 1000000) :
   Calls Tryd.prog 64 #[.slice (some ⟨g, 0, none⟩) 1 1] w0 fun e w' => e = .returned (.int .u32 (sumC [bs])) ∧ Below w0.heap.size w0 w' := by
 refine (sum_any _ [bs] w0 hT (clists_box hB hv) (fun j hj => ?_) (by simp)).mono fun e w' h => ?_
 · obtain rfl : j = 0 := by simpa using hj
   exact ⟨bytesLB hb, hl⟩
 obtain ⟨rfl, rfl⟩ := h
 exact ⟨rfl, Below.refl _ _⟩
theorem b63 {l : List Int} (h : ∀ x ∈ l, 0 ≤ x ∧ x ≤ 9223372036854775807) : ∀ k, k < l.length → 0 ≤ l.getD k 0 ∧ l.getD k 0 ≤ 9223372036854775807 := fun k hk => by
 rw [List.getD, List.getElem?_eq_getElem hk]; exact h _ (List.getElem_mem hk)
theorem bytesApp {a b : List Int} (ha : BytesL a) (hb : BytesL b) : BytesL (a ++ b) := fun x hx => (List.mem_append.1 hx).elim (ha x) (hb x)
theorem encBytes {x : Int} (h : x ≤ 18446744073709551615) : BytesL (enc x) := enc_bytes x h
theorem encsBytes {l : List Int} (h : ∀ x ∈ l, x ≤ 18446744073709551615) : BytesL (encs l) := fun x hx => by
 obtain ⟨y, hy, hxy⟩ := List.mem_flatMap.1 hx
 exact enc_bytes y (h y hy) x hxy
theorem fourBytes (c : Int) : BytesL (fourC c) := fun x hx => by
 simp only [fourC, List.mem_cons, List.not_mem_nil, or_false] at hx
 omega
theorem sealBytes {l : List Int} (h : BytesL l) : BytesL (sealC l) := bytesApp h (fourBytes _)
theorem magicBytes : BytesL magicB := fun x hx => by
 simp only [magicB, List.mem_cons, List.not_mem_nil, or_false] at hx
 omega
theorem itemsBytes {its : List (Int × List Int)} (h : ∀ e ∈ its, e.1 ≤ 256 ∧ BytesL e.2) : BytesL (itemsB its) := fun x hx => by
 obtain ⟨e, he, hx⟩ := List.mem_flatMap.1 hx
 have h1 := h e he
 exact sealBytes (bytesApp (encBytes (by omega)) h1.2) x hx
theorem headBytes {bl sz fr to : Int} {n : Nat} (h : HeadOk bl sz fr to) (hn : n ≤ 256) : BytesL (headB bl sz fr to n) := by
 obtain ⟨⟨a1, a2⟩, ⟨a3, a4⟩, a5, ⟨a6, a7⟩, a8⟩ := h
 refine sealBytes (bytesApp magicBytes (encsBytes fun x hx => ?_))
 simp only [List.mem_cons, List.not_mem_nil, or_false] at hx
 omega
theorem bodyBytes {bl sz fr to : Int} {its : List (Int × List Int)} (h : StreamOk bl sz fr to its) (hb : ∀ e ∈ its, BytesL e.2) : BytesL (bodyB bl sz fr to its) := bytesApp (headBytes h.head h.len) (itemsBytes fun e he => ⟨(h.it e he).1.2, hb e he⟩)
theorem strBytes {bl sz fr to : Int} {its : List (Int × List Int)} (h : StreamOk bl sz fr to its) (hb : ∀ e ∈ its, BytesL e.2) : BytesL (strB bl sz fr to its) := bytesApp (bodyBytes h hb) (fourBytes _)
theorem body_len {bl sz fr to : Int} {its : List (Int × List Int)} (h : StreamOk bl sz fr to its) : (bodyB bl sz fr to its).length ≤ 12000 := by
 have h1 := headB_len bl sz fr to its.length
 have h2 := itemsB_len its (fun e he => by have := (h.it e he).2; have := h.z; omega)
 have h3 := h.len
 rw [bodyB, List.length_append]; omega
end Go.Proofs.YtcccomafnmdlfaaDoor.K
