/- stream: a volume's stream, whole or of what differs: pure. -/
import Derived.Test.YtodiklpfdfjikaaDoorStr14
import Derived.Test.YtodiklpfdfjikaaDoorCha3
namespace Go.Proofs.YtodiklpfdfjikaaDoor.K
open Go.ChangeShapes Go.WideShapes Go.ChangeAt Go.RowKit
set_option linter.unusedVariables false
set_option linter.unusedSimpArgs false
theorem itemB_len2 {e : Int × List Int} (h0 : 0 ≤ e.1 ∧ e.1 ≤ 256) (h : e.2.length ≤ 32) : (itemB e).length ≤ 38 := by
 have := enc_two h0.1 (by omega)
 rw [itemB, sealC_len, List.length_append]; omega
theorem itemsB_len2 (its : List (Int × List Int)) (h : ∀ e ∈ its, (0 ≤ e.1 ∧ e.1 ≤ 256) ∧ e.2.length ≤ 32) : (itemsB its).length ≤ 38 * its.length := by
 induction its with
 | nil => simp [itemsB]
 | cons e es ih =>
   have h1 := ih (fun x hx => h x (List.mem_cons_of_mem _ hx))
   have h3 := h e List.mem_cons_self
   have h2 := itemB_len2 h3.1 h3.2
   simp only [itemsB, List.flatMap_cons, List.length_append, List.length_cons] at h1 ⊢
   omega
theorem str_len {bl sz fr to : Int} {its : List (Int × List Int)} (h : StreamOk bl sz fr to its) : (strB bl sz fr to its).length ≤ 9800 := by
 have h1 := headB_len bl sz fr to its.length
 have h2 := itemsB_len2 its (fun e he => ⟨(h.it e he).1, by have := (h.it e he).2; have := h.z; omega⟩)
 have h3 := h.len
 rw [strB, List.length_append, bodyB, List.length_append, fourC_len]; omega
def difI (fl : Bool) (A B : List (List Int)) (k : Nat) : List (Int × List Int) := (List.range k).filterMap fun j => if (fl || !decide (A.getD j [] = B.getD j [])) = true then some ((j : Int), B.getD j []) else none
theorem difI_yes {fl : Bool} {A B : List (List Int)} {k : Nat} (h : (fl || !decide (A.getD k [] = B.getD k [])) = true) : difI fl A B (k + 1) = difI fl A B k ++ [((k : Int), B.getD k [])] := by
 simp only [difI, List.range_succ, List.filterMap_append, List.filterMap_cons, List.filterMap_nil, if_pos h]
theorem difI_no {fl : Bool} {A B : List (List Int)} {k : Nat} (h : (fl || !decide (A.getD k [] = B.getD k [])) = false) : difI fl A B (k + 1) = difI fl A B k := by
 have h' : ¬ (fl || !decide (A.getD k [] = B.getD k [])) = true := by rw [h]; decide
 simp only [difI, List.range_succ, List.filterMap_append, List.filterMap_cons, List.filterMap_nil, if_neg h', List.append_nil]
theorem difI_len (fl : Bool) (A B : List (List Int)) : ∀ k, (difI fl A B k).length ≤ k
 | 0 => Nat.zero_le _
 | k + 1 => by
   have := difI_len fl A B k
   cases h : (fl || !decide (A.getD k [] = B.getD k [])) with
   | true => rw [difI_yes h, List.length_append, List.length_singleton]; omega
   | false => rw [difI_no h]; omega
theorem difI_all (A B : List (List Int)) : ∀ k, (difI true A B k).length = k
 | 0 => rfl
 | k + 1 => by rw [difI_yes (by rfl), List.length_append, List.length_singleton, difI_all A B k]
theorem lastB_app (its : List (Int × List Int)) (x : Int × List Int) (j : Nat) (hj : j ≤ its.length) : lastB (its ++ [x]) j = lastB its j := by
 unfold lastB
 split
 · rfl
 rw [List.getD, List.getD, List.getElem?_append_left (by omega)]
theorem difI_inc {fl : Bool} {A B : List (List Int)} {sz : Int} {n : Nat} (hz : ∀ k, k < n → ((B.getD k []).length : Int) = sz) : ∀ (k : Nat), k ≤ n → ∀ (j : Nat) (e : Int × List Int), (difI fl A B k)[j]? = some e → lastB (difI fl A B k) j < e.1 ∧ e.1 < (k : Int) ∧ (e.2.length : Int) = sz
 | 0, _, j, e, he => by simp [difI] at he
 | k + 1, hk, j, e, he => by
   have ih := difI_inc (fl := fl) (A := A) hz k (by omega)
   cases h : (fl || !decide (A.getD k [] = B.getD k [])) with
   | false =>
     rw [difI_no h] at he ⊢
     have := ih j e he
     exact ⟨this.1, by omega, this.2.2⟩
   | true =>
     rw [difI_yes h] at he ⊢
     by_cases hj : j < (difI fl A B k).length
     · rw [List.getElem?_append_left hj] at he
       rw [lastB_app _ _ _ (by omega)]
       have := ih j e he
       exact ⟨this.1, by omega, this.2.2⟩
     have hjl : j = (difI fl A B k).length := by
       have := (List.getElem?_eq_some_iff.1 he).1
       rw [List.length_append, List.length_singleton] at this
       omega
     subst hjl
     rw [List.getElem?_append_right (Nat.le_refl _), Nat.sub_self] at he
     obtain rfl := (Option.some.inj he).symm
     rw [lastB_app _ _ _ (Nat.le_refl _)]
     refine ⟨?_, by dsimp only; omega, hz k (by omega)⟩
     by_cases h0 : (difI fl A B k).length = 0
     · rw [h0]; simp only [lastB, if_pos]; omega
     obtain ⟨q, hq⟩ : ∃ q, (difI fl A B k).length = q + 1 := ⟨(difI fl A B k).length - 1, by omega⟩
     have hg := List.getElem?_eq_getElem (show q < (difI fl A B k).length by omega)
     have h2 := ih q _ hg
     rw [hq, lastB_next (xd := (difI fl A B k)[q].2) hg]
     exact h2.2.1
theorem difI_ok {fl : Bool} {A B : List (List Int)} {bl sz f t : Int} (hb : 1 ≤ bl ∧ bl ≤ 256) (hz : 1 ≤ sz ∧ sz ≤ 32) (hf : 0 ≤ f ∧ f ≤ t) (ht : t ≤ 1099511627776) (hB : ∀ k, k < bl.toNat → ((B.getD k []).length : Int) = sz) : StreamOk bl sz (if fl = true then -1 else f) t (difI fl A B bl.toNat) := by
 refine ⟨hb, hz, by split <;> omega, ⟨by omega, ht⟩, by split <;> omega, fun h => ?_, fun k e he => ?_, ?_⟩
 · cases fl with
   | true => rw [difI_all]; omega
   | false => simp at h; omega
 · have := difI_inc hB _ (Nat.le_refl _) k e he
   exact ⟨this.1, by omega, this.2.2⟩
 have := difI_len fl A B bl.toNat; omega
theorem difI_bytes {fl : Bool} {A B : List (List Int)} (hB : ∀ k, BytesL (B.getD k [])) (n : Nat) : ∀ e ∈ difI fl A B n, BytesL e.2 := fun e he => by
 obtain ⟨j, -, hj⟩ := List.mem_filterMap.1 he
 split at hj
 · obtain rfl := Option.some.inj hj; exact hB j
 cases hj
theorem tmodN (a b : Nat) : (a : Int).tmod ((b : Int) + 1) = ((a % (b + 1) : Nat) : Int) := by
 rw [Int.tmod_eq_emod_of_nonneg (by omega)]
 rfl
theorem stSteps_by (l : List PI) (hl : ∀ x ∈ l, BytesL x.2) : ∀ (L : List (List Int)), (∀ d ∈ L, BytesL d) → ∀ d ∈ l.foldl stStep L, BytesL d := by
 induction l with
 | nil => intro L h; exact h
 | cons x l ih =>
   intro L h
   rw [List.foldl_cons]
   refine ih (fun y hy => hl y (List.mem_cons_of_mem _ hy)) _ (fun d hd => ?_)
   unfold stStep at hd
   split at hd
   · rcases List.mem_or_eq_of_mem_set hd with h1 | rfl
     · exact h d h1
     exact hl x List.mem_cons_self
   exact h d hd
theorem stWs_by (l : List PWr) (hl : WBy l) : ∀ (L : List (List Int)), (∀ d ∈ L, BytesL d) → ∀ d ∈ l.foldl stW L, BytesL d := by
 induction l with
 | nil => intro L h; exact h
 | cons e l ih => intro L h; rw [List.foldl_cons]; exact ih (fun y hy => hl y (List.mem_cons_of_mem _ hy)) _ (stSteps_by e.2 (hl e List.mem_cons_self) L h)
theorem stL_by {ws : List PWr} (h : WBy ws) (bl sz : Int) (t k : Nat) : BytesL ((stL bl sz ws t).getD k []) := by
 by_cases hk : k < (stL bl sz ws t).length
 · rw [List.getD, List.getElem?_eq_getElem hk]
   exact stWs_by _ (fun e he => h e (List.mem_of_mem_take he)) _ (fun d hd9 x hx => by rw [(List.mem_replicate.1 hd9).2] at hx; rw [(List.mem_replicate.1 hx).2]; omega) _ (List.getElem_mem hk)
 rw [List.getD, List.getElem?_eq_none (by omega)]; exact fun x hx => by cases hx
theorem seqn {a b : List Int} (ha : BytesL a) (hb : BytesL b) : ((strOfNums a).toList == (strOfNums b).toList) = decide (a = b) := str_beq ha hb
end Go.Proofs.YtodiklpfdfjikaaDoor.K
