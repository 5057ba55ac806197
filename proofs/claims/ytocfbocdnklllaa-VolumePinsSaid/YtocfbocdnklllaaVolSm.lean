/- What the laws of a volume of numbers need: pins, states. -/
import Derived.Test.YtocfbocdnklllaaVol34
import Derived.Test.YtocfbocdnklllaaVol20
import Derived.Test.YtocfbocdnklllaaG2
namespace Go.Proofs.Ytocfbocdnklllaa.K
open Go.ChangeShapes Go.WideShapes Go.ChangeAt Go.RowKit
set_option linter.unusedVariables false
set_option linter.unusedSimpArgs false

theorem VolS.sm {n : Nat} {x : VolV} (h : VolS n x) : x.place.length ≤ 256 ∧ x.pins.length ≤ n ∧ x.ws.length ≤ n ∧ ∀ e ∈ x.ws, e.2.length ≤ 8 := by
 obtain ⟨h1, h2, h3, h4⟩ := h
 refine ⟨?_, h3, h4, h1.its.2⟩
 obtain ⟨⟨a1, a2, a3, a4, a5, a6, a7, a8, a9, a10, a11⟩, b1, b2, b3⟩ := h1
 have h9 := a9.2
 have : (x.bl + x.pe - 1) / x.pe ≤ x.bl + x.pe - 1 := Int.ediv_le_self _ (by omega)
 have h8 : (x.bl + x.pe - 1) / x.pe ≤ x.bl := by
   have := Int.ediv_lt_of_lt_mul (a := x.bl + x.pe - 1) (b := x.bl + 1) (c := x.pe) (by omega) (by
     have : x.bl * 1 ≤ x.bl * x.pe := Int.mul_le_mul_of_nonneg_left (by omega) (by omega)
     rw [Int.add_mul]; omega)
   omega
 omega
theorem idxFrom_mem (x : Int) : ∀ (zs : List Int) (i : Nat), x ∈ zs → ∃ k : Nat, Lib.idxFrom zs x i = ((i + k : Nat) : Int) ∧ ∃ h : k < zs.length, zs[k] = x
 | [], i, h => by cases h
 | z :: zs, i, h => by
   unfold Lib.idxFrom
   split
   · rename_i e
     refine ⟨0, rfl, by simp, ?_⟩
     first | exact e | exact e.symm | (simp at e; simpa using e) | (simp at e; simpa using e.symm)
   · rename_i e
     have h2 : x ∈ zs := by
       rcases List.mem_cons.1 h with h3 | h3
       · exact absurd h3 (by first | exact fun h => e h | exact fun h => e h.symm | (simp at e; exact fun h => e h) | (simp at e; exact fun h => e h.symm))
       · exact h3
     obtain ⟨k, h1, h4, h5⟩ := idxFrom_mem x zs (i + 1) h2
     exact ⟨k + 1, by rw [h1]; congr 1; omega, by simp; omega, by simpa using h5⟩
theorem unpin_ok {at0 : Int} {pins : List Int} (h : at0 ∈ pins) : ∃ pins', unpinR false at0 pins = (pins', 0) ∧ (at0 :: pins').Perm pins := by
 obtain ⟨k, h1, h2, h3⟩ := idxFrom_mem at0 pins 0 h
 have h4 : Lib.idxOf pins at0 = (k : Int) := by rw [Lib.idxOf, h1, Nat.zero_add]
 refine ⟨pins.take k ++ pins.drop (k + 1), ?_, ?_⟩
 · rw [unpinR, if_neg (by rw [h4]; simp), h4]; rfl
 · have h5 : pins.take k ++ at0 :: pins.drop (k + 1) = pins := by
     rw [← h3, ← List.drop_eq_getElem_cons h2, List.take_append_drop]
   have h6 := (List.perm_middle (a := at0) (l₁ := pins.take k) (l₂ := pins.drop (k + 1))).symm
   rwa [h5] at h6
theorem lowL_mem {n : Nat} {pins : List Int} : lowL n pins = n ∨ lowL n pins ∈ pins := by
 unfold lowL
 suffices h : ∀ (l : List Int) (b : Int), l.foldl min b = b ∨ l.foldl min b ∈ l from h pins n
 intro l
 induction l with
 | nil => intro b; exact .inl rfl
 | cons z zs ih =>
   intro b
   simp only [List.foldl_cons]
   rcases ih (min b z) with h | h
   · rcases Int.le_total b z with h9 | h9
     · left; rw [h]; omega
     · right; rw [h, show min b z = z by omega]; simp
   · right; exact List.mem_cons_of_mem _ h
theorem low_pin {n : Nat} {pins : List Int} {t : Int} (ht : t ≤ n) : lowL n (sortP (pins ++ [t])) = min (lowL n pins) t := by
 have hm : ∀ p, p ∈ sortP (pins ++ [t]) ↔ p ∈ pins ∨ p = t := fun p => by rw [sortP, List.mem_mergeSort]; simp
 obtain ⟨a1, a2⟩ := lowL_le (n := n) (pins := sortP (pins ++ [t]))
 obtain ⟨b1, b2⟩ := lowL_le (n := n) (pins := pins)
 have c1 := a2 t ((hm t).2 (.inr rfl))
 rcases lowL_mem (n := n) (pins := pins) with d | d <;> rcases lowL_mem (n := n) (pins := sortP (pins ++ [t])) with e | e
 · omega
 · rcases (hm _).1 e with f | f
   · have := b2 _ f; omega
   · omega
 · have := a2 _ ((hm _).2 (.inl d)); omega
 · have := a2 _ ((hm _).2 (.inl d))
   rcases (hm _).1 e with f | f
   · have := b2 _ f; omega
   · omega
theorem pinR_ok {fl at0 nd : Int} {pins : List Int} (h1 : fl ≤ at0) (h2 : at0 ≤ nd) : pinR false fl at0 nd pins = (sortP (pins ++ [at0]), 0) := by
 have h : reachR false fl at0 nd = 0 := by rw [reachR, if_neg (by simp), if_neg (by omega), if_neg (by omega)]
 rw [pinR, if_pos h]
theorem pins_step {P L tms : List Int} {k : Nat} {t : Int} (h : P.Perm (L ++ tms.take k)) (hk : tms[k]? = some t) : (sortP (P ++ [t])).Perm (L ++ tms.take (k + 1)) := by
 rw [List.take_add_one, hk, ← List.append_assoc]
 exact (List.mergeSort_perm _ _).trans (h.append_right _)
theorem pins_back {P P' L tms : List Int} {k : Nat} {t : Int} (h : P.Perm (L ++ tms.drop k)) (hk : tms[k]? = some t) (hp : (t :: P').Perm P) : P'.Perm (L ++ tms.drop (k + 1)) := by
 obtain ⟨h1, rfl⟩ := List.getElem?_eq_some_iff.1 hk
 rw [List.drop_eq_getElem_cons h1] at h
 exact List.Perm.cons_inv ((hp.trans h).trans List.perm_middle)
theorem pins_in {P L tms : List Int} {k : Nat} {t : Int} (h : P.Perm (L ++ tms.drop k)) (hk : tms[k]? = some t) : t ∈ P := by
 obtain ⟨h1, rfl⟩ := List.getElem?_eq_some_iff.1 hk
 rw [List.drop_eq_getElem_cons h1] at h
 exact h.mem_iff.2 (List.mem_append_right _ List.mem_cons_self)
theorem pins_eq {P L : List Int} (h : P.Perm L) (h1 : P.Pairwise (· ≤ ·)) (h2 : L.Pairwise (· ≤ ·)) : P = L := h.eq_of_pairwise (le := (· ≤ ·)) (fun a b _ _ h1 h2 => by omega) h1 h2
def pinT (fl n : Int) (z : Int) : Int := fl + z % (n - fl + 1)
theorem pinT_bd {fl n z : Int} (h : fl ≤ n) : fl ≤ pinT fl n z ∧ pinT fl n z ≤ n := by
 have h1 := Int.emod_nonneg z (show n - fl + 1 ≠ 0 by omega)
 have h2 := Int.emod_lt_of_pos z (show 0 < n - fl + 1 by omega)
 unfold pinT; omega

abbrev stZ (bl sz : Int) : List (List Int) := List.replicate bl.toNat (List.replicate sz.toNat 0)
abbrev stL (bl sz : Int) (ws : List PWr) (t : Nat) : List (List Int) := (ws.take t).foldl stW (stZ bl sz)
def wantF (i : Nat) (d : List Int) (x : PI) : List Int := if x.1 = (i : Int) then x.2 else d
set_option maxRecDepth 100000
set_option maxHeartbeats 4000000
end Go.Proofs.Ytocfbocdnklllaa.K
