/- volume: what a call does keeps a volume right. -/
import Derived.Test.YtkdnhndjjfjppaaVol17
namespace Go.Proofs.Ytkdnhndjjfjppaa.K
open Go.ChangeShapes Go.WideShapes Go.ChangeAt Go.RowKit
set_option linter.unusedVariables false
set_option linter.unusedSimpArgs false
abbrev PI := Int × List Int
abbrev PWr := Int × List PI
theorem pinspre_iff {fl : Int} {n : Nat} {pins : List Int} : PinsPre fl n pins pins.length ↔ pins.Pairwise (· ≤ ·) ∧ ∀ p ∈ pins, fl ≤ p ∧ p ≤ n := by
 constructor
 · intro h
   have hadj : ∀ j, j + 1 < pins.length → pins.getD j 0 ≤ pins.getD (j + 1) 0 := fun j hj => (h (j + 1) hj).1
   have hmono : ∀ d i, i + d < pins.length → pins.getD i 0 ≤ pins.getD (i + d) 0 := by
     intro d
     induction d with
     | zero => intro i _; exact Int.le_refl _
     | succ d ih => intro i hi; have h1 := ih i (by omega); have h2 := hadj (i + d) (by omega); rw [Nat.add_assoc] at h2; omega
   refine ⟨List.pairwise_iff_getElem.2 (fun i j hi hj hij => ?_), fun p hp => ?_⟩
   · have h1 := hmono (j - i) i (by omega)
     rw [show i + (j - i) = j by omega, List.getD, List.getD, List.getElem?_eq_getElem hi, List.getElem?_eq_getElem hj] at h1
     exact h1
   obtain ⟨j, hj, rfl⟩ := List.getElem_of_mem hp
   have h0 : fl ≤ pins.getD 0 0 := (h 0 (by omega)).1
   have h1 := hmono j 0 (by omega)
   have h2 := (h j hj).2
   rw [Nat.zero_add] at h1
   rw [show pins[j] = pins.getD j 0 by rw [List.getD, List.getElem?_eq_getElem hj]; rfl]
   omega
 rintro ⟨h1, h2⟩ j hj
 have hm : pins.getD j 0 ∈ pins := getD_mem hj
 refine ⟨?_, (h2 _ hm).2⟩
 cases j with
 | zero => exact (h2 _ hm).1
 | succ j =>
   show pins.getD j 0 ≤ pins.getD (j + 1) 0
   rw [List.getD, List.getD, List.getElem?_eq_getElem (by omega), List.getElem?_eq_getElem hj]
   exact List.pairwise_iff_getElem.1 h1 j (j + 1) (by omega) hj (by omega)
theorem lowL_le {n : Nat} {pins : List Int} : lowL n pins ≤ n ∧ ∀ p ∈ pins, lowL n pins ≤ p := by
 unfold lowL
 have key : ∀ (l : List Int) (x : Int), l.foldl min x ≤ x ∧ ∀ p ∈ l, l.foldl min x ≤ p := by
   intro l
   induction l with
   | nil => intro x; exact ⟨Int.le_refl _, fun p hp => by cases hp⟩
   | cons y r ih =>
     intro x
     obtain ⟨h1, h2⟩ := ih (min x y)
     refine ⟨by simp only [List.foldl_cons]; omega, fun p hp => ?_⟩
     simp only [List.foldl_cons]
     rcases List.mem_cons.1 hp with rfl | hp
     · omega
     exact h2 p hp
 exact key pins n
theorem wrpre_app2 {bl sz : Int} {ws : List PWr} {it : List PI} (h : WrPre bl sz ws ws.length) (hI : ItemsR bl sz it) : WrPre bl sz (ws ++ [((ws.length : Int) + 1, it)]) (ws.length + 1) := fun j hj => by
 rcases Nat.lt_or_ge j ws.length with h1 | h1
 · have h2 := h j h1
   rw [show (ws ++ [((ws.length : Int) + 1, it)]).getD j w1 = ws.getD j w1 by simp [List.getD, List.getElem?_append, h1]]
   exact h2
 obtain rfl : j = ws.length := by omega
 rw [show (ws ++ [((ws.length : Int) + 1, it)]).getD ws.length w1 = ((ws.length : Int) + 1, it) by simp [List.getD]]
 exact ⟨rfl, hI⟩
section
variable {vo bl sz pe to ne fl : Int} {hi : Bool} {place pins : List Int} {ws : List PWr}
theorem VolR.sorted (h : VolR vo bl sz pe to ne fl hi place pins ws) : pins.Pairwise (· ≤ ·) := by
 obtain ⟨h1, h2, h3, h4, h5, h6, h7, h8, h9⟩ := h
 exact (pinspre_iff.1 h8).1
theorem VolR.write (h : VolR vo bl sz pe to ne fl hi place pins ws) {it : List PI} (hI : ItemsR bl sz it) : VolR vo bl sz pe to ne fl hi place pins (ws ++ [((ws.length : Int) + 1, it)]) := by
 obtain ⟨h1, h2, h3, h4, h5, h6, h7, h8, h9⟩ := h
 refine ⟨h1, h2, h3, h4, h5, h6, by rw [List.length_append]; simp; omega, ?_, by rw [List.length_append]; exact wrpre_app2 h9 hI⟩
 obtain ⟨g1, g2⟩ := pinspre_iff.1 h8
 exact pinspre_iff.2 ⟨g1, fun p hp => by have := g2 p hp; rw [List.length_append]; simp; omega⟩
theorem VolR.do (h : VolR vo bl sz pe to ne fl hi place pins ws) (hh : hi = true → pins = []) {kd at0 ix : Int} {it : List PI} {ne' fl' e9 : Int} {hi' : Bool} {ws' : List PWr} (hd : doR bl sz to ne fl hi pins ws kd at0 ix it = (ne', hi', fl', ws', e9)) :
   VolR vo bl sz pe to ne' fl' hi' place pins ws' ∧ (hi' = true → pins = []) ∧ ws'.length ≤ ws.length + 1 := by
 have hsame : VolR vo bl sz pe to ne fl hi place pins ws ∧ (hi = true → pins = []) ∧ ws.length ≤ ws.length + 1 := ⟨h, hh, by omega⟩
 unfold doR at hd
 split at hd
 · unfold putR at hd
   split at hd
   · simp only [Prod.mk.injEq] at hd; obtain ⟨rfl, rfl, rfl, rfl, rfl⟩ := hd; exact hsame
   unfold wrR at hd
   split at hd
   · rename_i hI
     simp only [Prod.mk.injEq] at hd; obtain ⟨rfl, rfl, rfl, rfl, rfl⟩ := hd
     exact ⟨h.write hI, hh, by simp⟩
   simp only [Prod.mk.injEq] at hd; obtain ⟨rfl, rfl, rfl, rfl, rfl⟩ := hd; exact hsame
 split at hd
 · unfold pruneR at hd
   split at hd
   · rename_i hr
     simp only [Prod.mk.injEq] at hd; obtain ⟨rfl, rfl, rfl, rfl, rfl⟩ := hd
     unfold reachR at hr
     split at hr
     · cases hr
     split at hr
     · cases hr
     split at hr
     · cases hr
     rename_i a1 a2 a3
     obtain ⟨h1, h2, h3, h4, h5, h6, h7, h8, h9⟩ := h
     have hl := @lowL_le ws.length pins
     obtain ⟨g1, g2⟩ := pinspre_iff.1 h8
     exact ⟨⟨h1, h2, h3, h4, h5, by omega, by omega, pinspre_iff.2 ⟨g1, fun p hp => by have b1 := hl.2 p hp; have b2 := g2 p hp; omega⟩, h9⟩, hh, by omega⟩
   simp only [Prod.mk.injEq] at hd; obtain ⟨rfl, rfl, rfl, rfl, rfl⟩ := hd; exact hsame
 split at hd
 · unfold takeR at hd
   split at hd
   · simp only [Prod.mk.injEq] at hd; obtain ⟨rfl, rfl, rfl, rfl, rfl⟩ := hd; exact hsame
   split at hd
   · simp only [Prod.mk.injEq] at hd; obtain ⟨rfl, rfl, rfl, rfl, rfl⟩ := hd; exact hsame
   split at hd
   · simp only [Prod.mk.injEq] at hd; obtain ⟨rfl, rfl, rfl, rfl, rfl⟩ := hd; exact hsame
   rename_i b1 b2 b3
   by_cases hI : ItemsR bl sz it
   · rw [show wrR bl sz ws it = (ws ++ [((ws.length : Int) + 1, it)], 0) from by rw [wrR, if_pos hI]] at hd
     rw [if_pos rfl] at hd
     simp only [Prod.mk.injEq] at hd; obtain ⟨rfl, rfl, rfl, rfl, rfl⟩ := hd
     obtain ⟨h1, h2, h3, h4, h5, h6, h7, h8, h9⟩ := h.write hI
     refine ⟨⟨h1, by omega, ?_, h4, fun e => absurd e b1, h6, h7, h8, h9⟩, hh, by simp⟩
     have : ne ≠ to := fun e => b3 (.inr e)
     omega
   rw [show wrR bl sz ws it = (ws, 23) from by rw [wrR, if_neg hI]] at hd
   rw [if_neg (by simp)] at hd
   simp only [Prod.mk.injEq] at hd; obtain ⟨rfl, rfl, rfl, rfl, rfl⟩ := hd; exact hsame
 split at hd
 · unfold publishR at hd
   split at hd
   · simp only [Prod.mk.injEq] at hd; obtain ⟨rfl, rfl, rfl, rfl, rfl⟩ := hd; exact hsame
   rename_i b1
   simp only [Prod.mk.injEq] at hd; obtain ⟨rfl, rfl, rfl, rfl, rfl⟩ := hd
   obtain ⟨h1, h2, h3, h4, h5, h6, h7, h8, h9⟩ := h
   have e1 : hi = true := by cases hi with | true => rfl | false => exact absurd (.inl rfl) b1
   have e2 : ne = to := by
     by_cases e : ne = to
     · exact e
     exact absurd (.inr e) b1
   have e3 := hh e1
   subst e3
   exact ⟨⟨h1, h2, h3, (fun e => by cases e), (fun _ => e2), by omega, by omega, (fun j hj => by simp at hj), h9⟩, (fun e => by cases e), by omega⟩
 split at hd
 · simp only [Prod.mk.injEq] at hd; obtain ⟨rfl, rfl, rfl, rfl, rfl⟩ := hd; exact hsame
 simp only [Prod.mk.injEq] at hd; obtain ⟨rfl, rfl, rfl, rfl, rfl⟩ := hd; exact hsame
theorem VolR.pin (h : VolR vo bl sz pe to ne fl hi place pins ws) (hh : hi = true → pins = []) {at0 e9 : Int} {pins' : List Int} (hd : pinR hi fl at0 ws.length pins = (pins', e9)) :
   VolR vo bl sz pe to ne fl hi place pins' ws ∧ (hi = true → pins' = []) ∧ pins'.length ≤ pins.length + 1 := by
 unfold pinR at hd
 split at hd
 · rename_i hr
   simp only [Prod.mk.injEq] at hd; obtain ⟨rfl, rfl⟩ := hd
   unfold reachR at hr
   split at hr
   · cases hr
   split at hr
   · cases hr
   split at hr
   · cases hr
   rename_i a1 a2 a3
   obtain ⟨h1, h2, h3, h4, h5, h6, h7, h8, h9⟩ := h
   obtain ⟨g1, g2⟩ := pinspre_iff.1 h8
   refine ⟨⟨h1, h2, h3, h4, h5, h6, h7, pinspre_iff.2 ⟨sortP_sorted _, fun p hp => ?_⟩, h9⟩, fun e => absurd e a1, by simp [sortP]⟩
   rw [sortP, List.mem_mergeSort] at hp
   rcases List.mem_append.1 hp with hp | hp
   · exact g2 p hp
   simp at hp; subst hp; omega
 simp only [Prod.mk.injEq] at hd; obtain ⟨rfl, rfl⟩ := hd
 exact ⟨h, hh, by omega⟩
theorem VolR.unpin (h : VolR vo bl sz pe to ne fl hi place pins ws) (hh : hi = true → pins = []) {at0 e9 : Int} {pins' : List Int} (hd : unpinR hi at0 pins = (pins', e9)) :
   VolR vo bl sz pe to ne fl hi place pins' ws ∧ (hi = true → pins' = []) ∧ pins'.length ≤ pins.length + 1 := by
 unfold unpinR at hd
 split at hd
 · simp only [Prod.mk.injEq] at hd; obtain ⟨rfl, rfl⟩ := hd
   exact ⟨h, hh, by omega⟩
 rename_i b1
 simp only [Prod.mk.injEq] at hd; obtain ⟨rfl, rfl⟩ := hd
 obtain ⟨h1, h2, h3, h4, h5, h6, h7, h8, h9⟩ := h
 obtain ⟨g1, g2⟩ := pinspre_iff.1 h8
 have hs : (pins.take (Lib.idxOf pins at0).toNat ++ pins.drop ((Lib.idxOf pins at0).toNat + 1)).Sublist pins := by
   rw [← List.eraseIdx_eq_take_drop_succ]; exact List.eraseIdx_sublist _ _
 exact ⟨⟨h1, h2, h3, h4, h5, h6, h7, pinspre_iff.2 ⟨g1.sublist hs, fun p hp => g2 p (hs.subset hp)⟩, h9⟩, fun e => absurd (.inl e) b1, by have := hs.length_le; omega⟩
theorem VolR.its (h : VolR vo bl sz pe to ne fl hi place pins ws) : WrsOk ws ∧ (∀ e ∈ ws, e.2.length ≤ 8) := by
 obtain ⟨⟨a1, a2, a3, a4, a5, a6, a7⟩, h2, h3, h4, h5, h6, h7, h8, h9⟩ := h
 have key : ∀ e ∈ ws, e.2.length ≤ 8 ∧ ∀ x ∈ e.2, x.2.length ≤ 32 := fun e he => by
   obtain ⟨j, hj, rfl⟩ := List.getElem_of_mem he
   have h10 := (h9 j hj).2
   rw [List.getD, List.getElem?_eq_getElem hj] at h10
   refine ⟨h10.2.1, fun x hx => ?_⟩
   obtain ⟨i, hi, rfl⟩ := List.getElem_of_mem hx
   have h11 := (h10.2.2 i hi).2.2.1
   simp only [Option.getD_some] at h11
   rw [List.getD, List.getElem?_eq_getElem hi] at h11
   simp only [Option.getD_some] at h11
   omega
 exact ⟨fun e he => ⟨Nat.le_trans (key e he).1 (by decide), fun x hx => Nat.le_trans ((key e he).2 x hx) (by decide)⟩, fun e he => (key e he).1⟩
theorem VolR.new {vo bl sz pe to : Int} {place : List Int} (hN : NewOk vo bl sz pe to place) : VolR vo bl sz pe to 0 0 (decide (0 < to)) place [] [] := by
 have hN' := hN
 obtain ⟨h1, h2, h3, h4, h5, h6, h7, h8, h9, h10, h11⟩ := hN'
 exact ⟨hN, by omega, by omega, (fun e => by simp at e; omega), (fun e => by simp at e; omega), by omega, by simp, (fun j hj => by simp at hj), (fun j hj => by simp at hj)⟩
end
end Go.Proofs.Ytkdnhndjjfjppaa.K
