/- chunk: what a volume's writes make of its blocks' histories. -/
import Derived.Test.YteglmahnkfgelaaGreatChuM
import Derived.Test.YteglmahnkfgelaaGreatG5
namespace Go.Proofs.YteglmahnkfgelaaGreat.K
open Go.ChangeShapes Go.WideShapes Go.ChangeAt Go.RowKit
set_option linter.unusedVariables false
set_option linter.unusedSimpArgs false
abbrev Its := List (Int × List Int)
abbrev Hs := List (List Ver)
def hitD (b : Int) (l : Its) : Option (List Int) := (l.find? fun x => decide (x.1 = b)).map (·.2)
def blkH (W : List PWr) (b : Int) : List Ver := W.filterMap fun e => (hitD b e.2).map fun d => (e.1, d)
def Unl (l : Its) : Prop := l.Pairwise fun x y => x.1 ≠ y.1
def addW (s : Int) (H : Hs) (l : Its) : Hs := l.foldl (fun H x => H.set x.1.toNat (addF (H.getD x.1.toNat []) s x.2)) H
def applyW (m : Int) (H : Hs) (W : List PWr) : Hs := W.foldl (fun H e => if e.1 ≤ m then H else addW e.1 H e.2) H
theorem hit_cons (b : Int) (x : Int × List Int) (l : Its) : hitD b (x :: l) = if x.1 = b then some x.2 else hitD b l := by
 unfold hitD
 rw [List.find?_cons]
 by_cases h : x.1 = b
 · rw [if_pos h]; simp [h]
 rw [if_neg h]; simp [h]
theorem hit_none {b : Int} : ∀ {l : Its}, (∀ x ∈ l, x.1 ≠ b) → hitD b l = none
 | [], _ => rfl
 | x :: l, h => by rw [hit_cons, if_neg (h x (by simp)), hit_none (fun y hy => h y (by simp [hy]))]
theorem blk_app (A B : List PWr) (b : Int) : blkH (A ++ B) b = blkH A b ++ blkH B b := List.filterMap_append
theorem blk_cons (e : PWr) (W : List PWr) (b : Int) : blkH (e :: W) b = ((hitD b e.2).map fun d => (e.1, d)).toList ++ blkH W b := by
 unfold blkH
 rw [List.filterMap_cons]
 cases hitD b e.2 <;> rfl
theorem getD_setH {H : Hs} {i j : Nat} (h : i ≠ j) (x : List Ver) : (H.set i x).getD j [] = H.getD j [] := by
 rw [List.getD, List.getElem?_set_ne h]; rfl
theorem getD_setS {H : Hs} {i : Nat} (h : i < H.length) (x : List Ver) : (H.set i x).getD i [] = x := by
 rw [List.getD, List.getElem?_set_self h]; rfl
theorem addW_len (s : Int) : ∀ (l : Its) (H : Hs), (addW s H l).length = H.length
 | [], H => rfl
 | x :: l, H => by
   show (addW s (H.set x.1.toNat _) l).length = _
   rw [addW_len s l, List.length_set]
theorem applyW_len (m : Int) : ∀ (W : List PWr) (H : Hs), (applyW m H W).length = H.length
 | [], H => rfl
 | e :: W, H => by
   show (applyW m (if e.1 ≤ m then H else addW e.1 H e.2) W).length = _
   rw [applyW_len m W]
   split
   · rfl
   rw [addW_len]
theorem addW_at {s : Int} (hs : 1 ≤ s ∧ s ≤ 1099511627776) : ∀ {l : Its} {H : Hs}, Unl l → (∀ x ∈ l, 0 ≤ x.1 ∧ x.1 < (H.length : Int)) → (∀ x ∈ l, ∀ v ∈ H.getD x.1.toNat [], v.1 < s) → ∀ i : Nat, (addW s H l).getD i [] = H.getD i [] ++ ((hitD (i : Int) l).map fun d => (s, d)).toList
 | [], H, _, _, _, i => by
   show H.getD i [] = _
   simp [hitD]
 | x :: l, H, hu, hb, hv, i => by
   show (addW s (H.set x.1.toNat (addF (H.getD x.1.toNat []) s x.2)) l).getD i [] = _
   have hx := hb x (by simp)
   have hu' := List.pairwise_cons.1 hu
   rw [add_yes hs (hv x (by simp))]
   have ih := addW_at hs (l := l) (H := H.set x.1.toNat (H.getD x.1.toNat [] ++ [(s, x.2)])) hu'.2 (fun y hy => by rw [List.length_set]; exact hb y (by simp [hy])) (fun y hy v h9 => by
     have h1 := hu'.1 y hy
     have h2 := hb y (by simp [hy])
     rw [getD_setH (by omega)] at h9
     exact hv y (by simp [hy]) v h9) i
   rw [ih, hit_cons]
   by_cases h : x.1 = (i : Int)
   · rw [if_pos h, hit_none (fun y hy => by rw [← h]; exact fun e => hu'.1 y hy e.symm)]
     rw [show x.1.toNat = i by omega, getD_setS (by omega)]
     simp
   rw [if_neg h, getD_setH (by omega)]
theorem applyW_at {m : Int} : ∀ {W : List PWr} {H : Hs}, W.Pairwise (fun a b => a.1 < b.1) → (∀ e ∈ W, (1 ≤ e.1 ∧ e.1 ≤ 1099511627776) ∧ Unl e.2 ∧ ∀ x ∈ e.2, 0 ≤ x.1 ∧ x.1 < (H.length : Int)) → (∀ i : Nat, ∀ v ∈ H.getD i [], ∀ e ∈ W, m < e.1 → v.1 < e.1) → ∀ i : Nat, (applyW m H W).getD i [] = H.getD i [] ++ blkH (W.filter fun e => decide (m < e.1)) (i : Int)
 | [], H, _, _, _, i => by
   show H.getD i [] = _
   simp [blkH]
 | e :: W, H, hp, ha, hv, i => by
   show (applyW m (if e.1 ≤ m then H else addW e.1 H e.2) W).getD i [] = _
   have hp' := List.pairwise_cons.1 hp
   obtain ⟨a1, a2, a3⟩ := ha e (by simp)
   by_cases hm : e.1 ≤ m
   · rw [if_pos hm, applyW_at hp'.2 (fun x hx => ha x (by simp [hx])) (fun j v h9 x hx => hv j v h9 x (by simp [hx])) i, List.filter_cons_of_neg (by simpa using hm)]
   rw [if_neg hm, List.filter_cons_of_pos (by simpa using hm), blk_cons]
   have hat := addW_at a1 (l := e.2) (H := H) a2 a3 (fun x hx v h9 => hv _ v h9 e (by simp) (by omega))
   rw [applyW_at hp'.2 (fun x hx => by rw [addW_len]; exact ha x (by simp [hx])) (fun j v h9 x hx h8 => by
     rw [hat j] at h9
     rcases List.mem_append.1 h9 with h9 | h9
     · exact hv j v h9 x (by simp [hx]) h8
     cases hh : hitD (j : Int) e.2 with
     | none => rw [hh] at h9; simp at h9
     | some d =>
       rw [hh] at h9
       simp at h9
       rw [h9]
       exact hp'.1 x hx) i, hat i, List.append_assoc]
theorem hit_items {fi cnt : Int} {i : Nat} (hi : (i : Int) < cnt) : ∀ {l : Its}, hitD (i : Int) (itemsL fi cnt l) = hitD (fi + i) l
 | [] => rfl
 | x :: l => by
   have ih := hit_items (fi := fi) (cnt := cnt) hi (l := l)
   unfold itemsL at ih ⊢
   rw [hit_cons]
   by_cases h : fi ≤ x.1 ∧ x.1 ≤ fi + cnt - 1
   · rw [List.filter_cons_of_pos (by simpa using h), List.map_cons, hit_cons, ih]
     by_cases h2 : x.1 = fi + i
     · rw [if_pos h2, if_pos (by show x.1 - fi = i; omega)]
     rw [if_neg h2, if_neg (by show ¬ x.1 - fi = i; omega)]
   rw [List.filter_cons_of_neg (by simpa using h), ih, if_neg (by omega)]
theorem blk_push {fi cnt : Int} {i : Nat} (hi : (i : Int) < cnt) : ∀ {W : List PWr}, blkH (pushL fi cnt W) (i : Int) = blkH W (fi + i)
 | [] => rfl
 | e :: W => by
   have ih := blk_push (fi := fi) (cnt := cnt) hi (W := W)
   unfold pushL at ih ⊢
   rw [List.map_cons, blk_cons]
   by_cases h : 0 < (itemsL fi cnt e.2).length
   · rw [List.filter_cons_of_pos (by simpa using h), blk_cons, ih, hit_items hi]
   rw [List.filter_cons_of_neg (by simpa using h), ih]
   have hn : itemsL fi cnt e.2 = [] := List.length_eq_zero_iff.1 (by omega)
   rw [← hit_items (fi := fi) hi, hn]
   rfl
end Go.Proofs.YteglmahnkfgelaaGreat.K
