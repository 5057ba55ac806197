/- chain: two streams merged, block by block. -/
import Derived.Test.YtflcgpajodfkoaaDoorCha6m
namespace Go.Proofs.YtflcgpajodfkoaaDoor.K
open Go.ChangeShapes Go.WideShapes Go.ChangeAt Go.RowKit
set_option linter.unusedVariables false
set_option linter.unusedSimpArgs false
def lkS (k : Nat) (acc : Option (List Int)) (x : PI) : Option (List Int) := if x.1 = (k : Int) then some x.2 else acc
def lkp (its : List PI) (k : Nat) (acc : Option (List Int)) : Option (List Int) := its.foldl (lkS k) acc
def wantS (acc : Option (List Int)) : ByteArray := match acc with | none => ⟨#[]⟩ | some d => strOfNums d
def lkAll (l : List StrV) (k : Nat) : Option (List Int) := l.foldl (fun acc s => lkp s.its k acc) none
theorem lkAll_snoc {l : List StrV} {c k : Nat} {s : StrV} (h : l[c]? = some s) : lkAll (l.take (c + 1)) k = lkp s.its k (lkAll (l.take c) k) := by
 unfold lkAll
 rw [take_snoc h, List.foldl_append]; rfl
theorem lkp_yes {its : List PI} {j k : Nat} {xb : Int} {xd : List Int} {acc : Option (List Int)} (h : its[j]? = some (xb, xd)) (hx : xb = (k : Int)) : lkp (its.take (j + 1)) k acc = some xd := by
 unfold lkp
 rw [take_snoc h, List.foldl_append]
 simp only [List.foldl_cons, List.foldl_nil, lkS]
 rw [if_pos hx]
theorem lkp_no {its : List PI} {j k : Nat} {xb : Int} {xd : List Int} {acc : Option (List Int)} (h : its[j]? = some (xb, xd)) (hx : ¬ xb = (k : Int)) : lkp (its.take (j + 1)) k acc = lkp (its.take j) k acc := by
 unfold lkp
 rw [take_snoc h, List.foldl_append]
 simp only [List.foldl_cons, List.foldl_nil, lkS]
 rw [if_neg hx]
theorem lkp_fm {f : Nat → Option (List Int)} {k : Nat} : ∀ (ks : List Nat) (acc : Option (List Int)), lkp (fmI f ks) k acc = if k ∈ ks then (f k).or acc else acc
 | [], acc => by simp [lkp, fmI]
 | x :: ks, acc => by
   have ih := lkp_fm (f := f) (k := k) ks
   have hc : fmI f (x :: ks) = (match f x with | none => fmI f ks | some d => ((x : Int), d) :: fmI f ks) := by
     unfold fmI; rw [List.filterMap_cons]; cases f x <;> rfl
   rw [hc]
   by_cases hx : x = k
   · subst hx
     cases hf : f x with
     | none =>
       simp only
       rw [ih acc, if_pos List.mem_cons_self, hf]
       simp
     | some d =>
       simp only
       have e : lkp (((x : Int), d) :: fmI f ks) x acc = lkp (fmI f ks) x (some d) := by
         unfold lkp; rw [List.foldl_cons]; unfold lkS; rw [if_pos rfl]
       rw [e, ih, if_pos List.mem_cons_self, hf]
       split <;> rfl
   have e : lkp (match f x with | none => fmI f ks | some d => ((x : Int), d) :: fmI f ks) k acc = lkp (fmI f ks) k acc := by
     cases f x with
     | none => rfl
     | some d =>
       unfold lkp; simp only; rw [List.foldl_cons]
       show List.foldl (lkS k) (lkS k acc ((x : Int), d)) _ = _
       have : lkS k acc ((x : Int), d) = acc := by unfold lkS; rw [if_neg (by simp only; omega)]
       rw [this]
   rw [e, ih]
   have : (k ∈ x :: ks) ↔ k ∈ ks := by simp [Ne.symm hx]
   simp only [this]
theorem fmI_app (f : Nat → Option (List Int)) (a b : List Nat) : fmI f (a ++ b) = fmI f a ++ fmI f b := List.filterMap_append
theorem fm_get {h : Nat → Option (List Int)} {k : Nat} {d : List Int} (hk : h k = some d) : ∀ n, k < n → (fmI h (List.range n))[(fmI h (List.range k)).length]? = some ((k : Int), d)
 | 0, hn => by omega
 | n + 1, hn => by
   rw [List.range_succ, fmI_app]
   by_cases e : k = n
   · subst e
     rw [List.getElem?_append_right (Nat.le_refl _), Nat.sub_self]
     simp [fmI, hk]
   have ih := fm_get hk n (by omega)
   rw [List.getElem?_append_left (List.getElem?_eq_some_iff.1 ih).1]
   exact ih
theorem fm_len_some {h : Nat → Option (List Int)} {k : Nat} {d : List Int} (hk : h k = some d) : (fmI h (List.range (k + 1))).length = (fmI h (List.range k)).length + 1 := by
 rw [List.range_succ, fmI_app, List.length_append]; simp [fmI, hk]
theorem fm_len_none {h : Nat → Option (List Int)} {k : Nat} (hk : h k = none) : (fmI h (List.range (k + 1))).length = (fmI h (List.range k)).length := by
 rw [List.range_succ, fmI_app, List.length_append]; simp [fmI, hk]
theorem fm_len_le (h : Nat → Option (List Int)) (k : Nat) : (fmI h (List.range k)).length ≤ k := by
 have := List.length_filterMap_le (fun k => (h k).map (fun d => ((k : Int), d))) (List.range k)
 rw [List.length_range] at this; exact this
theorem over_facts {y : VolV} {n0 : Nat} (hS : VolS n0 y) (hn : n0 ≤ 1000) {ss : List StrV} {q : Nat} (h : SegCh y (-1) ss) (hq : q + 1 < ss.length) : ∃ (A B : StrV) (f g : Nat → Option (List Int)) (n : Nat), ss[q]? = some A ∧ ss[q + 1]? = some B ∧ FolB A B ∧ (StreamOk A.bl A.sz A.fr A.to A.its ∧ ItsOk A.its) ∧ (StreamOk B.bl B.sz B.fr B.to B.its ∧ ItsOk B.its) ∧ A.bl = (n : Int) ∧ n ≤ 256 ∧ A.its = fmI f (List.range n) ∧ B.its = fmI g (List.range n) ∧ (mergeV A B).its = fmI (fun k => (g k).or (f k)) (List.range n) := by
 obtain ⟨t1, a1, a2, a3⟩ := h.get (i := q) (by omega)
 obtain ⟨t2, b1, b2, b3⟩ := h.get (i := q + 1) hq
 have e := endT_next (fr := -1) a3
 rw [e] at b1 b3
 have hb := (SegCh.app.1 ((List.take_append_drop q ss).symm ▸ h)).1.end_bd (by omega) (by omega)
 have k1 := seg_ok hS hn hb.2.1 a1 a2 (.inl rfl)
 have k2 := seg_ok hS hn (fr := (t1 : Int)) (by omega) (by simpa using b1) b2 (.inl rfl)
 have hbl := k1.1.b
 refine ⟨_, _, segF y _ t1, segF y (t1 : Int) t2, y.bl.toNat, a3, b3, ⟨rfl, rfl, rfl⟩, k1, k2, by show y.bl = _; omega, by omega, rfl, rfl, ?_⟩
 show laterL (fmI _ _) (fmI _ _) = _
 exact later_fm _ _ _ List.pairwise_lt_range
theorem lk_two {A B : StrV} {f g : Nat → Option (List Int)} {n k : Nat} (hA : A.its = fmI f (List.range n)) (hB : B.its = fmI g (List.range n)) (hk : k < n) : lkAll [A, B] k = (g k).or (f k) := by
 show lkp B.its k (lkp A.its k none) = _
 rw [hA, hB, lkp_fm, lkp_fm, if_pos (List.mem_range.2 hk)]
 simp [hk]
end Go.Proofs.YtflcgpajodfkoaaDoor.K
