/- chain: what changed between two times, streams of a volume, what they are merged. -/
import Derived.Test.YtcccomafnmdlfaaDoorCha2
namespace Go.Proofs.YtcccomafnmdlfaaDoor.K
open Go.ChangeShapes Go.WideShapes Go.ChangeAt Go.RowKit
set_option linter.unusedVariables false
set_option linter.unusedSimpArgs false
section
variable {P : Program} {n : Nat} {T : List (Nat × Value)} {a : Act} {w w0 : World} {X : Cx} {M : Mm}
theorem retTC (ha : Has n T a) (m : MemOk X w0 M w) {fn : Func} {t s : Tmp} {ty : TypeId} {td : TypeDesc} {i g : Nat} {e : TypeId} {cs : List Value} {u : Value} {R : Ending → World → Prop} (hr : fn.results = #[.tmp s, .cell t ty]) (hv : lk T t = some (.pointer (some ⟨g, 0, none⟩))) (hu2 : lk T s = some u) (hm : lk M i = some (.box g e cs)) (hu : P.underlying ty = some td) (hd : td.isRow = true) (hs : (P.info? ty).map (·.size) = some cs.length) (h : R (.returned (.tuple #[u, .agg cs.toArray])) w) : bodyPost P fn R .ret a w :=
 ⟨ha.d, _, by
   have h1 := ha.h t _ hv
   have h2 := ha.h s _ hu2
   rw [Array.getD_eq_getD_getElem?] at h1 h2
   simp [results, hr, h1, h2, asAddr, run_loadBox m hm hu hd hs], h⟩
end
def hitB (k : Nat) (xl : List PI) : Bool := xl.any (fun x => decide (x.1 = (k : Int)))
def chgB (ws : List PWr) (a b k : Nat) : Bool := ((ws.take b).drop a).any (fun e => hitB k e.2)
theorem chgB_self (ws : List PWr) (a k : Nat) : chgB ws a a k = false := by
 unfold chgB
 rw [List.drop_of_length_le (by rw [List.length_take]; omega)]; rfl
theorem chgB_snoc {ws : List PWr} {a j k : Nat} {xs : Int} {xl : List PI} (ha : a ≤ j) (hes : ws[j]? = some (xs, xl)) : chgB ws a (j + 1) k = (chgB ws a j k || hitB k xl) := by
 have hj := (List.getElem?_eq_some_iff.1 hes).1
 unfold chgB
 rw [take_snoc hes, List.drop_append_of_le_length (by rw [List.length_take]; omega), List.any_append]
 simp
theorem hit_snoc {xl : List PI} {q k : Nat} {xb : Int} {xd : List Int} (h : xl[q]? = some (xb, xd)) : hitB k (xl.take (q + 1)) = (hitB k (xl.take q) || decide (xb = (k : Int))) := by
 unfold hitB
 rw [take_snoc h, List.any_append]; simp
theorem chgB_split (ws : List PWr) {a b c : Nat} (k : Nat) (h1 : a ≤ b) (h2 : b ≤ c) : chgB ws a c k = (chgB ws a b k || chgB ws b c k) := by
 have hd : (ws.take c).drop a = (ws.take b).drop a ++ (ws.take c).drop b := by
   have e1 : ws.take b = (ws.take c).take b := by rw [List.take_take, Nat.min_eq_left h2]
   rw [e1]
   generalize ws.take c = x
   have e2 := List.take_append_drop (b - a) (x.drop a)
   rw [List.drop_drop, show a + (b - a) = b by omega] at e2
   rw [List.drop_take]; exact e2.symm
 unfold chgB
 rw [hd, List.any_append]
theorem foldl_same {i : Nat} (l : List PI) : ∀ d : List Int, hitB i l = false → l.foldl (wantF i) d = d := by
 induction l with
 | nil => intro d _; rfl
 | cons x l ih =>
   intro d h
   unfold hitB at h
   rw [List.any_cons, Bool.or_eq_false_iff] at h
   rw [List.foldl_cons, show wantF i d x = d from by unfold wantF; rw [if_neg (by simpa using h.1)]]
   exact ih d h.2
theorem stW_same {L : List (List Int)} {x : PWr} {i : Nat} (hi : i < L.length) (h : hitB i x.2 = false) : (stW L x).getD i [] = L.getD i [] := by
 show (x.2.foldl stStep L).getD i [] = _
 rw [stSteps_get _ _ _ hi, foldl_same _ _ h]
theorem stWs_same {i : Nat} (l : List PWr) : ∀ L : List (List Int), i < L.length → l.any (fun e => hitB i e.2) = false → (l.foldl stW L).getD i [] = L.getD i [] := by
 induction l with
 | nil => intro L _ _; rfl
 | cons x l ih =>
   intro L hi h
   rw [List.any_cons, Bool.or_eq_false_iff] at h
   rw [List.foldl_cons, ih _ (by rw [stW_len]; exact hi) h.2, stW_same hi h.1]
theorem stL_same {bl sz : Int} {ws : List PWr} {a b k : Nat} (hab : a ≤ b) (hk : k < bl.toNat) (h : chgB ws a b k = false) : (stL bl sz ws b).getD k [] = (stL bl sz ws a).getD k [] := by
 have e : ws.take b = ws.take a ++ (ws.take b).drop a := by
   have := List.take_append_drop a (ws.take b)
   rw [List.take_take, Nat.min_eq_left hab] at this
   exact this.symm
 show (List.foldl stW _ (ws.take b)).getD k [] = _
 rw [e, List.foldl_append]
 exact stWs_same _ _ (by rw [stWs_len, List.length_replicate]; exact hk) h
def segF (y : VolV) (fr : Int) (t : Nat) (k : Nat) : Option (List Int) := if decide (fr < 0) || chgB y.ws fr.toNat t k then some ((stL y.bl y.sz y.ws t).getD k []) else none
def segIt (y : VolV) (fr : Int) (t n : Nat) : List PI := (List.range n).filterMap (fun k => (segF y fr t k).map (fun d => ((k : Int), d)))
def seg (y : VolV) (fr : Int) (t : Nat) : StrV := ⟨y.bl, y.sz, fr, t, segIt y fr t y.bl.toNat⟩
theorem segIt_snoc_yes {y : VolV} {fr : Int} {t k : Nat} (h : (decide (fr < 0) || chgB y.ws fr.toNat t k) = true) : segIt y fr t (k + 1) = segIt y fr t k ++ [((k : Int), (stL y.bl y.sz y.ws t).getD k [])] := by
 unfold segIt
 rw [List.range_succ, List.filterMap_append]
 congr 1
 rw [List.filterMap_cons, segF, if_pos h]; rfl
theorem segIt_snoc_no {y : VolV} {fr : Int} {t k : Nat} (h : (decide (fr < 0) || chgB y.ws fr.toNat t k) = false) : segIt y fr t (k + 1) = segIt y fr t k := by
 unfold segIt
 rw [List.range_succ, List.filterMap_append, List.filterMap_cons, segF, if_neg (by rw [h]; exact Bool.false_ne_true)]
 simp
theorem segIt_len (y : VolV) (fr : Int) (t n : Nat) : (segIt y fr t n).length ≤ n := by
 have := List.length_filterMap_le (fun k => (segF y fr t k).map (fun d => ((k : Int), d))) (List.range n)
 rw [List.length_range] at this; exact this
theorem segIt_mem {y : VolV} {fr : Int} {t n : Nat} {e : PI} (h : e ∈ segIt y fr t n) : ∃ k, k < n ∧ e = ((k : Int), (stL y.bl y.sz y.ws t).getD k []) := by
 unfold segIt at h
 rw [List.mem_filterMap] at h
 obtain ⟨k, hk, h⟩ := h
 unfold segF at h
 split at h
 · exact ⟨k, List.mem_range.1 hk, by simpa using h.symm⟩
 cases h
/-! merged -/
def fmI (f : Nat → Option (List Int)) (ks : List Nat) : List PI := ks.filterMap (fun k => (f k).map (fun d => ((k : Int), d)))
theorem fmI_lo {f : Nat → Option (List Int)} {ks : List Nat} {k : Nat} (h : ∀ x ∈ ks, k < x) : ∀ e ∈ fmI f ks, (k : Int) < e.1 := fun e he => by
 unfold fmI at he
 rw [List.mem_filterMap] at he
 obtain ⟨x, hx, he⟩ := he
 cases hf : f x with
 | none => rw [hf] at he; cases he
 | some d => rw [hf] at he; injection he with he; subst he; have := h x hx; simp only; omega
theorem later_lo {p : Int} {x : List Int} {a b : List PI} (h : ∀ e ∈ b, p < e.1) : laterL ((p, x) :: a) b = (p, x) :: laterL a b := by
 cases b with
 | nil => rw [later_nil2, later_nil2]
 | cons q b => obtain ⟨q, z⟩ := q; exact later_lt (h (q, z) List.mem_cons_self)
theorem later_hi {q : Int} {z : List Int} {a b : List PI} (h : ∀ e ∈ a, q < e.1) : laterL a ((q, z) :: b) = (q, z) :: laterL a b := by
 cases a with
 | nil => rw [later_nil, later_nil]
 | cons p a => obtain ⟨p, x⟩ := p; exact later_gt (h (p, x) List.mem_cons_self)
theorem later_fm (f g : Nat → Option (List Int)) (ks : List Nat) (hs : ks.Pairwise (· < ·)) : laterL (fmI f ks) (fmI g ks) = fmI (fun k => (g k).or (f k)) ks := by
 induction ks with
 | nil => rw [show fmI f [] = [] from rfl, later_nil]; rfl
 | cons k ks ih =>
   rw [List.pairwise_cons] at hs
   have ih := ih hs.2
   have h1 : ∀ h : Nat → Option (List Int), fmI h (k :: ks) = (match h k with | none => fmI h ks | some d => ((k : Int), d) :: fmI h ks) := fun h => by
     unfold fmI; rw [List.filterMap_cons]; cases h k <;> rfl
   rw [h1 f, h1 g, h1 (fun k => (g k).or (f k))]
   have hf := fmI_lo (f := f) hs.1
   have hg := fmI_lo (f := g) hs.1
   cases f k with
   | none =>
     cases g k with
     | none => exact ih
     | some z => simp only [Option.some_or]; rw [later_hi hf, ih]
   | some x =>
     cases g k with
     | none => simp only [Option.none_or]; rw [later_lo hg, ih]
     | some z => simp only [Option.some_or]; rw [later_eq rfl, ih]
theorem fm_congr {f g : Nat → Option PI} : ∀ (l : List Nat), (∀ k ∈ l, f k = g k) → l.filterMap f = l.filterMap g
 | [], _ => rfl
 | k :: l, h => by rw [List.filterMap_cons, List.filterMap_cons, h k List.mem_cons_self, fm_congr l (fun x hx => h x (List.mem_cons_of_mem _ hx))]
theorem seg_merge {y : VolV} {fr : Int} {t u : Nat} (h1 : fr.toNat ≤ t) (h2 : t ≤ u) : mergeV (seg y fr t) (seg y t u) = seg y fr u := by
 have hp : (List.range y.bl.toNat).Pairwise (· < ·) := List.pairwise_lt_range
 have key : laterL (segIt y fr t y.bl.toNat) (segIt y t u y.bl.toNat) = segIt y fr u y.bl.toNat := by
   show laterL (fmI (segF y fr t) _) (fmI (segF y t u) _) = fmI (segF y fr u) _
   rw [later_fm _ _ _ hp]
   unfold fmI
   refine fm_congr _ (fun k hk => ?_)
   rw [List.mem_range] at hk
   congr 1
   unfold segF
   have e0 : decide ((t : Int) < 0) = false := by simp
   dsimp only
   rw [e0, Bool.false_or, Int.toNat_natCast, chgB_split y.ws k h1 h2]
   cases hc : chgB y.ws t u k with
   | true => simp
   | false =>
     rw [stL_same h2 hk hc]
     simp
 unfold mergeV seg
 simp only
 rw [key]
def SegCh (y : VolV) : Int → List StrV → Prop
 | _, [] => True
 | fr, s :: l => ∃ t : Nat, fr.toNat ≤ t ∧ t ≤ y.ws.length ∧ s = seg y fr t ∧ SegCh y t l
def endT (fr : Int) (l : List StrV) : Int := match l.getLast? with | none => fr | some s => s.to
theorem endT_snoc (fr : Int) (l : List StrV) (s : StrV) : endT fr (l ++ [s]) = s.to := by simp [endT]
theorem endT_cons (fr : Int) (s : StrV) (l : List StrV) : endT fr (s :: l) = endT s.to l := by
 unfold endT
 cases l with
 | nil => rfl
 | cons x l => rw [List.getLast?_cons_cons]; cases h : (x :: l).getLast? with
   | none => simp at h
   | some z => rfl
theorem SegCh.snoc {y : VolV} {t : Nat} : ∀ {l : List StrV} {fr : Int}, SegCh y fr l → (endT fr l).toNat ≤ t → t ≤ y.ws.length → SegCh y fr (l ++ [seg y (endT fr l) t])
 | [], fr, _, h1, h2 => ⟨t, h1, h2, rfl, trivial⟩
 | s :: l, fr, ⟨u, a1, a2, a3, a4⟩, h1, h2 => by
   subst a3
   rw [endT_cons] at h1 ⊢
   exact ⟨u, a1, a2, rfl, SegCh.snoc a4 h1 h2⟩
theorem SegCh.end_bd {y : VolV} : ∀ {l : List StrV} {fr : Int}, SegCh y fr l → -1 ≤ fr → fr ≤ y.ws.length → fr ≤ endT fr l ∧ -1 ≤ endT fr l ∧ endT fr l ≤ y.ws.length
 | [], fr, _, h1, h2 => ⟨Int.le_refl _, h1, h2⟩
 | s :: l, fr, ⟨u, a1, a2, a3, a4⟩, h1, h2 => by
   subst a3
   rw [endT_cons]
   have := SegCh.end_bd a4 (by omega) (by omega)
   simp only [seg] at this ⊢
   omega
end Go.Proofs.YtcccomafnmdlfaaDoor.K
