/- A plan's calls, one after another: what the machine is, and its blocks in the end. -/
import Derived.Test.YtkdnhndjjfjppaaInt5b
import Derived.Test.YtkdnhndjjfjppaaInt4
namespace Go.Proofs.Ytkdnhndjjfjppaa.K
open Go.ChangeShapes Go.WideShapes Go.ChangeAt Go.RowKit
set_option linter.unusedVariables false
set_option linter.unusedSimpArgs false
theorem chunk_len {S : List (List Int)} {n k N : Nat} (hn : 0 < n) : (chunkI (wholeI S N) n k).length = min ((k + 1) * n) N - k * n := by
 rw [chunkI, List.length_drop, List.length_take, wholeI_len]; omega
theorem chunk_at {S : List (List Int)} {n k N j : Nat} (hn : 0 < n) (h : j < (chunkI (wholeI S N) n k).length) : (chunkI (wholeI S N) n k)[j]? = some (((k * n + j : Nat) : Int), S.getD (k * n + j) []) := by
 rw [chunk_len hn] at h
 rw [chunkI, List.getElem?_drop, List.getElem?_take, if_pos (by rw [wholeI_len]; omega), wholeI_get (by omega)]
theorem chunk_items {S : List (List Int)} {n k : Nat} {bl sz : Int} (hn : 0 < n) (h8 : n ≤ 8) (hk : k * n < S.length) (hl : (S.length : Int) = bl) (hz : ∀ k, k < S.length → ((S.getD k []).length : Int) = sz) : ItemsR bl sz (chunkI (wholeI S S.length) n k) := by
 have hL := chunk_len (S := S) (k := k) (N := S.length) hn
 have e3 : (k + 1) * n = k * n + n := Nat.succ_mul k n
 refine ⟨by omega, by omega, fun j hj => ?_⟩
 have h1 := chunk_at (S := S) (k := k) (N := S.length) hn hj
 rw [List.getD, h1]
 simp only [Option.getD_some]
 refine ⟨by omega, by omega, hz _ (by omega), ?_⟩
 rintro ⟨e, he, h2⟩
 obtain ⟨i, hi, rfl⟩ := List.getElem_of_mem he
 have hij : i < j := by rw [List.length_take] at hi; omega
 rw [List.getElem_take] at h2
 have h3 := chunk_at (S := S) (k := k) (N := S.length) hn (show i < _ by omega)
 rw [List.getElem?_eq_getElem (by omega)] at h3
 rw [Option.some.inj h3] at h2
 simp only at h2; omega
def wsP (its : List (Int × List Int)) (n j : Nat) : List PWr := (List.range j).map (fun i : Nat => ((i : Int) + 1, chunkI its n i))
theorem wsP_len (its : List (Int × List Int)) (n j : Nat) : (wsP its n j).length = j := by simp [wsP]
theorem wsP_snoc (its : List (Int × List Int)) (n j : Nat) : wsP its n (j + 1) = wsP its n j ++ [((j : Int) + 1, chunkI its n j)] := by simp [wsP, List.range_succ]
theorem wsP_fold (its : List (Int × List Int)) (n : Nat) (L0 : List (List Int)) : ∀ j : Nat, (wsP its n j).foldl stW L0 = (its.take (min (j * n) its.length)).foldl stStep L0 := by
 intro j
 induction j with
 | zero => simp [wsP]
 | succ j ih =>
   rw [wsP_snoc, List.foldl_append, ih]
   simp only [List.foldl_cons, List.foldl_nil, stW]
   rw [← List.foldl_append]
   congr 1
   have e3 : (j + 1) * n = j * n + n := Nat.succ_mul j n
   have h1 : its.take (min (j * n) its.length) = (its.take (min ((j + 1) * n) its.length)).take (j * n) := by rw [List.take_take]; congr 1; omega
   rw [h1, chunkI, List.take_append_drop]
theorem whole_fold (S : List (List Int)) (L0 : List (List Int)) (hl : L0.length = S.length) : ∀ k : Nat, k ≤ S.length → (wholeI S k).foldl stStep L0 = S.take k ++ L0.drop k := by
 intro k
 induction k with
 | zero => intro _; simp [wholeI]
 | succ k ih =>
   intro hk
   rw [wholeI_snoc, List.foldl_append, ih (by omega)]
   simp only [List.foldl_cons, List.foldl_nil, stStep]
   rw [if_pos (by rw [List.length_append, List.length_take, List.length_drop]; omega)]
   have h1 : (S.take k).length = k := by rw [List.length_take]; omega
   rw [List.set_append_right _ _ (by rw [h1]; omega), h1, show (k : Int).toNat - k = 0 by omega, List.drop_eq_getElem_cons (show k < L0.length by omega), List.set_cons_zero, List.take_succ_eq_append_getElem (show k < S.length by omega), List.append_assoc, List.getD, List.getElem?_eq_getElem (show k < S.length by omega)]
   rfl
theorem plan_state {S : List (List Int)} {bl sz : Int} {n T : Nat} (hl : (S.length : Int) = bl) (hT : T * n ≥ S.length) : stL bl sz (wsP (wholeI S S.length) n T) T = S := by
 have h1 : (wsP (wholeI S S.length) n T).take T = wsP (wholeI S S.length) n T := List.take_of_length_le (by rw [wsP_len]; omega)
 rw [stL, h1, wsP_fold, wholeI_len, show min (T * n) S.length = S.length by omega]
 have h2 : (wholeI S S.length).take S.length = wholeI S S.length := List.take_of_length_le (by rw [wholeI_len]; omega)
 rw [h2, whole_fold S _ (by rw [stZ, List.length_replicate]; omega) _ (Nat.le_refl _), List.take_length, List.drop_eq_nil_of_le (by rw [stZ, List.length_replicate]; omega), List.append_nil]
def planV (vo pe : Int) (pl : List Int) (bl sz : Int) (its : List (Int × List Int)) (n T j : Nat) : VolV := ⟨vo, bl, sz, pe, pl, T, j, true, 0, [], wsP its n j⟩
def planF (vo pe : Int) (pl : List Int) (bl sz : Int) (its : List (Int × List Int)) (n T : Nat) : VolV := ⟨vo, bl, sz, pe, pl, T, T, false, T, [], wsP its n T⟩
def macL (vo pe : Int) (pl : List Int) (bl sz : Int) (its : List (Int × List Int)) (n T j : Nat) : List VolV := if j = 0 then [] else if j ≤ T + 1 then [planV vo pe pl bl sz its n T (j - 1)] else [planF vo pe pl bl sz its n T]
theorem DoY.uni {x y y' : VolV} {kd at0 ix e9 e9' : Int} {its : List (Int × List Int)} (h : DoY x y kd at0 ix its e9) (h' : DoY x y' kd at0 ix its e9') : y = y' ∧ e9 = e9' := by
 obtain ⟨a1, a2, a3, a4, a5, a6, a7, a8⟩ := h
 obtain ⟨b1, b2, b3, b4, b5, b6, b7, b8⟩ := h'
 rw [a8] at b8
 simp only [Prod.mk.injEq] at b8
 obtain ⟨c1, c2, c3, c4, c5⟩ := b8
 cases y; cases y'; simp_all
theorem DoY.s {n : Nat} {x y : VolV} {kd at0 ix e9 : Int} {its : List (Int × List Int)} (h : DoY x y kd at0 ix its e9) (hx : VolS n x) (hb : ∀ e ∈ its, BytesL e.2) : VolS (n + 1) y := by
 obtain ⟨a1, a2, a3, a4, a5, a6, a7, a8⟩ := h
 obtain ⟨h1, h2, h3, h4, h5⟩ := hx
 obtain ⟨g1, g2, g3⟩ := h1.do h2 a8
 have g4 := doR_by a8 h5 hb
 obtain ⟨vo, bl, sz, pe, place, to, ne, hi, fl, pins, ws⟩ := y
 simp only at *
 subst a1 a2 a3 a4 a5 a6 a7
 exact ⟨g1, g2, by simp only; omega, by simp only; omega, g4⟩
theorem planV_do {vo pe : Int} {pl : List Int} {bl sz : Int} {its : List (Int × List Int)} {n T j : Nat} (hj : j < T) (hi : ItemsR bl sz (chunkI its n j)) : DoY (planV vo pe pl bl sz its n T j) (planV vo pe pl bl sz its n T (j + 1)) 6 0 j (chunkI its n j) 0 := by
 refine ⟨rfl, rfl, rfl, rfl, rfl, rfl, rfl, ?_⟩
 show doR bl sz T j 0 true [] (wsP its n j) 6 0 j (chunkI its n j) = (((j + 1 : Nat) : Int), true, 0, wsP its n (j + 1), 0)
 have hw : wrR bl sz (wsP its n j) (chunkI its n j) = (wsP its n j ++ [(((wsP its n j).length : Int) + 1, chunkI its n j)], 0) := by rw [wrR, if_pos hi]
 rw [doR, if_neg (by decide), if_neg (by decide), if_pos rfl]
 unfold takeR
 rw [hw, if_neg (by decide), if_neg (by omega), if_neg (by omega), if_pos rfl, wsP_snoc, wsP_len]
 rfl
theorem planF_do {vo pe : Int} {pl : List Int} {bl sz : Int} {its : List (Int × List Int)} {n T : Nat} : DoY (planV vo pe pl bl sz its n T T) (planF vo pe pl bl sz its n T) 7 0 0 [] 0 := by
 refine ⟨rfl, rfl, rfl, rfl, rfl, rfl, rfl, ?_⟩
 show doR bl sz T T 0 true [] (wsP its n T) 7 0 0 [] = ((T : Int), false, (T : Int), wsP its n T, 0)
 rw [doR, if_neg (by decide), if_neg (by decide), if_neg (by decide), if_pos rfl, publishR, if_neg (by simp), wsP_len]
structure PlanOk (vo pe : Int) (pl : List Int) (bl sz : Int) (S : List (List Int)) (n T : Nat) : Prop where
 nw : NewOk vo bl sz pe T pl
 n1 : 0 < n
 n8 : n ≤ 8
 l : (S.length : Int) = bl
 z : ∀ k, k < S.length → ((S.getD k []).length : Int) = sz
 b : ∀ k, k < S.length → BytesL (S.getD k [])
 t : (bl + (n : Int) - 1) / (n : Int) = (T : Int)
section
variable {vo pe : Int} {pl : List Int} {bl sz : Int} {S : List (List Int)} {n T : Nat} (h : PlanOk vo pe pl bl sz S n T)
include h
theorem PlanOk.tb : T ≤ 256 ∧ 1 ≤ T ∧ T * n ≥ S.length := by
 have h2 := h.n1; have h3 := h.nw; have h5 := h.l
 obtain ⟨a1, a2, a3, a4, a5⟩ := h3
 have h1 := plan_end (n := n) (by omega) h.t h.l
 refine ⟨plan_T (n := n) (by omega) ⟨a3, a4⟩ h.t, ?_, h1⟩
 rcases Nat.eq_zero_or_pos T with h6 | h6
 · subst h6; omega
 exact h6
theorem PlanOk.kn {k : Nat} (hk : k < T) : k * n < S.length := by
 have h1 := (plan_math (bl := bl) (its := wholeI S S.length) (n := n) (T := T) (k := k) (by have := h.n1; omega) h.n8 h.t h.tb.1 (by rw [wholeI_len]; exact h.l) hk).1
 rwa [wholeI_len] at h1
theorem PlanOk.items {k : Nat} (hk : k < T) : ItemsR bl sz (chunkI (wholeI S S.length) n k) := chunk_items h.n1 h.n8 (h.kn hk) h.l h.z
theorem PlanOk.mem {e : Int × List Int} (he : e ∈ wholeI S S.length) : (0 ≤ e.1 ∧ e.1 < bl) ∧ (e.2.length : Int) = sz ∧ BytesL e.2 := by
 obtain ⟨i, hi, rfl⟩ := List.getElem_of_mem he
 have hi' : i < S.length := by rwa [wholeI_len] at hi
 have h1 := wholeI_get (S := S) hi'
 rw [List.getElem?_eq_getElem hi] at h1
 rw [Option.some.inj h1]
 have := h.l
 exact ⟨by simp only; omega, h.z i hi', h.b i hi'⟩
theorem PlanOk.volS {j : Nat} (hj : j ≤ T) : VolS j (planV vo pe pl bl sz (wholeI S S.length) n T j) := by
 induction j with
 | zero =>
   have h1 := newV_s (n := 0) h.nw
   have h2 := h.tb.2.1
   have h3 : newV vo bl sz pe T pl = planV vo pe pl bl sz (wholeI S S.length) n T 0 := by
     rw [newV, show decide (0 < (T : Int)) = true from by rw [decide_eq_true_eq]; omega]; rfl
   rwa [h3] at h1
 | succ j ih => exact (planV_do (vo := vo) (pe := pe) (pl := pl) (by omega) (h.items (by omega))).s (ih (by omega)) (fun e he => (h.mem (chunkI_mem he)).2.2)
theorem PlanOk.fin : VolS (T + 1) (planF vo pe pl bl sz (wholeI S S.length) n T) := planF_do.s (h.volS (Nat.le_refl _)) (fun e he => by cases he)
theorem PlanOk.cmd {j : Nat} {c : RC} (hj : (planL vo pe pl bl sz (wholeI S S.length) n T)[j]? = some c) : CmdOk c.kd c.vo c.bl c.sz c.pe c.to c.at0 c.ix c.pl c.its := by
 have hn := h.nw; have ht := h.tb
 obtain ⟨a1, a2, a3, a4, a5, a6, a7, a8, ⟨a9, a10⟩, a11, a12⟩ := hn
 have hjl := (List.getElem?_eq_some_iff.1 hj).1
 rw [planL_len] at hjl
 rcases Nat.eq_zero_or_pos j with h0 | h0
 · subst h0
   obtain rfl : planH vo pe pl bl sz T = c := Option.some.inj hj
   have hpl : pl.length ≤ 256 := by
     obtain ⟨m, hm1, hm2⟩ := chunk_nat a3 a4 ⟨a7, a8⟩
     rw [hm1] at a10; omega
   refine ⟨(by first | omega | (dsimp only [planH, impR]; omega) | (simp [planH, impR]; done)), ⟨a1, a2⟩, (by first | omega | (dsimp only [planH, impR]; omega) | (simp [planH, impR]; done)), hpl, fun k hk => ?_, (by first | omega | (dsimp only [planH, impR]; omega) | (simp [planH, impR]; done)), (fun e he => by cases he), (fun e he => by cases he)⟩
   have := a9 _ (getD_mem hk)
   simp only [planH] at *; omega
 obtain ⟨i, rfl⟩ : ∃ i, j = i + 1 := ⟨j - 1, by omega⟩
 rcases Nat.lt_or_ge i T with h1 | h1
 · rw [planL_imp h1] at hj
   obtain rfl := Option.some.inj hj
   have hI := h.items h1
   refine ⟨(by first | omega | (dsimp only [planH, impR]; omega) | (simp [planH, impR]; done)), ⟨a1, a2⟩, (by first | omega | (dsimp only [planH, impR]; omega) | (simp [planH, impR]; done)), (by first | omega | (dsimp only [planH, impR]; omega) | (simp [planH, impR]; done)), (fun k hk => by simp [impR] at hk), hI.2.1, (fun e he => ?_), (fun e he => (h.mem (chunkI_mem he)).2.2)⟩
   have := h.mem (chunkI_mem he)
   omega
 obtain rfl : i = T := by omega
 rw [planL_end] at hj
 obtain rfl := Option.some.inj hj
 exact ⟨(by first | omega | (dsimp only [planH, impR]; omega) | (simp [planH, impR]; done)), ⟨a1, a2⟩, (by first | omega | (dsimp only [planH, impR]; omega) | (simp [planH, impR]; done)), (by first | omega | (dsimp only [planH, impR]; omega) | (simp [planH, impR]; done)), (fun k hk => by simp at hk), (by first | omega | (dsimp only [planH, impR]; omega) | (simp [planH, impR]; done)), (fun e he => by cases he), (fun e he => by cases he)⟩
end
end Go.Proofs.Ytkdnhndjjfjppaa.K
