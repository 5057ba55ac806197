/- msg: messages of each kind may be; what is bent may not. -/
import Derived.Test.YtmoghepeggohhaaDoorMsg6
namespace Go.Proofs.YtmoghepeggohhaaDoor.K
open Go.ChangeShapes Go.WideShapes Go.ChangeAt Go.RowKit
set_option linter.unusedVariables false
set_option linter.unusedSimpArgs false
theorem tmB {x d : Int} (hx : 0 ≤ x) (hd : 0 < d) : ∃ r : Int, x.tmod d = r ∧ 0 ≤ r ∧ r < d := ⟨_, rfl, by rw [Int.tmod_eq_emod_of_nonneg hx]; exact ⟨Int.emod_nonneg x (by omega), Int.emod_lt_of_pos x hd⟩⟩
theorem inB_in {n e : Int} (h0 : 0 ≤ n) (h1 : n < e) : inB n e = true := by unfold inB; simp [h0, h1]
theorem msgR_in {k g f t bi bt : Int} {n : NV} {cf bd da : List Int} (hk : 1 ≤ k ∧ k ≤ 9) (hg : 0 ≤ g ∧ g < 8) (hf : 0 ≤ f ∧ f < 7) (ht : 0 ≤ t ∧ t < 7) (hn : namedV k n = n) (hx : ∀ x ∈ timesN n, 0 ≤ x ∧ x < 1099511627777) (hv : (0 ≤ n.vo ∧ n.vo < 8) ∧ 0 ≤ n.ch ∧ n.ch < 256) (hl : listsB ⟨k, g, f, t, n, bi, bt, cf, bd, da⟩ = true) : msgR ⟨k, g, f, t, n, bi, bt, cf, bd, da⟩ = true := by
 have h1 : namedB k = true := by unfold namedB; simp; omega
 have h2 : numsB n = true := by
   unfold numsB
   rw [Bool.and_eq_true, List.all_eq_true, inB_in hv.1.1 hv.1.2, inB_in hv.2.1 hv.2.2]
   exact ⟨fun x hx' => inB_in (hx x hx').1 (hx x hx').2, rfl⟩
 unfold msgR
 dsimp only
 rw [h1, hn, h2, hl, inB_in hg.1 hg.2, inB_in hf.1 hf.2, inB_in ht.1 ht.2, decide_eq_true rfl]
 rfl
theorem msgOkA {k g f t te ix lt : Int} (hg : 0 ≤ g ∧ g < 8) (hf : 0 ≤ f ∧ f < 7) (ht : 0 ≤ t ∧ t < 7) (h1 : 0 ≤ te ∧ te < 4294967296) (h2 : 0 ≤ ix ∧ ix < 4294967296) (h3 : 0 ≤ lt ∧ lt < 4294967296) (hk : k = 1 ∨ k = 3 ∨ k = 5) : msgR ⟨k, g, f, t, ⟨te, ix, lt, 0, false, 0, 0, 0, 0⟩, 0, 0, [], [], []⟩ = true := by
 refine msgR_in (by omega) hg hf ht ?_ ?_ (by dsimp only; decide) ?_
 · rcases hk with rfl | rfl | rfl <;> simp [namedV]
 · intro x hx; simp only [timesN, List.mem_cons, List.not_mem_nil, or_false] at hx; omega
 · rcases hk with rfl | rfl | rfl <;> simp [listsB]
theorem msgOkB {k g f t te ix lt : Int} (hg : 0 ≤ g ∧ g < 8) (hf : 0 ≤ f ∧ f < 7) (ht : 0 ≤ t ∧ t < 7) (h1 : 0 ≤ te ∧ te < 4294967296) (h2 : 0 ≤ ix ∧ ix < 4294967296) (h3 : 0 ≤ lt ∧ lt < 4294967296) (b : Bool) (hk : k = 2 ∨ k = 4) : msgR ⟨k, g, f, t, ⟨te, 0, 0, 0, b, 0, 0, 0, 0⟩, 0, 0, [], [], []⟩ = true := by
 refine msgR_in (by omega) hg hf ht ?_ ?_ (by dsimp only; decide) ?_
 · rcases hk with rfl | rfl <;> simp [namedV]
 · intro x hx; simp only [timesN, List.mem_cons, List.not_mem_nil, or_false] at hx; omega
 · rcases hk with rfl | rfl <;> simp [listsB]
theorem msgOkC {k g f t te ix lt : Int} (hg : 0 ≤ g ∧ g < 8) (hf : 0 ≤ f ∧ f < 7) (ht : 0 ≤ t ∧ t < 7) (h1 : 0 ≤ te ∧ te < 4294967296) (h2 : 0 ≤ ix ∧ ix < 4294967296) (h3 : 0 ≤ lt ∧ lt < 4294967296) (b : Bool) (hk : k = 6) : msgR ⟨k, g, f, t, ⟨te, ix, 0, 0, b, 0, 0, 0, 0⟩, 0, 0, [], [], []⟩ = true := by
 refine msgR_in (by omega) hg hf ht ?_ ?_ (by dsimp only; decide) ?_
 · subst hk; simp [namedV]
 · intro x hx; simp only [timesN, List.mem_cons, List.not_mem_nil, or_false] at hx; omega
 · subst hk; simp [listsB]
theorem msgOkD {k g f t te ix lt : Int} (hg : 0 ≤ g ∧ g < 8) (hf : 0 ≤ f ∧ f < 7) (ht : 0 ≤ t ∧ t < 7) (h1 : 0 ≤ te ∧ te < 4294967296) (h2 : 0 ≤ ix ∧ ix < 4294967296) (h3 : 0 ≤ lt ∧ lt < 4294967296) (hk : k = 7) : msgR ⟨k, g, f, t, ⟨te, 0, 0, 0, false, 0, 0, 0, 0⟩, ix, te, [0, 6], [], []⟩ = true := by
 refine msgR_in (by omega) hg hf ht ?_ ?_ (by dsimp only; decide) ?_
 · subst hk; simp [namedV]
 · intro x hx; simp only [timesN, List.mem_cons, List.not_mem_nil, or_false] at hx; omega
 · subst hk
   have hb : baseOk ix te [0, 6] [] = true := by
     have hr : rightB [0, 6] = true := by decide
     have e1 : timeOk ix 0 = true := by unfold timeOk; simp; omega
     have e2 : timeOk te 0 = true := by unfold timeOk; simp; omega
     unfold baseOk
     rw [hr, e1, e2]; rfl
   simp [listsB, hb]
theorem msgOkE {k g f t te ix lt : Int} (hg : 0 ≤ g ∧ g < 8) (hf : 0 ≤ f ∧ f < 7) (ht : 0 ≤ t ∧ t < 7) (h1 : 0 ≤ te ∧ te < 4294967296) (h2 : 0 ≤ ix ∧ ix < 4294967296) (h3 : 0 ≤ lt ∧ lt < 4294967296) (x : Int) (hk : k = 8) : msgR ⟨k, g, f, t, ⟨0, 0, 0, 0, false, 0, 0, 0, 0⟩, 0, 0, [], [], [x]⟩ = true := by
 refine msgR_in (by omega) hg hf ht ?_ ?_ (by dsimp only; decide) ?_
 · subst hk; simp [namedV]
 · intro x hx; simp only [timesN, List.mem_cons, List.not_mem_nil, or_false] at hx; omega
 · subst hk; simp [listsB]
theorem msgOkF {k g f t te ix lt : Int} (hg : 0 ≤ g ∧ g < 8) (hf : 0 ≤ f ∧ f < 7) (ht : 0 ≤ t ∧ t < 7) (h1 : 0 ≤ te ∧ te < 4294967296) (h2 : 0 ≤ ix ∧ ix < 4294967296) (h3 : 0 ≤ lt ∧ lt < 4294967296) (v c : Int) (hv : 0 ≤ v ∧ v < 8) (hc : 0 ≤ c ∧ c < 256) (hk : k = 9) : msgR ⟨k, g, f, t, ⟨0, 0, 0, 0, false, v, c, ix, te⟩, 0, 0, [], [], []⟩ = true := by
 refine msgR_in (by omega) hg hf ht ?_ ?_ ⟨hv, hc⟩ ?_
 · subst hk; simp [namedV]
 · intro x hx; simp only [timesN, List.mem_cons, List.not_mem_nil, or_false] at hx; omega
 · subst hk; simp [listsB]
def y8 (m : MV) : MV := { m with n := { m.n with te := 1 } }
def yd (m : MV) : MV := { m with da := [1] }
theorem te8 {m : MV} (h : msgR m = true) (hk : m.k = 8) : m.n.te = 0 := by
 have hn := (msgR_out h).nm
 rw [← hn]; unfold namedV; simp [hk]
theorem y8_no {m : MV} (h : msgR m = true) (hk : m.k = 8) : msgR (y8 m) = false := by
 cases hy : msgR (y8 m) with
 | false => rfl
 | true =>
   have := te8 hy (show (y8 m).k = 8 from hk)
   simp [y8] at this
theorem y8_ne {m : MV} (h : msgR m = true) (hk : m.k = 8) : sameB m (y8 m) = false := by
 have h0 := te8 h hk
 have : m.n ≠ { m.n with te := 1 } := fun e => by
   have := congrArg NV.te e
   simp [h0] at this
 unfold sameB y8
 dsimp only
 rw [decide_eq_false (fun e => this (by simp only [Prod.mk.injEq] at e; exact e.2.2.2.2))]
 rfl
theorem da0 {m : MV} (h : msgR m = true) (hk : ¬ m.k = 8) : m.da = [] := by
 have hl := (msgR_out h).ls
 unfold listsB at hl
 rw [Bool.and_eq_true, if_neg hk, decide_eq_true_eq] at hl
 exact List.eq_nil_of_length_eq_zero hl.2
theorem yd_no {m : MV} (h : msgR m = true) (hk : ¬ m.k = 8) : msgR (yd m) = false := by
 cases hy : msgR (yd m) with
 | false => rfl
 | true =>
   have := da0 hy (show ¬ (yd m).k = 8 from hk)
   simp [yd] at this
theorem yd_ne {m : MV} (h : msgR m = true) (hk : ¬ m.k = 8) : sameB m (yd m) = false := by
 have h0 := da0 h hk
 unfold sameB yd
 dsimp only
 rw [h0, decide_eq_false (show ¬ (([] : List Int) = [1]) by simp), Bool.and_false, Bool.and_false]
theorem sameB_self (m : MV) : sameB m m = true := by unfold sameB; simp
end Go.Proofs.YtmoghepeggohhaaDoor.K
