/- DiskKeeps: what a crash leaves of a few sectors; arrays of slices. -/
import Derived.Test.YtnjmlkohgbbafaaDisk7
import Derived.Test.YtnjmlkohgbbafaaLis
namespace Go.Proofs.Ytnjmlkohgbbafaa.K
open Go.ChangeShapes Go.WideShapes Go.ChangeAt Go.RowKit
set_option linter.unusedVariables false

theorem nodup_at {l : List Nat} {i j g : Nat} (h : l.Nodup) (hi : l[i]? = some g) (hj : l[j]? = some g) : i = j := (List.getElem?_inj (List.getElem?_eq_some_iff.1 hi).1 h).1 (hi.trans hj.symm)
theorem undo_at {x : List Int} : ∀ (l : List Un) (s : List (List Int)) (i : Nat), (∀ u ∈ l, u.pos = i → u.was = x) → (s[i]? = some x ∨ ∃ u ∈ l, u.pos = i) → i < s.length → (undo l s)[i]? = some x
  | [], s, i, _, h, _ => by
    rcases h with h | ⟨u, hu, _⟩
    · exact h
    · simp at hu
  | u :: r, s, i, hw, h, hi => by
    rw [undo, List.getElem?_set]
    by_cases e : u.pos = i
    · rw [if_pos e, if_pos (by rw [undo_len]; omega), hw u (by simp) e]
    · rw [if_neg e]
      refine undo_at r s i (fun v hv => hw v (by simp [hv])) (h.imp id ?_) hi
      rintro ⟨v, hv, ev⟩
      rcases List.mem_cons.1 hv with rfl | hv
      · exact absurd ev e
      · exact ⟨v, hv, ev⟩
theorem keptN_mem {uns : List Un} {mask : Int} : ∀ k, k ≤ uns.length → ∀ u ∈ keptN uns mask k, ∃ j, j < k ∧ uns[j]? = some u ∧ bit mask j = true
  | 0, _, u, hu => by simp [keptN] at hu
  | k + 1, hk, u, hu => by
    rw [keptN, List.mem_append] at hu
    rcases hu with hu | hu
    · obtain ⟨j, h1, h2, h3⟩ := keptN_mem k (by omega) u hu
      exact ⟨j, by omega, h2, h3⟩
    · split at hu
      · rename_i hb
        obtain rfl : u = uns.getD k ⟨0, [], []⟩ := by simpa using hu
        exact ⟨k, by omega, by simp [List.getD, show k < uns.length by omega], hb⟩
      · simp at hu
theorem kept_nodup {uns : List Un} {mask : Int} (h : ∀ (j : Nat) (u : Un), uns[j]? = some u → u.pos = j) : ∀ k, k ≤ uns.length → ((keptN uns mask k).map Un.pos).Nodup
  | 0, _ => by simp [keptN]
  | k + 1, hk => by
    have ih := kept_nodup (mask := mask) h k (by omega)
    rw [keptN, List.map_append, List.nodup_append]
    refine ⟨ih, ?_, ?_⟩
    · split <;> simp
    · intro a ha b hb e
      obtain ⟨u, hu, rfl⟩ := List.mem_map.1 ha
      obtain ⟨j, h1, h2, h3⟩ := keptN_mem k (by omega) u hu
      obtain ⟨v, hv, rfl⟩ := List.mem_map.1 hb
      have e1 := h j u h2
      split at hv
      · obtain rfl : v = uns.getD k ⟨0, [], []⟩ := by simpa using hv
        have e2 := h k (uns.getD k ⟨0, [], []⟩) (by simp [List.getD, show k < uns.length by omega])
        omega
      · simp at hv
theorem redo_at (KN : List Un) (torn : Int) (s : List (List Int)) (hn : (KN.map Un.pos).Nodup) (i : Nat) : ∀ k, k ≤ KN.length →
    ((redoN KN torn s k)[i]? = s[i]? ∧ ∀ u ∈ KN.take k, u.pos ≠ i) ∨ ∃ u ∈ KN.take k, u.pos = i ∧ (i < s.length → ∃ m, (redoN KN torn s k)[i]? = some (u.new.take m ++ (s.getD i []).drop m))
  | 0, _ => by left; simp [redoN]
  | k + 1, hk => by
    have hk' : k < KN.length := by omega
    have hu : KN.getD k ⟨0, [], []⟩ = KN[k] := by simp [List.getD, hk']
    have htk : KN.take (k + 1) = KN.take k ++ [KN[k]] := by rw [List.take_succ_eq_append_getElem hk']
    rw [redoN, hu, htk]
    by_cases e : KN[k].pos = i
    · right
      refine ⟨KN[k], List.mem_append_right _ (by simp), e, fun hi => ?_⟩
      rcases redo_at KN torn s hn i k (by omega) with ⟨h1, h2⟩ | ⟨v, hv, h3, h4⟩
      · refine ⟨newN KN torn k, ?_⟩
        have hg : (redoN KN torn s k).getD i [] = s.getD i [] := by simp only [List.getD, h1]
        rw [e, List.getElem?_set, if_pos rfl, if_pos (by rw [redoN_len]; exact hi), hg]
      · exfalso
        obtain ⟨j, hj, rfl⟩ := List.mem_iff_getElem.1 hv
        rw [List.length_take] at hj
        have hjk : j < k := by omega
        rw [List.getElem_take] at h3
        have := nodup_at (i := j) (j := k) (g := i) hn (by simp [show j < KN.length by omega, h3]) (by simp [hk', e])
        omega
    · rcases redo_at KN torn s hn i k (by omega) with ⟨h1, h2⟩ | ⟨v, hv, h3, h4⟩
      · left
        refine ⟨by rw [List.getElem?_set, if_neg e]; exact h1, fun u hu => ?_⟩
        rcases List.mem_append.1 hu with hu | hu
        · exact h2 u hu
        · obtain rfl : u = KN[k] := by simpa using hu
          exact e
      · right
        refine ⟨v, List.mem_append_left _ hv, h3, fun hi => ?_⟩
        obtain ⟨m, hm⟩ := h4 hi
        exact ⟨m, by rw [List.getElem?_set, if_neg e]; exact hm⟩

/-- Behind a crash each sector is as it was, or begins as it became. -/
theorem crash_at (SO secs : List (List Int)) (uns : List Un) (mask torn : Int) (hl : secs.length = SO.length) (hn : uns.length ≤ 64) (hpos : ∀ (j : Nat) (u : Un), uns[j]? = some u → u.pos = j ∧ SO[j]? = some u.was)
    (hsec : ∀ i, uns.length ≤ i → secs[i]? = SO[i]?) (hle : uns.length ≤ SO.length) (i : Nat) (hi : i < SO.length) :
    (crashed secs uns mask torn)[i]? = SO[i]? ∨ (bit mask i = true ∧ ∃ u m, uns[i]? = some u ∧ (crashed secs uns mask torn)[i]? = some (u.new.take m ++ (SO.getD i []).drop m)) := by
  have hundo : undo uns secs = SO := by
    apply List.ext_getElem?
    intro j
    by_cases hj : j < SO.length
    · have hx : SO[j]? = some (SO.getD j []) := by simp [List.getD, hj]
      rw [hx]
      refine undo_at uns secs j (fun u hu e => ?_) ?_ (by omega)
      · obtain ⟨q, hq, rfl⟩ := List.mem_iff_getElem.1 hu
        obtain ⟨p1, p2⟩ := hpos q _ (List.getElem?_eq_getElem hq)
        rw [p1] at e
        subst e
        rw [hx] at p2
        exact (Option.some.inj p2).symm
      · by_cases hju : j < uns.length
        · right
          exact ⟨uns[j], List.getElem_mem hju, (hpos j _ (List.getElem?_eq_getElem hju)).1⟩
        · left
          rw [hsec j (by omega), hx]
    · rw [List.getElem?_eq_none (by rw [undo_len]; omega), List.getElem?_eq_none (by omega)]
  unfold crashed
  rw [hundo, show min uns.length 64 = uns.length by omega]
  have hnd := kept_nodup (uns := uns) (mask := mask) (fun j u h => (hpos j u h).1) uns.length (Nat.le_refl _)
  rcases redo_at (keptN uns mask uns.length) torn SO hnd i (keptN uns mask uns.length).length (Nat.le_refl _) with ⟨h1, _⟩ | ⟨u, hu, h3, h4⟩
  · exact .inl h1
  · right
    rw [List.take_length] at hu
    obtain ⟨j, _, h5, h6⟩ := keptN_mem uns.length (Nat.le_refl _) u hu
    have h7 := (hpos j u h5).1
    have : j = i := by omega
    subst this
    obtain ⟨m, hm⟩ := h4 hi
    exact ⟨h6, u, m, h5, hm⟩

/-! ### Two arrays of eight slices -/
def sl (g : Nat) : Value := .slice (some ⟨g, 0, none⟩) 64 64
def nil8 (k : Nat) : List Value := List.replicate (8 - k) (.slice none 0 0)
/-- The first so many of either are rows of sixty-four bytes, each in a block of its own. -/
structure Arrs (w : World) (A1 A2 : Nat) (bw bi : List Nat) (sw si : List (List Int)) : Prop where
  b1 : Blk w A1 28 (bw.map sl ++ nil8 bw.length)
  b2 : Blk w A2 28 (bi.map sl ++ nil8 bi.length)
  r1 : ∀ i g, bw[i]? = some g → Blk w g 5 (B8 (sw.getD i []))
  r2 : ∀ i g, bi[i]? = some g → Blk w g 5 (B8 (si.getD i []))
  nd : (A1 :: A2 :: (bw ++ bi)).Nodup
theorem Arrs.keep {bad : Nat → Prop} {w W : World} {A1 A2 : Nat} {bw bi : List Nat} {sw si : List (List Int)} (h : Arrs w A1 A2 bw bi sw si) (hk : Keep bad w W) (hb : ∀ k ∈ A1 :: A2 :: (bw ++ bi), ¬ bad k) : Arrs W A1 A2 bw bi sw si :=
  ⟨h.b1.keep hk (hb _ (by simp)), h.b2.keep hk (hb _ (by simp)), fun i g hg => (h.r1 i g hg).keep hk (hb g (by simp [List.mem_of_getElem? hg])), fun i g hg => (h.r2 i g hg).keep hk (hb g (by simp [List.mem_of_getElem? hg])), h.nd⟩
theorem Arrs.lt {w : World} {A1 A2 : Nat} {bw bi : List Nat} {sw si : List (List Int)} (h : Arrs w A1 A2 bw bi sw si) : ∀ k ∈ A1 :: A2 :: (bw ++ bi), k < w.heap.size := by
  intro k hk
  simp only [List.mem_cons, List.mem_append] at hk
  rcases hk with rfl | rfl | hk | hk
  · exact h.b1.lt
  · exact h.b2.lt
  · obtain ⟨i, hi, rfl⟩ := List.mem_iff_getElem.1 hk
    exact (h.r1 i _ (List.getElem?_eq_getElem hi)).lt
  · obtain ⟨i, hi, rfl⟩ := List.mem_iff_getElem.1 hk
    exact (h.r2 i _ (List.getElem?_eq_getElem hi)).lt
/-- A row of the first array is filled anew. -/
theorem Arrs.set1 {w W : World} {A1 A2 : Nat} {bw bi : List Nat} {sw si : List (List Int)} (h : Arrs w A1 A2 bw bi sw si) (i g : Nat) (s : List Int) (hg : bw[i]? = some g) (hk : Keep (fun k => k = g) w W) (hb : Blk W g 5 (B8 s)) (hi : i < sw.length) : Arrs W A1 A2 bw bi (sw.set i s) si := by
  have hnd := h.nd
  have hgm : g ∈ bw := List.mem_of_getElem? hg
  simp only [List.nodup_cons, List.mem_cons, List.mem_append, not_or, List.nodup_append] at hnd
  obtain ⟨⟨n1, n2, n3⟩, ⟨n4, n5⟩, n6, n7, n8⟩ := hnd
  refine ⟨h.b1.keep hk (fun e => n2 (e ▸ hgm)), h.b2.keep hk (fun e => n4 (e ▸ hgm)), fun j g' hj => ?_, fun j g' hj => (h.r2 j g' hj).keep hk (fun e => n8 g hgm g' (List.mem_of_getElem? hj) e.symm), h.nd⟩
  by_cases e : i = j
  · subst e
    obtain rfl : g' = g := Option.some.inj (hj.symm.trans hg)
    have : (sw.set i s).getD i [] = s := by simp [List.getD, hi]
    rw [this]; exact hb
  · have : (sw.set i s).getD j [] = sw.getD j [] := by simp [List.getD, List.getElem?_set, e]
    rw [this]
    refine (h.r1 j g' hj).keep hk (fun e2 => e ?_)
    subst e2
    exact (nodup_at n6 hg hj)
theorem Arrs.set2 {w W : World} {A1 A2 : Nat} {bw bi : List Nat} {sw si : List (List Int)} (h : Arrs w A1 A2 bw bi sw si) (i g : Nat) (s : List Int) (hg : bi[i]? = some g) (hk : Keep (fun k => k = g) w W) (hb : Blk W g 5 (B8 s)) (hi : i < si.length) : Arrs W A1 A2 bw bi sw (si.set i s) := by
  have hnd := h.nd
  have hgm : g ∈ bi := List.mem_of_getElem? hg
  simp only [List.nodup_cons, List.mem_cons, List.mem_append, not_or, List.nodup_append] at hnd
  obtain ⟨⟨n1, n2, n3⟩, ⟨n4, n5⟩, n6, n7, n8⟩ := hnd
  refine ⟨h.b1.keep hk (fun e => n3 (e ▸ hgm)), h.b2.keep hk (fun e => n5 (e ▸ hgm)), fun j g' hj => (h.r1 j g' hj).keep hk (fun e => n8 g' (List.mem_of_getElem? hj) g hgm e), fun j g' hj => ?_, h.nd⟩
  by_cases e : i = j
  · subst e
    obtain rfl : g' = g := Option.some.inj (hj.symm.trans hg)
    have : (si.set i s).getD i [] = s := by simp [List.getD, hi]
    rw [this]; exact hb
  · have : (si.set i s).getD j [] = si.getD j [] := by simp [List.getD, List.getElem?_set, e]
    rw [this]
    refine (h.r2 j g' hj).keep hk (fun e2 => e ?_)
    subst e2
    exact (nodup_at n7 hg hj)
end Go.Proofs.Ytnjmlkohgbbafaa.K
