/- Plain facts on elect.Commit's answer: the middle of the sorted numbers, and how many are at or beyond. -/
import Derived.Test.YtkckinhbbnochaaE2
namespace Go.Proofs.Ytkckinhbbnochaa

def cnt (i : Int) (l : List Int) : Nat := l.countP fun x => decide (i ≤ x)

theorem cnt_nil (i : Int) : cnt i [] = 0 := rfl
theorem cnt_snoc (i : Int) (l : List Int) (x : Int) : cnt i (l ++ [x]) = cnt i l + if i ≤ x then 1 else 0 := by
  unfold cnt; rw [List.countP_append]; simp [List.countP_cons]
theorem cnt_le (i : Int) (l : List Int) : cnt i l ≤ l.length := List.countP_le_length

theorem sorted_mid (S : List Int) (hs : S.Pairwise (· ≤ ·)) (hp : 0 < S.length) (i : Int) : i ≤ S.getD ((S.length - 1) / 2) 0 ↔ S.length < 2 * cnt i S := by
  have hq : (S.length - 1) / 2 < S.length := by omega
  have hget : S.getD ((S.length - 1) / 2) 0 = S[(S.length - 1) / 2] := by simp [List.getD, hq]
  rw [hget]
  generalize hqq : (S.length - 1) / 2 = q at hq ⊢
  have hsplit : cnt i S = cnt i (S.take q) + cnt i (S.drop q) := by
    unfold cnt; rw [← List.countP_append, List.take_append_drop]
  have hsplit2 : cnt i S = cnt i (S.take (q + 1)) + cnt i (S.drop (q + 1)) := by
    unfold cnt; rw [← List.countP_append, List.take_append_drop]
  have hidx := List.pairwise_iff_getElem.1 hs
  constructor
  · intro h
    have : cnt i (S.drop q) = (S.drop q).length := by
      unfold cnt
      rw [List.countP_eq_length]
      intro x hx
      obtain ⟨j, hj, rfl⟩ := List.getElem_of_mem hx
      rw [List.getElem_drop]
      simp only [List.length_drop] at hj
      by_cases e : j = 0
      · subst e; simpa using h
      · have := hidx q (q + j) hq (by omega) (by omega)
        simp; omega
    have h2 : (S.drop q).length = S.length - q := by simp
    omega
  · intro h
    by_cases c : i ≤ S[q]
    · exact c
    · exfalso
      have : cnt i (S.take (q + 1)) = 0 := by
        unfold cnt
        rw [List.countP_eq_zero]
        intro x hx
        obtain ⟨j, hj, rfl⟩ := List.getElem_of_mem hx
        simp only [List.length_take] at hj
        rw [List.getElem_take]
        by_cases e : j = q
        · subst e; simpa using c
        · have := hidx j q (by omega) hq (by omega)
          simp; omega
      have h2 := cnt_le i (S.drop (q + 1))
      simp at h2
      omega

theorem most_iff (m : List Int) (hm : m ≠ []) (i : Int) : i ≤ mostOf m ↔ m.length < 2 * cnt i m := by
  have hl : 0 < m.length := List.length_pos_iff.2 hm
  have hlen : (m.mergeSort fun x y => decide (x ≤ y)).length = m.length := by simp
  have hs : (m.mergeSort fun x y => decide (x ≤ y)).Pairwise (· ≤ ·) := by
    have := List.pairwise_mergeSort (le := fun x y : Int => decide (x ≤ y)) (by intro a b c h1 h2; simp at *; omega) (by intro a b; simp; omega) m
    exact this.imp (by intro a b h; simpa using h)
  have h := sorted_mid _ hs (by omega) i
  rw [hlen] at h
  unfold mostOf
  rw [h]
  have : cnt i (m.mergeSort fun x y => decide (x ≤ y)) = cnt i m := (List.mergeSort_perm m _).countP_eq _
  rw [this]

/-- May the entry behind c + k be told as the last one that most have? -/
def mayB (t c : Int) (m ts : List Int) (k : Nat) : Prop := m.length < 2 * cnt (c + 1 + k) m ∧ ts.getD k 0 = t

theorem scan_spec (t c : Int) (m ts : List Int) (hm : m ≠ []) : ∀ n : Nat, (c ≤ scanF t c (mostOf m) ts n ∧ scanF t c (mostOf m) ts n ≤ c + n) ∧
    ∀ k : Nat, k < n → (scanF t c (mostOf m) ts n < c + 1 + k → ¬ mayB t c m ts k) ∧ (scanF t c (mostOf m) ts n = c + 1 + k → mayB t c m ts k)
  | 0 => ⟨by simp [scanF], fun k hk => absurd hk (by omega)⟩
  | n + 1 => by
    obtain ⟨⟨h1, h2⟩, h3⟩ := scan_spec t c m ts hm n
    have hiff := most_iff m hm (c + 1 + n)
    unfold scanF
    split
    · rename_i h
      refine ⟨by omega, fun k hk => ⟨fun h4 => by omega, fun h4 => ?_⟩⟩
      have : k = n := by omega
      subst this
      exact ⟨hiff.1 h.1, h.2⟩
    · rename_i h
      refine ⟨by omega, fun k hk => ?_⟩
      by_cases e : k = n
      · subst e
        refine ⟨fun _ h5 => h ⟨hiff.2 h5.1, h5.2⟩, fun h4 => by omega⟩
      · exact h3 k (by omega)

end Go.Proofs.Ytkckinhbbnochaa
