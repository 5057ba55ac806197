/- package elect in a raft's seat (out of elect's E0, E1). -/
import Derived.Test.YtndnnlbdnjndiaaGreatG2
import Derived.Test.YtndnnlbdnjndiaaGreatG1
import Derived.Sort.OwnSortedInts
import Derived.Handy
import Derived.LoopTactic
import Derived.Lib.Hide
namespace Go.Proofs.YtndnnlbdnjndiaaGreat.K
open Go.ChangeShapes Go.WideShapes Go.ChangeAt Go.RowKit Go.Sort
set_option linter.unusedVariables false
set_option linter.unusedSimpArgs false


def tmo (n t : Int) : Int := 10 + (7 * (max n 0 % 10) + 3 * (max t 0 % 10)) % 10

set_option maxHeartbeats 1000000 in
theorem timeout_any (n t : Int) (w : World) (n0 : -9223372036854775808 ≤ n) (n1 : n ≤ 9223372036854775807) (t0 : -9223372036854775808 ≤ t) (t1 : t ≤ 9223372036854775807) :
   Calls Tryz.prog 50 #[.int .i64 n, .int .i64 t] w fun e w' => e = .returned (.int .i64 (tmo n t)) ∧ w = w' := by
 go_enter Tryz.func50, Tryz.ntmps50
 go_wp2
 all_goals (go_ret; exact ⟨ret_int (by unfold tmo; omega), rfl⟩)

def newer (a b c d : Int) : Bool := decide (c < a ∨ (a = c ∧ d ≤ b))

def IsInts (w : World) (v : Value) (zs : List Int) : Prop :=
 (∃ a c, v = .slice a 0 c ∧ zs = []) ∨
 ∃ b off c, v = .slice (some ⟨b, off, none⟩) zs.length c ∧ 0 < zs.length ∧ b < w.heap.size ∧ ∀ j, j < zs.length → w.cell? ⟨b, off + j, none⟩ = some (.int .i64 (zs.getD j 0))

def scanF (t c most : Int) (ts : List Int) : Nat → Int
 | 0 => c
 | k + 1 => if c + 1 + k ≤ most ∧ ts.getD k 0 = t then c + 1 + k else scanF t c most ts k

def mostOf (m : List Int) : Int := (m.mergeSort fun x y => decide (x ≤ y)).getD ((m.length - 1) / 2) 0

def commitF (t c : Int) (m ts : List Int) : Int := if m = [] then c else scanF t c (mostOf m) ts ts.length

set_option maxHeartbeats 2000000 in
theorem commit_any (t c : Int) (m ts : List Int) (v3 v4 : Value) (w : World) (hm : IsInts w v3 m) (ht : IsInts w v4 ts) (hc0 : -2199023255552 ≤ c) (hc1 : c ≤ 2199023255552) (ml : m.length ≤ 1000) (tl : ts.length ≤ 1000) :
   Calls Tryz.prog 147 #[.int .i64 t, .int .i64 c, v3, v4] w fun e w' => e = .returned (.int .i64 (commitF t c m ts)) ∧ Below w.heap.size w w' := by
 rcases hm with ⟨a, k, rfl, rfl⟩ | ⟨b, off, k, rfl, hpos, hblk, hcell⟩
 · obtain ⟨a', n', k', rfl⟩ : ∃ a n k, v4 = .slice a n k := by
     rcases ht with ⟨a, k, rfl, _⟩ | ⟨b, off, k, rfl, _⟩ <;> exact ⟨_, _, _, rfl⟩
   go_enter Tryz.func147, Tryz.ntmps147
   go_wp2
   go_ret
   exact ⟨rfl, by go_grown⟩
 · have hcl := Tryz.slices_Clone_int b off m.length k m w (Nat.le_refl _) (by omega) hcell
   have hp : ((m.length : Int) == 0) = false := by rw [beq_eq_false_iff_ne]; omega
   have HC := Lib.hid hcell
   have hne : m ≠ [] := by intro h; rw [h] at hpos; exact absurd hpos (by simp)
   clear hcell
   rcases ht with ⟨a', k', rfl, rfl⟩ | ⟨b', off', k', rfl, hpos', hblk', hcell'⟩
   · go_enter Tryz.func147, Tryz.ntmps147
     go_wp2_with fail
     refine hcl.mono ?_
     rintro e w1 ⟨v', rfl, hown, hnn, hb1⟩
     rw [List.take_length] at hown
     rcases hown.2 with ⟨hnil, _⟩ | ⟨g, cap, cur, rfl, hbase, hb, h1, h2, h3, h4⟩
     · exact absurd hnil hnn
     have hg : g < w1.heap.size := (Array.getElem?_eq_some_iff.1 hb).1
     have hsort := Tryz.slices_Sort_int g 0 cap m w1 (holds_of_blockI hb (by simpa using h4)) hg (by omega)
     clear h4
     go_wp2_with fail
     refine hsort.mono ?_
     rintro e w2 ⟨rfl, nn, os, rfl⟩
     have hown2 := ownsRow_sortedI (w := w1) (n := nn) (os := os) (ss := m) (ts := m.mergeSort fun x y => decide (x ≤ y)) (by simp) hbase hb h1 h2 h3
     have hb2 := hb1.grown (grownBy_sortedI (w := w1) (n := nn) (os := os) (g := g) (m.mergeSort fun x y => decide (x ≤ y)).toArray) hb1.size (fun j hj => by cases hj; exact hbase)
     generalize grow (putRow (Value.int .i64) (Sort.ahead w1 nn) g 0 (m.mergeSort fun x y => decide (x ≤ y)).toArray) os = w2 at hown2 hb2 ⊢
     have hq : (m.length - 1) / 2 < m.length := by omega
     have hcell2 : w2.cell? ⟨g, (m.length - 1) / 2, none⟩ = some (.int .i64 (mostOf m)) := by
       rw [hown2.cellAt _ (by omega)]
       unfold mostOf
       simp [List.getD, hq]
     clear hown hsort hcl hb h1 h2 h3
     go_wp2_with fail
     go_rounds 1
     go_ret
     exact ⟨ret_int (by simp [commitF, scanF, hne]), hb2⟩
   · have HC' := Lib.hid hcell'
     clear hcell'
     go_enter Tryz.func147, Tryz.ntmps147
     go_wp2_with fail
     refine hcl.mono ?_
     rintro e w1 ⟨v', rfl, hown, hnn, hb1⟩
     rw [List.take_length] at hown
     rcases hown.2 with ⟨hnil, _⟩ | ⟨g, cap, cur, rfl, hbase, hb, h1, h2, h3, h4⟩
     · exact absurd hnil hnn
     have hg : g < w1.heap.size := (Array.getElem?_eq_some_iff.1 hb).1
     have hsort := Tryz.slices_Sort_int g 0 cap m w1 (holds_of_blockI hb (by simpa using h4)) hg (by omega)
     clear h4
     go_wp2_with fail
     refine hsort.mono ?_
     rintro e w2 ⟨rfl, nn, os, rfl⟩
     have hown2 := ownsRow_sortedI (w := w1) (n := nn) (os := os) (ss := m) (ts := m.mergeSort fun x y => decide (x ≤ y)) (by simp) hbase hb h1 h2 h3
     have hb2 := hb1.grown (grownBy_sortedI (w := w1) (n := nn) (os := os) (g := g) (m.mergeSort fun x y => decide (x ≤ y)).toArray) hb1.size (fun j hj => by cases hj; exact hbase)
     generalize grow (putRow (Value.int .i64) (Sort.ahead w1 nn) g 0 (m.mergeSort fun x y => decide (x ≤ y)).toArray) os = w2 at hown2 hb2 ⊢
     have hq : (m.length - 1) / 2 < m.length := by omega
     have hcell2 : w2.cell? ⟨g, (m.length - 1) / 2, none⟩ = some (.int .i64 (mostOf m)) := by
       rw [hown2.cellAt _ (by omega)]
       unfold mostOf
       simp [List.getD, hq]
     clear hown hsort hcl hb h1 h2 h3
     go_wp2_with fail
     go_loop [11] (fun i => ∃ k : Nat, k ≤ ts.length ∧ i = .int .i64 ((k : Int) - 1) ∧ scanF t c (mostOf m) ts k = scanF t c (mostOf m) ts ts.length) (fun i => (intOf i + 1).toNat)
     case atStart => exact ⟨ts.length, Nat.le_refl _, rfl, rfl⟩
     case round =>
       obtain ⟨j, hj, rfl, hs⟩ := hrel
       rcases j with _ | j
       · rw [show (((0 : Nat) : Int) - 1) = -1 by rfl]
         have HS := Lib.hid hs
         clear hs
         go_wp2
         go_ret
         exact ⟨ret_int (by rw [commitF, if_neg hne, ← HS.out]; rfl), hb2⟩
       · rw [show (((j + 1 : Nat) : Int) - 1) = (j : Int) by omega]
         have hc4 : w2.cell? ⟨b', off' + j, none⟩ = some (.int .i64 (ts.getD j 0)) := by rw [hb2.cell hblk']; exact HC'.out j (by omega)
         obtain ⟨x, hx⟩ : ∃ x, ts.getD j 0 = x := ⟨_, rfl⟩
         rw [hx] at hc4
         have HX := Lib.hid hx
         have HS := Lib.hid hs
         clear hs hx
         by_cases h5 : c + 1 + j ≤ mostOf m
         · by_cases h6 : x = t
           · have h7 : (x == t) = true := by simpa using h6
             have H6 := Lib.hid h6
             clear h6
             go_wp2
             go_ret
             exact ⟨ret_int (by rw [commitF, if_neg hne, ← HS.out, scanF, if_pos ⟨h5, by rw [HX.out]; exact H6.out⟩]), hb2⟩
           · have h7 : (x == t) = false := by simpa using h6
             have H6 := Lib.hid h6
             clear h6
             go_wp2
             go_round
             case rel => exact ⟨j, by omega, rfl, by rw [← HS.out, scanF, if_neg (by rw [HX.out]; exact fun h => H6.out h.2)]⟩
             case measure => simp [intOf]
         · go_wp2
           go_round
           case rel => exact ⟨j, by omega, rfl, by rw [← HS.out, scanF, if_neg (fun h => h5 h.1)]⟩
           case measure => simp [intOf]


theorem IsInts.ofNums {w : World} {v : Value} {zs : List Int} (h : IsNums .i64 w v zs) : IsInts w v zs := by
 obtain ⟨a, c, rfl, h | ⟨b, off, rfl, h1, h2⟩⟩ := h
 · exact .inl ⟨a, c, by rw [h], List.eq_nil_of_length_eq_zero h⟩
 · rcases Nat.eq_zero_or_pos zs.length with h0 | h0
   · exact .inl ⟨_, c, by rw [h0], List.eq_nil_of_length_eq_zero h0⟩
   · exact .inr ⟨b, off, c, rfl, h0, h1, h2⟩
def cnt (i : Int) (l : List Int) : Nat := l.countP fun x => decide (i ≤ x)
theorem cnt_snoc (i : Int) (l : List Int) (x : Int) : cnt i (l ++ [x]) = cnt i l + if i ≤ x then 1 else 0 := by
 unfold cnt; rw [List.countP_append]; simp [List.countP_cons]
theorem cnt_le (i : Int) (l : List Int) : cnt i l ≤ l.length := List.countP_le_length

theorem sorted_mid (S : List Int) (hs : S.Pairwise (· ≤ ·)) (hp : 0 < S.length) (i : Int) : i ≤ S.getD ((S.length - 1) / 2) 0 ↔ S.length < 2 * cnt i S := by
 have hq : (S.length - 1) / 2 < S.length := by omega
 have hget : S.getD ((S.length - 1) / 2) 0 = S[(S.length - 1) / 2] := by simp [List.getD, hq]
 rw [hget]
 generalize hqq : (S.length - 1) / 2 = q at hq ⊢
 have hsplit : cnt i S = cnt i (S.take q) + cnt i (S.drop q) := by
   unfold cnt; rw [← List.countP_append, List.take_append_drop]
 have hsplit2 : cnt i S = cnt i (S.take (q + 1)) + cnt i (S.drop (q + 1)) := by
   unfold cnt; rw [← List.countP_append, List.take_append_drop]
 have hidx := List.pairwise_iff_getElem.1 hs
 constructor
 · intro h
   have : cnt i (S.drop q) = (S.drop q).length := by
     unfold cnt
     rw [List.countP_eq_length]
     intro x hx
     obtain ⟨j, hj, rfl⟩ := List.getElem_of_mem hx
     rw [List.getElem_drop]
     simp only [List.length_drop] at hj
     by_cases e : j = 0
     · subst e; simpa using h
     · have := hidx q (q + j) hq (by omega) (by omega)
       simp; omega
   have h2 : (S.drop q).length = S.length - q := by simp
   omega
 · intro h
   by_cases c : i ≤ S[q]
   · exact c
   · exfalso
     have : cnt i (S.take (q + 1)) = 0 := by
       unfold cnt
       rw [List.countP_eq_zero]
       intro x hx
       obtain ⟨j, hj, rfl⟩ := List.getElem_of_mem hx
       simp only [List.length_take] at hj
       rw [List.getElem_take]
       by_cases e : j = q
       · subst e; simpa using c
       · have := hidx j q (by omega) hq (by omega)
         simp; omega
     have h2 := cnt_le i (S.drop (q + 1))
     simp at h2
     omega

theorem most_iff (m : List Int) (hm : m ≠ []) (i : Int) : i ≤ mostOf m ↔ m.length < 2 * cnt i m := by
 have hl : 0 < m.length := List.length_pos_iff.2 hm
 have hlen : (m.mergeSort fun x y => decide (x ≤ y)).length = m.length := by simp
 have hs : (m.mergeSort fun x y => decide (x ≤ y)).Pairwise (· ≤ ·) := by
   have := List.pairwise_mergeSort (le := fun x y : Int => decide (x ≤ y)) (by intro a b c h1 h2; simp at *; omega) (by intro a b; simp; omega) m
   exact this.imp (by intro a b h; simpa using h)
 have h := sorted_mid _ hs (by omega) i
 rw [hlen] at h
 unfold mostOf
 rw [h]
 have : cnt i (m.mergeSort fun x y => decide (x ≤ y)) = cnt i m := (List.mergeSort_perm m _).countP_eq _
 rw [this]


def scanC (t c : Int) (m ts : List Int) : Nat → Int
 | 0 => c
 | k + 1 => if m.length < 2 * cnt (c + 1 + k) m ∧ ts.getD k 0 = t then c + 1 + k else scanC t c m ts k
def commitC (t c : Int) (m ts : List Int) : Int := if m.length = 0 then c else scanC t c m ts ts.length
theorem commitF_eq (t c : Int) (m ts : List Int) : commitF t c m ts = commitC t c m ts := by
 unfold commitF commitC
 by_cases h : m = []
 · subst h; rfl
 · rw [if_neg h, if_neg (fun h9 => h (List.eq_nil_of_length_eq_zero h9))]
   generalize ts.length = n
   induction n with
   | zero => rfl
   | succ n ih =>
     unfold scanF scanC
     rw [ih]
     have := most_iff m h (c + 1 + n)
     by_cases h2 : c + 1 + (n : Int) ≤ mostOf m ∧ ts.getD n 0 = t
     · rw [if_pos h2, if_pos ⟨this.1 h2.1, h2.2⟩]
     · rw [if_neg h2, if_neg fun h3 => h2 ⟨this.2 h3.1, h3.2⟩]
theorem commitC_any (t c : Int) (m ts : List Int) (v3 v4 : Value) (w : World) (hm : IsInts w v3 m) (ht : IsInts w v4 ts) (hc0 : -2199023255552 ≤ c) (hc1 : c ≤ 2199023255552) (ml : m.length ≤ 1000) (tl : ts.length ≤ 1000) :
   Calls Tryz.prog 147 #[.int .i64 t, .int .i64 c, v3, v4] w fun e w' => e = .returned (.int .i64 (commitC t c m ts)) ∧ Below w.heap.size w w' := by
 rw [← commitF_eq]; exact commit_any t c m ts v3 v4 w hm ht hc0 hc1 ml tl
end Go.Proofs.YtndnnlbdnjndiaaGreat.K
