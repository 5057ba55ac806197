/- What elect.Commit returns, for all numbers of a reasonable size. -/
import Derived.Test.YtkckinhbbnochaaE0
import Derived.Test.YtkckinhbbnochaaShelf
import Derived.Sort.OwnSortedInts
import Derived.Handy
import Derived.LoopTactic
import Derived.Lib.Hide
namespace Go.Proofs.Ytkckinhbbnochaa
open Go.ChangeShapes Go.WideShapes Go.ChangeAt Go.RowKit Go.Sort

/-- The value is a slice of the numbers zs, as they lie in w. -/
def IsInts (w : World) (v : Value) (zs : List Int) : Prop :=
  (∃ a c, v = .slice a 0 c ∧ zs = []) ∨
  ∃ b off c, v = .slice (some ⟨b, off, none⟩) zs.length c ∧ 0 < zs.length ∧ b < w.heap.size ∧ ∀ j, j < zs.length → w.cell? ⟨b, off + j, none⟩ = some (.int .i64 (zs.getD j 0))

def scanF (t c most : Int) (ts : List Int) : Nat → Int
  | 0 => c
  | k + 1 => if c + 1 + k ≤ most ∧ ts.getD k 0 = t then c + 1 + k else scanF t c most ts k

def mostOf (m : List Int) : Int := (m.mergeSort fun x y => decide (x ≤ y)).getD ((m.length - 1) / 2) 0

def commitF (t c : Int) (m ts : List Int) : Int := if m = [] then c else scanF t c (mostOf m) ts ts.length

set_option maxHeartbeats 2000000 in
theorem commit_any (t c : Int) (m ts : List Int) (v3 v4 : Value) (w : World) (hm : IsInts w v3 m) (ht : IsInts w v4 ts) (hc0 : -2199023255552 ≤ c) (hc1 : c ≤ 2199023255552) (ml : m.length ≤ 1000) (tl : ts.length ≤ 1000) :
    Calls Try.prog 13 #[.int .i64 t, .int .i64 c, v3, v4] w fun e w' => e = .returned (.int .i64 (commitF t c m ts)) ∧ Below w.heap.size w w' := by
  rcases hm with ⟨a, k, rfl, rfl⟩ | ⟨b, off, k, rfl, hpos, hblk, hcell⟩
  · obtain ⟨a', n', k', rfl⟩ : ∃ a n k, v4 = .slice a n k := by
      rcases ht with ⟨a, k, rfl, _⟩ | ⟨b, off, k, rfl, _⟩ <;> exact ⟨_, _, _, rfl⟩
    go_enter Try.func13, Try.ntmps13
    go_wp2
    go_ret
    exact ⟨rfl, by go_grown⟩
  · have hcl := Try.slices_Clone_int b off m.length k m w (Nat.le_refl _) (by omega) hcell
    have hp : ((m.length : Int) == 0) = false := by rw [beq_eq_false_iff_ne]; omega
    have HC := Lib.hid hcell
    have hne : m ≠ [] := by intro h; rw [h] at hpos; exact absurd hpos (by simp)
    clear hcell
    rcases ht with ⟨a', k', rfl, rfl⟩ | ⟨b', off', k', rfl, hpos', hblk', hcell'⟩
    · go_enter Try.func13, Try.ntmps13
      go_wp2_with fail
      refine hcl.mono ?_
      rintro e w1 ⟨v', rfl, hown, hnn, hb1⟩
      rw [List.take_length] at hown
      rcases hown.2 with ⟨hnil, _⟩ | ⟨g, cap, cur, rfl, hbase, hb, h1, h2, h3, h4⟩
      · exact absurd hnil hnn
      have hg : g < w1.heap.size := (Array.getElem?_eq_some_iff.1 hb).1
      have hsort := Try.slices_Sort_int g 0 cap m w1 (holds_of_blockI hb (by simpa using h4)) hg (by omega)
      clear h4
      go_wp2_with fail
      refine hsort.mono ?_
      rintro e w2 ⟨rfl, nn, os, rfl⟩
      have hown2 := ownsRow_sortedI (w := w1) (n := nn) (os := os) (ss := m) (ts := m.mergeSort fun x y => decide (x ≤ y)) (by simp) hbase hb h1 h2 h3
      have hb2 := hb1.grown (grownBy_sortedI (w := w1) (n := nn) (os := os) (g := g) (m.mergeSort fun x y => decide (x ≤ y)).toArray) hb1.size (fun j hj => by cases hj; exact hbase)
      generalize grow (putRow (Value.int .i64) (Sort.ahead w1 nn) g 0 (m.mergeSort fun x y => decide (x ≤ y)).toArray) os = w2 at hown2 hb2 ⊢
      have hq : (m.length - 1) / 2 < m.length := by omega
      have hcell2 : w2.cell? ⟨g, (m.length - 1) / 2, none⟩ = some (.int .i64 (mostOf m)) := by
        rw [hown2.cellAt _ (by omega)]
        unfold mostOf
        simp [List.getD, hq]
      clear hown hsort hcl hb h1 h2 h3
      go_wp2_with fail
      go_rounds 1
      go_ret
      exact ⟨ret_int (by simp [commitF, scanF, hne]), hb2⟩
    · have HC' := Lib.hid hcell'
      clear hcell'
      go_enter Try.func13, Try.ntmps13
      go_wp2_with fail
      refine hcl.mono ?_
      rintro e w1 ⟨v', rfl, hown, hnn, hb1⟩
      rw [List.take_length] at hown
      rcases hown.2 with ⟨hnil, _⟩ | ⟨g, cap, cur, rfl, hbase, hb, h1, h2, h3, h4⟩
      · exact absurd hnil hnn
      have hg : g < w1.heap.size := (Array.getElem?_eq_some_iff.1 hb).1
      have hsort := Try.slices_Sort_int g 0 cap m w1 (holds_of_blockI hb (by simpa using h4)) hg (by omega)
      clear h4
      go_wp2_with fail
      refine hsort.mono ?_
      rintro e w2 ⟨rfl, nn, os, rfl⟩
      have hown2 := ownsRow_sortedI (w := w1) (n := nn) (os := os) (ss := m) (ts := m.mergeSort fun x y => decide (x ≤ y)) (by simp) hbase hb h1 h2 h3
      have hb2 := hb1.grown (grownBy_sortedI (w := w1) (n := nn) (os := os) (g := g) (m.mergeSort fun x y => decide (x ≤ y)).toArray) hb1.size (fun j hj => by cases hj; exact hbase)
      generalize grow (putRow (Value.int .i64) (Sort.ahead w1 nn) g 0 (m.mergeSort fun x y => decide (x ≤ y)).toArray) os = w2 at hown2 hb2 ⊢
      have hq : (m.length - 1) / 2 < m.length := by omega
      have hcell2 : w2.cell? ⟨g, (m.length - 1) / 2, none⟩ = some (.int .i64 (mostOf m)) := by
        rw [hown2.cellAt _ (by omega)]
        unfold mostOf
        simp [List.getD, hq]
      clear hown hsort hcl hb h1 h2 h3
      go_wp2_with fail
      go_loop [11] (fun i => ∃ k : Nat, k ≤ ts.length ∧ i = .int .i64 ((k : Int) - 1) ∧ scanF t c (mostOf m) ts k = scanF t c (mostOf m) ts ts.length) (fun i => (intOf i + 1).toNat)
      case atStart => exact ⟨ts.length, Nat.le_refl _, rfl, rfl⟩
      case round =>
        obtain ⟨j, hj, rfl, hs⟩ := hrel
        rcases j with _ | j
        · rw [show (((0 : Nat) : Int) - 1) = -1 by rfl]
          have HS := Lib.hid hs
          clear hs
          go_wp2
          go_ret
          exact ⟨ret_int (by rw [commitF, if_neg hne, ← HS.out]; rfl), hb2⟩
        · rw [show (((j + 1 : Nat) : Int) - 1) = (j : Int) by omega]
          have hc4 : w2.cell? ⟨b', off' + j, none⟩ = some (.int .i64 (ts.getD j 0)) := by rw [hb2.cell hblk']; exact HC'.out j (by omega)
          obtain ⟨x, hx⟩ : ∃ x, ts.getD j 0 = x := ⟨_, rfl⟩
          rw [hx] at hc4
          have HX := Lib.hid hx
          have HS := Lib.hid hs
          clear hs hx
          by_cases h5 : c + 1 + j ≤ mostOf m
          · by_cases h6 : x = t
            · have h7 : (x == t) = true := by simpa using h6
              have H6 := Lib.hid h6
              clear h6
              go_wp2
              go_ret
              exact ⟨ret_int (by rw [commitF, if_neg hne, ← HS.out, scanF, if_pos ⟨h5, by rw [HX.out]; exact H6.out⟩]), hb2⟩
            · have h7 : (x == t) = false := by simpa using h6
              have H6 := Lib.hid h6
              clear h6
              go_wp2
              go_round
              case rel => exact ⟨j, by omega, rfl, by rw [← HS.out, scanF, if_neg (by rw [HX.out]; exact fun h => H6.out h.2)]⟩
              case measure => simp [intOf]
          · go_wp2
            go_round
            case rel => exact ⟨j, by omega, rfl, by rw [← HS.out, scanF, if_neg (fun h => h5 h.1)]⟩
            case measure => simp [intOf]

end Go.Proofs.Ytkckinhbbnochaa
