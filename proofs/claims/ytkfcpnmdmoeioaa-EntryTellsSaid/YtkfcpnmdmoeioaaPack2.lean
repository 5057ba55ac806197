/- What pack.Join and pack.Lump return. -/
import Derived.Test.YtkfcpnmdmoeioaaPack1
import Derived.Test.YtkfcpnmdmoeioaaBytes
namespace Go.Proofs.Ytkfcpnmdmoeioaa.K
open Go.ChangeShapes Go.WideShapes Go.ChangeAt Go.RowKit
set_option linter.unusedVariables false

set_option maxRecDepth 100000 in
set_option maxHeartbeats 2000000 in
theorem grow_nil (n : Nat) (w : World) (hn : n ≤ 1000000) :
    Calls Try.prog 47 #[.slice none 0 0, .int .i64 n] w fun e w' => ∃ u, e = .returned u ∧ w'.ownsRow w.heap.size 5 1 u 0 [] ∧ Below w.heap.size w w' := by
  by_cases h0 : n = 0
  · subst h0
    go_enter Try.func47, Try.ntmps47
    go_wp2
    go_ret
    exact ⟨_, rfl, World.ownsRow_nil _ _ _ _, Below.refl _ _⟩
  · obtain ⟨i0, hi, hz0, hz1, hz2⟩ := info_parts info_u8
    have hbn : n * i0.bytes ≤ 140737488355328 := by rw [hz2]; omega
    have hrz : ∀ ty, (Builtin.append_ #[22, 3] ty #[.slice none 0 0, .int .i64 (n : Int)]).run Try.prog w =
        .ok (.slice (some ⟨w.heap.size, 0, none⟩) n (grownCap w n 0 5)) (w.drew.alloc (.cells (#[] ++ Builtin.zeroCells (Value.int .u8 0).cells n ++ Builtin.zeroCells (Value.int .u8 0).cells (grownCap w n 0 5 - n)) 5)) := fun ty => by
      have h := Lib.run_append_grow_zeros w 22 3 ty 5 i0 (.int .u8 0) .i64 .i64 Try.underlying22 Try.underlying3 hi hz0 none 0 0 [] (run_firstCells_none w.drew i0.size 0 0 0) n (by omega) (by omega) (by omega) (by omega) (by omega)
        (by rw [Nat.zero_add]; exact growslice_fits (by omega) hbn)
      rw [Nat.zero_add] at h
      exact h
    have hG := grownCap_ge w n 0 5
    have hM := grownCap_le_maxLen w n 0 5 (by unfold maxLen; omega)
    generalize grownCap w n 0 5 = G at hrz hG hM
    have hown : (w.drew.alloc (.cells (#[] ++ Builtin.zeroCells (Value.int .u8 0).cells n ++ Builtin.zeroCells (Value.int .u8 0).cells (G - n)) 5)).ownsRow w.heap.size 5 1 (.slice (some ⟨w.heap.size, 0, none⟩) 0 G) 0 [] := by
      refine World.ownsRow_made w.drew _ G (Nat.le_refl _) hM ?_
      have h1 : (Value.int .u8 0).cells.size = 1 := rfl
      simp [size_zeroCells, h1]
      omega
    have hbel : Below w.heap.size w (w.drew.alloc (.cells (#[] ++ Builtin.zeroCells (Value.int .u8 0).cells n ++ Builtin.zeroCells (Value.int .u8 0).cells (G - n)) 5)) := ((Below.refl _ w).drew).alloc (Nat.le_refl _) _
    generalize (w.drew.alloc (.cells (#[] ++ Builtin.zeroCells (Value.int .u8 0).cells n ++ Builtin.zeroCells (Value.int .u8 0).cells (G - n)) 5)) = W' at hrz hown hbel
    have HO := Lib.hid hown
    have HB := Lib.hid hbel
    clear hown hbel hi hz0 hz1 hz2
    unfold maxLen at hM
    go_enter Try.func47, Try.ntmps47
    go_wp2_with (at_builtin; refine Lib.wpList_append_run _ rfl _ _ _ _ rfl _ _ rfl rfl _ _ (hrz _) ?_)
    all_goals (go_ret; exact ⟨_, rfl, HO.out, HB.out⟩)

/-- The value is a slice of slices of bytes. -/
def IsLists (w : World) (v : Value) (ls : List (List Int)) : Prop :=
  ∃ a c, v = .slice a ls.length c ∧ (ls.length = 0 ∨ ∃ b off, a = some ⟨b, off, none⟩ ∧ b < w.heap.size ∧ ∀ j, j < ls.length → ∃ u, w.cell? ⟨b, off + j, none⟩ = some u ∧ IsNums .u8 w u (ls.getD j []))

def sumLen (ls : List (List Int)) : Nat := ls.flatten.length

theorem flatten_snoc (ls : List (List Int)) (k : Nat) (h : k < ls.length) : (ls.take (k + 1)).flatten = (ls.take k).flatten ++ ls.getD k [] := by
  rw [List.take_succ_eq_append_getElem h]; simp only [List.flatten_append, List.flatten_cons, List.flatten_nil, List.append_nil, List.getD, List.getElem?_eq_getElem h, Option.getD_some]
theorem sumLen_snoc (ls : List (List Int)) (k : Nat) (h : k < ls.length) : sumLen (ls.take (k + 1)) = sumLen (ls.take k) + (ls.getD k []).length := by
  unfold sumLen; rw [flatten_snoc _ _ h, List.length_append]
theorem sumLen_take (ls : List (List Int)) (k : Nat) : sumLen (ls.take k) ≤ sumLen ls := by
  have : ls.flatten = (ls.take k).flatten ++ (ls.drop k).flatten := by rw [← List.flatten_append, List.take_append_drop]
  unfold sumLen; rw [this]; simp

set_option maxRecDepth 100000 in
set_option maxHeartbeats 2000000 in
theorem join_any (v : Value) (ls : List (List Int)) (w : World) (hv : IsLists w v ls) (hl : ls.length ≤ 1000) (hs : sumLen ls ≤ 1000000) :
    Calls Try.prog 28 #[v] w fun e w' => ∃ u, e = .returned u ∧ w'.ownsRow w.heap.size 5 1 u ls.flatten.length (ls.flatten.map (Value.int .u8)) ∧ Below w.heap.size w w' := by
  obtain ⟨p, c, rfl, h⟩ := hv
  have H := Lib.hid h
  clear h
  go_enter Try.func28, Try.ntmps28
  go_wp2
  go_loop [3, 11] (fun n i => ∃ k : Nat, k ≤ ls.length ∧ i = .int .i64 k ∧ n = .int .i64 (sumLen (ls.take k) : Nat)) (fun _ i => ls.length - (intOf i).toNat)
  case atStart => exact ⟨0, Nat.zero_le _, rfl, rfl⟩
  case round =>
    obtain ⟨k, hk, rfl, rfl⟩ := hrel
    have hst := sumLen_take ls k
    obtain ⟨S0, hS0⟩ : ∃ S, sumLen (ls.take k) = S := ⟨_, rfl⟩
    by_cases hlt : k < ls.length
    · obtain h0 | ⟨b, off, rfl, hblk, hcell⟩ := H.out
      · omega
      obtain ⟨u, hc, pu, cu, rfl, -⟩ := hcell k hlt
      have hsn := sumLen_snoc ls k hlt
      obtain ⟨L, hL⟩ : ∃ L, (ls.getD k []).length = L := ⟨_, rfl⟩
      rw [hL] at hsn hc
      have hst2 := sumLen_take ls (k + 1)
      rw [hsn] at hst2
      rw [hS0] at hst hsn hst2 ⊢
      have HS := Lib.hid hsn
      have H0 := Lib.hid hS0
      have H1 := Lib.hid hL
      clear hsn hS0 hcell hL
      go_wp2
      go_round
      case rel => exact ⟨k + 1, by omega, by go_num, by rw [HS.out, Int.natCast_add]⟩
      case measure => simp [intOf]; omega
    · obtain rfl : k = ls.length := by omega
      rw [List.take_length] at hst ⊢
      clear hS0
      go_wp2_with fail
      refine (grow_nil (sumLen ls) w hs).mono ?_
      rintro e w1 ⟨u, rfl, hown, hb⟩
      go_wp2
      go_loopw [6, 24] (fun u i wr => ∃ k : Nat, k ≤ ls.length ∧ i = .int .i64 k ∧ wr.ownsRow w.heap.size 5 1 u (sumLen (ls.take k)) ((ls.take k).flatten.map (Value.int .u8)) ∧ Below w.heap.size w wr) (fun _ i _ => ls.length - (intOf i).toNat)
      case atStart => exact ⟨0, Nat.zero_le _, rfl, by simpa [sumLen] using hown, hb⟩
      case round =>
        obtain ⟨k, hk, rfl, hown, hbel⟩ := hrel
        have hst := sumLen_take ls k
        by_cases hlt : k < ls.length
        · obtain h0 | ⟨b, off, rfl, hblk, hcell⟩ := H.out
          · omega
          obtain ⟨u, hc0, hu⟩ := hcell k hlt
          have hc : wr.cell? ⟨b, off + k, none⟩ = some u := by rw [hbel.cell hblk]; exact hc0
          have hu2 : IsNums .u8 wr u (ls.getD k []) := hu.below hbel (Nat.le_refl _)
          have HS := Lib.hid (sumLen_snoc ls k hlt)
          have HF := Lib.hid (flatten_snoc ls k hlt)
          have hst2 := sumLen_take ls (k + 1)
          rw [HS.out] at hst2
          have hsz := hbel.size
          have HU := Lib.hid hu2
          obtain ⟨S0, hS0⟩ : ∃ S, sumLen (ls.take k) = S := ⟨_, rfl⟩
          rw [hS0] at hst hst2 hown
          have H0 := Lib.hid hS0
          obtain ⟨L, hL⟩ : ∃ L, (ls.getD k []).length = L := ⟨_, rfl⟩
          rw [hL] at hst2
          have H1 := Lib.hid hL
          clear hcell hc0 hu hu2 hS0 hL
          go_wp2_with (at_builtin; refine wpList_appN rfl _ _ 22 rfl w.heap.size 5 .u8 1 Try.underlying22 info_u8 (by omega) _ _ _ rfl hown _ _ rfl HU.out (by rw [H1.out]; omega) hsz ?_; intro v' w' hown' hb')
          go_roundw
          case rel => exact ⟨k + 1, by omega, by go_num, by rw [HS.out, HF.out, H0.out, List.map_append]; exact hown', hbel.trans hb'⟩
          case measure => simp [intOf]; omega
        · obtain rfl : k = ls.length := by omega
          rw [List.take_length] at hown
          go_wp2
          go_ret
          exact ⟨_, rfl, hown, hbel⟩

end Go.Proofs.Ytkfcpnmdmoeioaa.K
