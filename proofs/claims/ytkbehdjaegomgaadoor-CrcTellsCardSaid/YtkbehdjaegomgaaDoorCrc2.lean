/- What crc.Sum returns. -/
import Derived.Test.YtkbehdjaegomgaaDoorCrc1
namespace Go.Proofs.YtkbehdjaegomgaaDoor.K
open Go.ChangeShapes Go.WideShapes Go.ChangeAt Go.RowKit
set_option linter.unusedVariables false

/-- The value is a slice of slices of bytes. -/
def IsLists (w : World) (v : Value) (ls : List (List Int)) : Prop :=
  ∃ a c, v = .slice a ls.length c ∧ (ls.length = 0 ∨ ∃ b off, a = some ⟨b, off, none⟩ ∧ b < w.heap.size ∧ ∀ j, j < ls.length → ∃ u, w.cell? ⟨b, off + j, none⟩ = some u ∧ IsNums .u8 w u (ls.getD j []))

def sumC (ls : List (List Int)) : Int := ls.foldl moreC 0

theorem sums_snoc (ls : List (List Int)) (k : Nat) (h : k < ls.length) : sumC (ls.take (k + 1)) = moreC (sumC (ls.take k)) (ls.getD k []) := by
  unfold sumC
  rw [List.take_succ_eq_append_getElem h, List.foldl_append, List.foldl_cons, List.foldl_nil]; simp only [List.getD, List.getElem?_eq_getElem h, Option.getD_some]
theorem moreC_range (c : Int) (bs : List Int) : 0 ≤ moreC c bs ∧ moreC c bs < 4294967296 := range32 .xor _ _
theorem sumC_range (ls : List (List Int)) : 0 ≤ sumC ls ∧ sumC ls < 4294967296 := by
  rcases List.eq_nil_or_concat ls with rfl | ⟨l, b, rfl⟩
  · decide
  · unfold sumC; rw [List.concat_eq_append, List.foldl_append, List.foldl_cons, List.foldl_nil]; exact moreC_range _ _

def Bytes (bs : List Int) : Prop := ∀ j, j < bs.length → 0 ≤ bs.getD j 0 ∧ bs.getD j 0 ≤ 255

set_option maxRecDepth 100000 in
set_option maxHeartbeats 2000000 in
theorem sum_any (v : Value) (ls : List (List Int)) (w : World) (hT : TabOk w) (hv : IsLists w v ls) (hb : ∀ j, j < ls.length → Bytes (ls.getD j []) ∧ (ls.getD j []).length ≤ 1000000) (hl : ls.length ≤ 1000) :
    Calls Tryd.prog 10 #[v] w fun e w' => e = .returned (.int .u32 (sumC ls)) ∧ w' = w := by
  obtain ⟨p, cc, rfl, h⟩ := hv
  have H := Lib.hid h
  have HB := Lib.hid hb
  have HT := Lib.hid hT
  clear h hb hT
  go_enter Tryd.func10, Tryd.ntmps10
  go_wp2
  go_loop [3, 8] (fun s i => ∃ (k : Nat) (d : Int), k ≤ ls.length ∧ i = .int .i64 k ∧ s = .int .u32 d ∧ d = sumC (ls.take k)) (fun _ i => ls.length - (intOf i).toNat)
  case atStart => exact ⟨0, _, Nat.zero_le _, rfl, rfl, rfl⟩
  case round =>
    obtain ⟨k, d, hk, rfl, rfl, hd⟩ := hrel
    have hr : 0 ≤ d ∧ d < 4294967296 := by rw [hd]; exact sumC_range _
    have HD := Lib.hid hd
    clear hd
    by_cases hlt : k < ls.length
    · obtain h0 | ⟨b, off, rfl, hblk, hcell⟩ := H.out
      · omega
      obtain ⟨u, hc, hu⟩ := hcell k hlt
      have HU := Lib.hid hu
      obtain ⟨hy, hz⟩ := HB.out k hlt
      have HY := Lib.hid hy
      clear hcell hu hy
      go_wp2_with fail
      refine (more_any d u (ls.getD k []) w hr HT.out HU.out HY.out hz).mono ?_
      rintro e w1 ⟨rfl, rfl⟩
      go_wp2
      go_round
      case rel =>
        refine ⟨k + 1, _, by omega, by go_num, rfl, ?_⟩
        rw [sums_snoc _ _ hlt, HD.out]; simp [List.getD, hlt]
      case measure => simp [intOf]; omega
    · obtain rfl : k = ls.length := by omega
      rw [List.take_length] at HD
      go_wp2
      go_ret
      refine ⟨?_, rfl⟩
      rw [HD.out]
      rfl
end Go.Proofs.YtkbehdjaegomgaaDoor.K
