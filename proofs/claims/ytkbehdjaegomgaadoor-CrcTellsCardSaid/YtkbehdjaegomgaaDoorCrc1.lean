/- What crc.More returns. -/
import Derived.Test.YtkbehdjaegomgaaDoorBytes
import Derived.Lib.LaidTab
namespace Go.Proofs.YtkbehdjaegomgaaDoor.K
open Go.ChangeShapes Go.WideShapes Go.ChangeAt Go.RowKit
set_option linter.unusedVariables false

/-- The table of the program. -/
def tab : List Int := [0, 274646895, 549293790, 820201905, 1098587580, 1361435347, 1640403810, 1905808397, 2197175160, 2460548119, 2722870694, 2987750089, 3280807620, 3553878443, 3811616794, 4084100981]

def TabOk (w : World) : Prop := ∀ i, i < 16 → w.cell? ⟨0, i, none⟩ = some (.int .u32 (tab.getD i 0))

theorem TabOk.below {w w' : World} {B : Nat} (h : TabOk w) (hb : Below B w w') (h1 : 1 ≤ B) : TabOk w' := fun i hi => by
  rw [hb.cell (by show 0 < B; omega)]; exact h i hi

theorem range32 (op : BinOp) (x y : Int) : 0 ≤ bits op .u32 x y ∧ bits op .u32 x y < 4294967296 := by
  have h : ∀ n : Int, 0 ≤ IntKind.u32.wrap n ∧ IntKind.u32.wrap n < 4294967296 := fun n => by rw [IntKind.wrap_u32]; omega
  unfold bits
  split <;> first | exact h _ | (constructor <;> simp)

theorem u32_and15 (x : Int) (h₀ : 0 ≤ x) (h₁ : x < 4294967296) : bits .and .u32 x 15 = x % 16 := bits_mask .u32 32 (by decide) (fun n h0 h1 => by rw [IntKind.wrap_u32]; omega) 4 (by decide) x h₀ h₁

/-- The sum's four lowest bits are turned out. -/
def nib (c : Int) : Int := bits .xor .u32 (c / 16) (tab.getD (bits .and .u32 c 15).toNat 0)
theorem nib_def (c : Int) : nib c = bits .xor .u32 (c / 16) (tab.getD (bits .and .u32 c 15).toNat 0) := rfl
def step (d x : Int) : Int := nib (nib (bits .xor .u32 d x))
def turn (c : Int) : Int := bits .xor .u32 IntKind.u32.max c
def moreC (c : Int) (bs : List Int) : Int := turn (bs.foldl step (turn c))

theorem fold_snoc (c : Int) (bs : List Int) (k : Nat) (h : k < bs.length) : (bs.take (k + 1)).foldl step c = step ((bs.take k).foldl step c) (bs.getD k 0) := by
  rw [List.take_succ_eq_append_getElem h, List.foldl_append, List.foldl_cons, List.foldl_nil]; simp only [List.getD, List.getElem?_eq_getElem h, Option.getD_some]

theorem TabOk.at {w : World} (h : TabOk w) (c : Int) (hc : 0 ≤ c ∧ c < 4294967296) : w.cell? ⟨0, (bits .and .u32 c 15).toNat, none⟩ = some (.int .u32 (tab.getD (bits .and .u32 c 15).toNat 0)) := by
  refine h _ ?_
  rw [u32_and15 c hc.1 hc.2]; omega

theorem and15_lt (c : Int) (hc : 0 ≤ c ∧ c < 4294967296) : 0 ≤ bits .and .u32 c 15 ∧ bits .and .u32 c 15 < 16 := by
  rw [u32_and15 c hc.1 hc.2]; omega

set_option maxRecDepth 100000 in
set_option maxHeartbeats 2000000 in
theorem more_any (c : Int) (v : Value) (bs : List Int) (w : World) (hc : 0 ≤ c ∧ c < 4294967296) (hT : TabOk w) (hv : IsNums .u8 w v bs) (hb : ∀ j, j < bs.length → 0 ≤ bs.getD j 0 ∧ bs.getD j 0 ≤ 255) (hl : bs.length ≤ 1000000) :
    Calls Tryd.prog 12 #[.int .u32 c, v] w fun e w' => e = .returned (.int .u32 (moreC c bs)) ∧ w' = w := by
  obtain ⟨p, cc, rfl, h⟩ := hv
  have H := Lib.hid h
  have HB := Lib.hid hb
  have HT := Lib.hid hT
  clear h hb hT
  have hr0 := range32 .xor IntKind.u32.max c
  go_enter Tryd.func12, Tryd.ntmps12
  go_wp2
  go_loop [0, 11] (fun s i => ∃ (k : Nat) (d : Int), k ≤ bs.length ∧ i = .int .i64 k ∧ s = .int .u32 d ∧ d = (bs.take k).foldl step (turn c) ∧ 0 ≤ d ∧ d < 4294967296) (fun _ i => bs.length - (intOf i).toNat)
  case atStart => exact ⟨0, _, Nat.zero_le _, rfl, rfl, rfl, hr0.1, hr0.2⟩
  case round =>
    obtain ⟨k, d, hk, rfl, rfl, hd, hd0, hd1⟩ := hrel
    have HD := Lib.hid hd
    clear hd
    by_cases hlt : k < bs.length
    · obtain h0 | ⟨b, off, rfl, hblk, hcell⟩ := H.out
      · omega
      have hcl : w.cell? ⟨b, off + k, none⟩ = some (.int .u8 (bs.getD k 0)) := hcell k hlt
      clear hcell
      obtain ⟨x0, x1⟩ := HB.out k hlt
      obtain ⟨x, hx⟩ : ∃ x, bs.getD k 0 = x := ⟨_, rfl⟩
      rw [hx] at hcl x0 x1
      have HX := Lib.hid hx
      clear hx
      have r1 := range32 .xor d x
      have t1 := HT.out.at _ r1
      obtain ⟨p1, q1⟩ := and15_lt _ r1
      have HN1 := Lib.hid (nib_def (bits .xor .u32 d x))
      obtain ⟨T1, hT1⟩ : ∃ T1, tab.getD (bits .and .u32 (bits .xor .u32 d x) 15).toNat 0 = T1 := ⟨_, rfl⟩
      rw [hT1] at t1 HN1
      have r2 := range32 .xor (bits .xor .u32 d x / 16) T1
      have t2 := HT.out.at _ r2
      obtain ⟨p2, q2⟩ := and15_lt _ r2
      have HN2 := Lib.hid (nib_def (bits .xor .u32 (bits .xor .u32 d x / 16) T1))
      obtain ⟨T2, hT2⟩ : ∃ T2, tab.getD (bits .and .u32 (bits .xor .u32 (bits .xor .u32 d x / 16) T1) 15).toNat 0 = T2 := ⟨_, rfl⟩
      rw [hT2] at t2 HN2
      clear hT1 hT2
      have r3 := range32 .xor (bits .xor .u32 (bits .xor .u32 d x / 16) T1 / 16) T2
      go_wp2
      go_round
      case rel =>
        refine ⟨k + 1, _, by omega, by go_num, rfl, ?_, r3.1, r3.2⟩
        rw [fold_snoc _ _ _ hlt, ← HD.out, HX.out]
        unfold step
        rw [HN1.out, HN2.out]
      case measure => simp [intOf]; omega
    · obtain rfl : k = bs.length := by omega
      rw [List.take_length] at HD
      go_wp2
      go_ret
      refine ⟨?_, rfl⟩
      rw [HD.out]
      rfl
end Go.Proofs.YtkbehdjaegomgaaDoor.K
