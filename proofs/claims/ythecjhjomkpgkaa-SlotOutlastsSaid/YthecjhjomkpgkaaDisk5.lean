/- pdisk.keep. -/
import Derived.Test.YthecjhjomkpgkaaDisk4
namespace Go.Proofs.Ythecjhjomkpgkaa.K
open Go.ChangeShapes Go.WideShapes Go.ChangeAt Go.RowKit
set_option linter.unusedVariables false

def bit (mask : Int) (k : Nat) : Bool := mask / 2 ^ k % 2 == 1
/-- Those of the first k whose bits are 1. -/
def keptN (uns : List Un) (mask : Int) : Nat → List Un
  | 0 => []
  | k + 1 => keptN uns mask k ++ if bit mask k then [uns.getD k ⟨0, [], []⟩] else []
theorem keptN_len (uns : List Un) (mask : Int) : ∀ k, (keptN uns mask k).length ≤ k
  | 0 => by simp [keptN]
  | k + 1 => by
    have := keptN_len uns mask k
    rw [keptN, List.length_append]
    split <;> simp <;> omega
theorem keptN_good {uns : List Un} {n : Nat} (h : ∀ u ∈ uns, u.Good n) (mask : Int) : ∀ k, k ≤ uns.length → ∀ u ∈ keptN uns mask k, u.Good n
  | 0, _, u, hu => by simp [keptN] at hu
  | k + 1, hk, u, hu => by
    rw [keptN, List.mem_append] at hu
    rcases hu with hu | hu
    · exact keptN_good h mask k (by omega) u hu
    · split at hu
      · obtain rfl : u = uns.getD k ⟨0, [], []⟩ := by simpa using hu
        have : uns.getD k ⟨0, [], []⟩ = uns[k] := by simp [List.getD, show k < uns.length by omega]
        rw [this]; exact h _ (List.getElem_mem _)
      · simp at hu

theorem u64_and1 (x : Int) (h₀ : 0 ≤ x) (h₁ : x < 18446744073709551616) : bits .and .u64 x 1 = x % 2 := bits_mask .u64 64 (by decide) (fun n h0 h1 => by rw [IntKind.wrap_u64]; omega) 1 (by decide) x h₀ h₁
def KeepPost (w : World) (uns : List Un) (mask : Int) (m : Nat) (e : Ending) (w' : World) : Prop :=
  ∃ v, e = .returned v ∧ w'.ownsRow w.heap.size 103 129 v (keptN uns mask m).length ((keptN uns mask m).flatMap Un.cells) ∧ Below w.heap.size w w'

set_option maxRecDepth 100000 in
set_option maxHeartbeats 1000000 in
theorem keep_any {w : World} {base N : Nat} {vu : Value} {uns : List Un} (hown : w.ownsRow base 103 129 vu uns.length (uns.flatMap Un.cells)) (hg : ∀ u ∈ uns, u.Good N) (mask : Int) (m0 : 0 ≤ mask) (m1 : mask ≤ 18446744073709551615) (hn : uns.length ≤ 1000000000) (m : Nat) (hm : m = min uns.length 64) :
    Calls Try.prog 57 #[vu, .int .u64 mask] w (KeepPost w uns mask m) := by
  rcases hown.2 with ⟨rfl, h0⟩ | ⟨g, cap, cur, rfl, hbg, hgg, hle, hcm, hsz, htk⟩
  · obtain rfl := List.length_eq_zero_iff.1 h0
    obtain rfl : m = 0 := by rw [hm]; rfl
    clear hown hg hm
    go_enter Try.func57, Try.ntmps57
    go_wp2
    go_loopw [5, 14] (fun u i wr => i = .int .i64 0 ∧ u = .slice none 0 0 ∧ Below w.heap.size w wr) (fun _ i _ => 0)
    case atStart => exact ⟨rfl, rfl, Below.refl _ _⟩
    case round =>
      obtain ⟨rfl, rfl, hbel⟩ := hrel
      go_wp2
      go_ret
      exact ⟨_, rfl, World.ownsRow_nil _ _ _ _, hbel⟩
  · have hglt : g < w.heap.size := (Array.getElem?_eq_some_iff.1 hgg).1
    have hrange : ∀ k, k < uns.length → w.rangeAt g (k * 129) (Un.cells (uns.getD k ⟨0, [], []⟩)) := fun k hk j v hv => by
      have hj : j < 129 := by
        have hl := (List.getElem?_eq_some_iff.1 hv).1
        have : (uns.getD k ⟨0, [], []⟩) = uns[k] := by simp [List.getD, hk]
        rw [this, (hg _ (List.getElem_mem hk)).len] at hl
        exact hl
      have := hown.cells (g := g) rfl (k * 129 + j) v (by rw [parts_at Un.cells 129 uns k j ⟨0, [], []⟩ (fun s hs => (hg s hs).len) hk hj]; exact hv)
      rwa [Addr.add_lit, Nat.zero_add] at this
    have HR := Lib.hid hrange
    have HG := Lib.hid hg
    have HRNG := Lib.hid hrange
    clear hown hgg hsz htk hrange hg
    unfold maxLen at hcm
    have hcap : (uns.length : Int) ≤ cap := by omega
    by_cases h64 : uns.length ≤ 64
    · obtain rfl : m = uns.length := by omega
      clear hm
      go_enter Try.func57, Try.ntmps57
      go_wp2
      go_loopw [5, 14] (fun u i wr => ∃ k : Nat, k ≤ uns.length ∧ i = .int .i64 k ∧ wr.ownsRow w.heap.size 103 129 u (keptN uns mask k).length ((keptN uns mask k).flatMap Un.cells) ∧ Below w.heap.size w wr) (fun _ i _ => uns.length - (intOf i).toNat)
      case atStart => exact ⟨0, Nat.zero_le _, rfl, World.ownsRow_nil _ _ _ _, Below.refl _ _⟩
      case round =>
        obtain ⟨k, hk, rfl, hown, hbel⟩ := hrel
        by_cases hlt : k < uns.length
        · have hrk : wr.rangeAt g (k * 129) (Un.cells (uns.getD k ⟨0, [], []⟩)) := fun j v hv => by
            rw [hbel.cell (by exact hglt)]; exact HR.out k (by omega) j v hv
          have hgk : (uns.getD k ⟨0, [], []⟩).Good N := by
            have : uns.getD k ⟨0, [], []⟩ = uns[k] := by simp [List.getD, show k < uns.length by omega]
            rw [this]; exact HG.out _ (List.getElem_mem _)
          have hst : keptN uns mask (k + 1) = keptN uns mask k ++ if bit mask k then [uns.getD k ⟨0, [], []⟩] else [] := rfl
          have HST := Lib.hid hst
          clear hst
          generalize uns.getD k ⟨0, [], []⟩ = u9 at hrk hgk HST
          have hl9 := hgk.len
          have hi9 : (Try.prog.info? 103).map (·.size) = some (Un.cells u9).length := by rw [hl9]; exact infoWr
          have hi8 : (Try.prog.info? 103).map (fun i => (i.zero, i.size, i.bytes)) = some (some (.agg zeroWrite.toArray), (Un.cells u9).length, 136) := by rw [hl9]; exact infoWrite
          have HRK := Lib.hid hrk
          have HI9 := Lib.hid hi9
          have HI8 := Lib.hid hi8
          have HL9 := Lib.hid hl9
          have hkl := keptN_len uns mask k
          have hz := hbel.size
          have HO := Lib.hid hown
          have HBL := Lib.hid hbel
          clear hrk hi9 hi8 hl9 hgk hown hbel
          generalize hkk : (keptN uns mask k).length = L9 at HO hkl
          have HKK := Lib.hid hkk
          clear hkk
          have hq0 : 0 ≤ mask / 2 ^ k := Int.ediv_nonneg m0 (by exact Int.le_of_lt (Int.pow_pos (by omega)))
          have hq1 : mask / 2 ^ k < 18446744073709551616 := by
            have h1 : mask / 2 ^ k ≤ mask := Int.ediv_le_self _ m0
            omega
          have hand := u64_and1 (mask / 2 ^ k) hq0 hq1
          have hk64 : (k : Int) ≤ 64 := by omega
          clear hq0 hq1
          cases hb : bit mask k with
          | true =>
            have hc1 : bits .and .u64 (mask / 2 ^ k) 1 = 1 := by rw [hand]; simpa [bit] using hb
            have HBT := Lib.hid hb
            clear hb hand
            go_wp2_with (first | ((with_reducible refine wpList_loadM (.tmp 17) g (k * 129) (Un.cells u9) _ HRK.out Try.underlying103 rfl ?_ ?_ ?_); exact HI9.out; exact rfl) | ((with_reducible refine wpList_allocM zeroWrite ?_ ?_); exact zeroWr) | ((with_reducible refine wpList_storeN (.tmp 7) (.tmp 18) (Un.cells u9) (Un.cells_one _) ?_ ?_ ?_ ?_ ?_); exact HI9.out; exact rfl; exact rfl; exact HL9.out; intro w2 hb2 hbl2 hz2; have HZ2 := Lib.hid hz2; have HB2 := Lib.hid hb2; have HBL2 := Lib.hid hbl2; clear hz2 hb2 hbl2; have hr2 := HB2.out.range 0 (Un.cells u9) (fun j hj => by rw [Nat.zero_add]); have HR2 := Lib.hid hr2; clear hr2) | ((with_reducible refine wpList_loadM (.tmp 7) wr.heap.size 0 (Un.cells u9) _ HR2.out Try.underlying103 rfl ?_ ?_ ?_); exact HI9.out; exact rfl) | ((with_reducible refine wpList_buildS1 90 103 (.tmp 25) (Un.cells u9) _ 136 Try.underlying90 HI8.out ?_ ?_ ?_ ?_); (rw [HL9.out]; omega); (rw [HL9.out]; omega); exact rfl; have how : (w2.alloc (.cells (Un.cells u9).toArray 103)).ownsRow w.heap.size 103 129 u5 L9 ((keptN uns mask k).flatMap Un.cells) := ownsRow_keep (ownsRow_keep HO.out (Keep.ofBelow (bad := fun _ => False) HBL2.out) (fun _ _ h => h)) (Keep.alloc (fun _ => False) _ _) (fun _ _ h => h); have HOW := Lib.hid how; clear how; have hcw : ∀ j u, (Un.cells u9)[j]? = some u → (w2.alloc (.cells (Un.cells u9).toArray 103)).cell? ((⟨w2.heap.size, 0, none⟩ : Addr).add j) = some u := (fun j u hj => by rw [Addr.add_lit, Nat.zero_add, (Blk.alloc w2 103 (Un.cells u9).toArray).cell]; simpa using hj); have HCW := Lib.hid hcw; clear hcw) | ((with_reducible refine wpList_appW (.tmp 24) (.tmp 26) 90 w.heap.size 103 _ 129 136 Try.underlying90 infoWrite rfl ?_ u5 L9 _ HOW.out ⟨w2.heap.size, 0, none⟩ 1 1 (Un.cells u9) ?_ HCW.out (Un.cells_one _) ?_ ?_ ?_ ?_ ?_ ?_); omega; exact HL9.out; (unfold maxLen; omega); omega; (have := HZ2.out; simp; omega); exact rfl; exact rfl; intro v6 w6 hown6 hg6 hv6; have HO6 := Lib.hid hown6; have HG6 := Lib.hid hg6; clear hown6 hg6 hv6))
            go_roundw
            case rel =>
              have hst := HST.out
              rw [HBT.out, if_pos rfl] at hst
              refine ⟨k + 1, by omega, by go_num, ?_, ?_⟩
              · rw [hst, List.length_append, HKK.out, List.flatMap_append]
                simpa using HO6.out
              · exact (HBL.out.trans ((HBL2.out.trans ((Below.refl _ w2).alloc (by have := HZ2.out; omega) _)).mono hz)).grown HG6.out (by have := HZ2.out; simp; omega) (fun j hj => (HOW.out.lt j hj).1)
            case measure => simp [intOf]; omega
          | false =>
            have hc1 : bits .and .u64 (mask / 2 ^ k) 1 = 0 := by
              rw [hand]
              have : mask / 2 ^ k % 2 ≠ 1 := by simpa [bit] using hb
              omega
            have HBT := Lib.hid hb
            clear hb hand
            go_wp2_with (first | ((with_reducible refine wpList_loadM (.tmp 17) g (k * 129) (Un.cells u9) _ HRK.out Try.underlying103 rfl ?_ ?_ ?_); exact HI9.out; exact rfl) | ((with_reducible refine wpList_allocM zeroWrite ?_ ?_); exact zeroWr) | ((with_reducible refine wpList_storeN (.tmp 7) (.tmp 18) (Un.cells u9) (Un.cells_one _) ?_ ?_ ?_ ?_ ?_); exact HI9.out; exact rfl; exact rfl; exact HL9.out; intro w2 hb2 hbl2 hz2; have HZ2 := Lib.hid hz2; have HB2 := Lib.hid hb2; have HBL2 := Lib.hid hbl2; clear hz2 hb2 hbl2))
            go_roundw
            case rel =>
              have hst := HST.out
              rw [HBT.out] at hst
              refine ⟨k + 1, by omega, by go_num, ?_, HBL.out.trans (HBL2.out.mono hz)⟩
              rw [hst]
              simpa [HKK.out] using ownsRow_keep HO.out (Keep.ofBelow (bad := fun _ => False) HBL2.out) (fun _ _ h => h)
            case measure => simp [intOf]; omega
        · obtain rfl : k = uns.length := by omega
          go_wp2
          go_ret
          exact ⟨_, rfl, hown, hbel⟩
    · obtain rfl : m = 64 := by omega
      clear hm
      have h65 : ¬ (uns.length : Int) < 64 := by omega
      go_enter Try.func57, Try.ntmps57
      go_wp2
      go_loopw [5, 14] (fun u i wr => ∃ k : Nat, k ≤ 64 ∧ i = .int .i64 k ∧ wr.ownsRow w.heap.size 103 129 u (keptN uns mask k).length ((keptN uns mask k).flatMap Un.cells) ∧ Below w.heap.size w wr) (fun _ i _ => 64 - (intOf i).toNat)
      case atStart => exact ⟨0, Nat.zero_le _, rfl, World.ownsRow_nil _ _ _ _, Below.refl _ _⟩
      case round =>
        obtain ⟨k, hk, rfl, hown, hbel⟩ := hrel
        by_cases hlt : k < 64
        · have hrk : wr.rangeAt g (k * 129) (Un.cells (uns.getD k ⟨0, [], []⟩)) := fun j v hv => by
            rw [hbel.cell (by exact hglt)]; exact HR.out k (by omega) j v hv
          have hgk : (uns.getD k ⟨0, [], []⟩).Good N := by
            have : uns.getD k ⟨0, [], []⟩ = uns[k] := by simp [List.getD, show k < uns.length by omega]
            rw [this]; exact HG.out _ (List.getElem_mem _)
          have hst : keptN uns mask (k + 1) = keptN uns mask k ++ if bit mask k then [uns.getD k ⟨0, [], []⟩] else [] := rfl
          have HST := Lib.hid hst
          clear hst
          generalize uns.getD k ⟨0, [], []⟩ = u9 at hrk hgk HST
          have hl9 := hgk.len
          have hi9 : (Try.prog.info? 103).map (·.size) = some (Un.cells u9).length := by rw [hl9]; exact infoWr
          have hi8 : (Try.prog.info? 103).map (fun i => (i.zero, i.size, i.bytes)) = some (some (.agg zeroWrite.toArray), (Un.cells u9).length, 136) := by rw [hl9]; exact infoWrite
          have HRK := Lib.hid hrk
          have HI9 := Lib.hid hi9
          have HI8 := Lib.hid hi8
          have HL9 := Lib.hid hl9
          have hkl := keptN_len uns mask k
          have hz := hbel.size
          have HO := Lib.hid hown
          have HBL := Lib.hid hbel
          clear hrk hi9 hi8 hl9 hgk hown hbel
          generalize hkk : (keptN uns mask k).length = L9 at HO hkl
          have HKK := Lib.hid hkk
          clear hkk
          have hq0 : 0 ≤ mask / 2 ^ k := Int.ediv_nonneg m0 (by exact Int.le_of_lt (Int.pow_pos (by omega)))
          have hq1 : mask / 2 ^ k < 18446744073709551616 := by
            have h1 : mask / 2 ^ k ≤ mask := Int.ediv_le_self _ m0
            omega
          have hand := u64_and1 (mask / 2 ^ k) hq0 hq1
          have hk64 : (k : Int) ≤ 64 := by omega
          clear hq0 hq1
          cases hb : bit mask k with
          | true =>
            have hc1 : bits .and .u64 (mask / 2 ^ k) 1 = 1 := by rw [hand]; simpa [bit] using hb
            have HBT := Lib.hid hb
            clear hb hand
            go_wp2_with (first | ((with_reducible refine wpList_loadM (.tmp 17) g (k * 129) (Un.cells u9) _ HRK.out Try.underlying103 rfl ?_ ?_ ?_); exact HI9.out; exact rfl) | ((with_reducible refine wpList_allocM zeroWrite ?_ ?_); exact zeroWr) | ((with_reducible refine wpList_storeN (.tmp 7) (.tmp 18) (Un.cells u9) (Un.cells_one _) ?_ ?_ ?_ ?_ ?_); exact HI9.out; exact rfl; exact rfl; exact HL9.out; intro w2 hb2 hbl2 hz2; have HZ2 := Lib.hid hz2; have HB2 := Lib.hid hb2; have HBL2 := Lib.hid hbl2; clear hz2 hb2 hbl2; have hr2 := HB2.out.range 0 (Un.cells u9) (fun j hj => by rw [Nat.zero_add]); have HR2 := Lib.hid hr2; clear hr2) | ((with_reducible refine wpList_loadM (.tmp 7) wr.heap.size 0 (Un.cells u9) _ HR2.out Try.underlying103 rfl ?_ ?_ ?_); exact HI9.out; exact rfl) | ((with_reducible refine wpList_buildS1 90 103 (.tmp 25) (Un.cells u9) _ 136 Try.underlying90 HI8.out ?_ ?_ ?_ ?_); (rw [HL9.out]; omega); (rw [HL9.out]; omega); exact rfl; have how : (w2.alloc (.cells (Un.cells u9).toArray 103)).ownsRow w.heap.size 103 129 u5 L9 ((keptN uns mask k).flatMap Un.cells) := ownsRow_keep (ownsRow_keep HO.out (Keep.ofBelow (bad := fun _ => False) HBL2.out) (fun _ _ h => h)) (Keep.alloc (fun _ => False) _ _) (fun _ _ h => h); have HOW := Lib.hid how; clear how; have hcw : ∀ j u, (Un.cells u9)[j]? = some u → (w2.alloc (.cells (Un.cells u9).toArray 103)).cell? ((⟨w2.heap.size, 0, none⟩ : Addr).add j) = some u := (fun j u hj => by rw [Addr.add_lit, Nat.zero_add, (Blk.alloc w2 103 (Un.cells u9).toArray).cell]; simpa using hj); have HCW := Lib.hid hcw; clear hcw) | ((with_reducible refine wpList_appW (.tmp 24) (.tmp 26) 90 w.heap.size 103 _ 129 136 Try.underlying90 infoWrite rfl ?_ u5 L9 _ HOW.out ⟨w2.heap.size, 0, none⟩ 1 1 (Un.cells u9) ?_ HCW.out (Un.cells_one _) ?_ ?_ ?_ ?_ ?_ ?_); omega; exact HL9.out; (unfold maxLen; omega); omega; (have := HZ2.out; simp; omega); exact rfl; exact rfl; intro v6 w6 hown6 hg6 hv6; have HO6 := Lib.hid hown6; have HG6 := Lib.hid hg6; clear hown6 hg6 hv6))
            go_roundw
            case rel =>
              have hst := HST.out
              rw [HBT.out, if_pos rfl] at hst
              refine ⟨k + 1, by omega, by go_num, ?_, ?_⟩
              · rw [hst, List.length_append, HKK.out, List.flatMap_append]
                simpa using HO6.out
              · exact (HBL.out.trans ((HBL2.out.trans ((Below.refl _ w2).alloc (by have := HZ2.out; omega) _)).mono hz)).grown HG6.out (by have := HZ2.out; simp; omega) (fun j hj => (HOW.out.lt j hj).1)
            case measure => simp [intOf]; omega
          | false =>
            have hc1 : bits .and .u64 (mask / 2 ^ k) 1 = 0 := by
              rw [hand]
              have : mask / 2 ^ k % 2 ≠ 1 := by simpa [bit] using hb
              omega
            have HBT := Lib.hid hb
            clear hb hand
            go_wp2_with (first | ((with_reducible refine wpList_loadM (.tmp 17) g (k * 129) (Un.cells u9) _ HRK.out Try.underlying103 rfl ?_ ?_ ?_); exact HI9.out; exact rfl) | ((with_reducible refine wpList_allocM zeroWrite ?_ ?_); exact zeroWr) | ((with_reducible refine wpList_storeN (.tmp 7) (.tmp 18) (Un.cells u9) (Un.cells_one _) ?_ ?_ ?_ ?_ ?_); exact HI9.out; exact rfl; exact rfl; exact HL9.out; intro w2 hb2 hbl2 hz2; have HZ2 := Lib.hid hz2; have HB2 := Lib.hid hb2; have HBL2 := Lib.hid hbl2; clear hz2 hb2 hbl2))
            go_roundw
            case rel =>
              have hst := HST.out
              rw [HBT.out] at hst
              refine ⟨k + 1, by omega, by go_num, ?_, HBL.out.trans (HBL2.out.mono hz)⟩
              rw [hst]
              simpa [HKK.out] using ownsRow_keep HO.out (Keep.ofBelow (bad := fun _ => False) HBL2.out) (fun _ _ h => h)
            case measure => simp [intOf]; omega
        · obtain rfl : k = 64 := by omega
          go_wp2
          go_ret
          exact ⟨_, rfl, hown, hbel⟩
end Go.Proofs.Ythecjhjomkpgkaa.K
