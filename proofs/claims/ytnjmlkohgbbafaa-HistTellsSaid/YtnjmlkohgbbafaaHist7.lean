/- hist.Add's refusals. -/
import Derived.Test.YtnjmlkohgbbafaaHist6
namespace Go.Proofs.Ytnjmlkohgbbafaa.K
open Go.ChangeShapes Go.WideShapes Go.ChangeAt Go.RowKit
set_option linter.unusedVariables false

set_option maxRecDepth 100000 in
set_option maxHeartbeats 1000000 in
theorem add_wrong (w : World) (v u : Value) (ks : List (Int × List Int)) (sq : Int) (hv : Vers w v ks) (hok : ∀ k ∈ ks, KeyOk k) (hn : ks.length ≤ 1000000) (hs : ¬ (1 ≤ sq ∧ sq ≤ 1099511627776)) :
    Calls Try.prog 29 #[v, .int .i64 sq, u] w (CopiedPost w ks) := by
  have HV := Lib.hid hv
  have HOK := Lib.hid hok
  have HS := Lib.hid hs
  clear hv hok hs
  go_enter Try.func29, Try.ntmps29
  go_wp2_with fail
  refine (copied_any w _ ks HV.out HOK.out hn).mono ?_
  rintro e w1 ⟨v1, rfl, hown, hb1⟩
  have HO := Lib.hid hown
  have HB := Lib.hid hb1
  clear hown hb1
  go_wp2_with fail
  refine (right_no sq w1 HS.out).mono ?_
  rintro e w' ⟨rfl, rfl⟩
  go_wp2
  go_ret
  exact ⟨_, rfl, HO.out, HB.out⟩

set_option maxRecDepth 100000 in
set_option maxHeartbeats 1000000 in
theorem add_old (w : World) (v u : Value) (ks : List (Int × List Int)) (sq : Int) (m : Nat) (hm : ks.length = m + 1) (hv : Vers w v ks) (hok : ∀ k ∈ ks, KeyOk k) (hn : ks.length ≤ 1000000) (s1 : 1 ≤ sq) (s2 : sq ≤ 1099511627776) (hs : sq ≤ (ks.getD m (0, [])).1) :
    Calls Try.prog 29 #[v, .int .i64 sq, u] w (CopiedPost w ks) := by
  obtain ⟨b, off, c, uu, rfl, hb, hcl, hcs, -, -⟩ := hv.cell m (by omega)
  obtain ⟨ls, hls⟩ : ∃ ls, (ks.getD m (0, [])).1 = ls := ⟨_, rfl⟩
  rw [hls] at hcs hs
  have HV := Lib.hid hv
  have HOK := Lib.hid hok
  have HCS := Lib.hid hcs
  have HM := Lib.hid hm
  clear hv hok hls hcs
  rw [hm] at hn HV ⊢
  clear hm
  have hm0 : (0 : Int) ≤ m := by omega
  have hmI : (m : Int) ≤ 1000000 := by omega
  go_enter Try.func29, Try.ntmps29
  go_wp2_with fail
  refine (copied_any w _ ks HV.out HOK.out (by rw [HM.out]; exact hn)).mono ?_
  rintro e w1 ⟨v1, rfl, hown, hb1⟩
  have HO := Lib.hid hown
  have HB := Lib.hid hb1
  have hc1 : w1.cell? ⟨b, off + m * 2, none⟩ = some (.int .i64 ls) := by rw [hb1.cell hb]; exact HCS.out
  clear hown hb1
  go_wp2_with fail
  refine (right_yes sq w1 s1 s2).mono ?_
  rintro e w' ⟨rfl, rfl⟩
  go_wp2
  go_ret
  exact ⟨_, rfl, HO.out, HB.out⟩

end Go.Proofs.Ytnjmlkohgbbafaa.K
