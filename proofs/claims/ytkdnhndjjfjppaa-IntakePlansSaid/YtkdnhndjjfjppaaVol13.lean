/- VolumeImports' walk. -/
import Derived.Test.YtkdnhndjjfjppaaVol12
namespace Go.Proofs.Ytkdnhndjjfjppaa.K
open Go.ChangeShapes Go.WideShapes Go.ChangeAt Go.RowKit
set_option linter.unusedVariables false
set_option linter.unusedSimpArgs false
def WrsB (ws : List (Int × List (Int × List Int))) : Prop := ∀ e ∈ ws, e.2.length ≤ 8 ∧ ItsB e.2
theorem WrsB.ok {ws : List (Int × List (Int × List Int))} (h : WrsB ws) : WrsOk ws := fun e he => ⟨Nat.le_trans (h e he).1 (by decide), (h e he).2.ok⟩
set_option maxRecDepth 100000
set_option maxHeartbeats 4000000
theorem rnew_hid (kd vo bl sz pe to at0 ix : Int) (place : List Int) (pp pi : Option Addr) (cp ni ci : Nat) (w0 : World) (h0 : Rd (fun _ => True) w0 (.slice pp place.length cp) (.ns .i64 place)) (hn : place.length ≤ 1000000) (hN : NewOk vo bl sz pe to place) (ht : 0 < to) :
   Calls Try.prog 31 #[.agg #[.int .i64 kd, .int .i64 vo, .int .i64 bl, .int .i64 sz, .int .i64 pe, .slice pp place.length cp, .int .i64 to, .int .i64 at0, .int .i64 ix, .slice pi ni ci]] w0 fun e w' => ∃ p c, e = .returned (.tuple #[.agg #[.int .i64 vo, .int .i64 bl, .int .i64 sz, .int .i64 pe, .slice p place.length c, .int .i64 to, .int .i64 0, .bool true, .int .i64 0, .slice none 0 0, .slice none 0 0], .int .i64 0]) ∧ Rd (New w0) w' (.slice p place.length c) (.ns .i64 place) ∧ Below w0.heap.size w0 w' := by
 have h := rnew_yes kd vo bl sz pe to at0 ix place pp pi cp ni ci w0 h0 hn hN
 rwa [show decide (0 < to) = true from decide_eq_true ht] at h
end Go.Proofs.Ytkdnhndjjfjppaa.K
