/- A slot.Slot that came in by value. -/
import Derived.Test.YthecjhjomkpgkaaNums
import Derived.Deep.Strs
import Derived.WideShapes
namespace Go.Proofs.Ythecjhjomkpgkaa.K
open Go.ChangeShapes Go.WideShapes Go.ChangeAt Go.RowKit
set_option linter.unusedVariables false

set_option maxRecDepth 100000 in
theorem slot_open {H : Type} {enc : TypeId × Value → H} {W : World} {base : Nat} {held : Bool} {r : Reach} {b0 : Nat} {v : Value} {d : DataW H} {ps : List MemPlace} (hval : Value.okWide Try.prog W r b0 24 v) (hd : DataW.Trod enc Try.prog W base (fun _ => true) held 24 v d ps) :
    ∃ c g a : Int, v = .agg #[.int .u64 c, .int .u64 g, .int .i64 a] ∧ d = .agg [.lit (.int .u64 c), .lit (.int .u64 g), .lit (.int .i64 a)] ∧ ps = [] ∧ (Lit.int .u64 c).wf = true ∧ (Lit.int .u64 g).wf = true ∧ (Lit.int .i64 a).wf = true := by
  obtain ⟨cs, rfl, hsz⟩ := okWide_struct Try.underlying24 hval
  have e3 : Try.prog.cellsOf 24 = 3 := by kernel_rfl
  rw [e3] at hsz
  obtain ⟨fuel, hf⟩ := hd
  obtain ⟨l⟩ := cs
  have e1 : Try.prog.cellsOf 22 = 1 := by kernel_rfl
  have e2 : Try.prog.cellsOf 3 = 1 := by kernel_rfl
  match l, hsz with
  | [x0, x1, x2], _ =>
    obtain ⟨y0, y1, y2, n, hx, -, h0, h1, h2⟩ := Deep.trod_struct3 Try.underlying24 hf
    dsimp only at h0 h1 h2
    rw [e1] at h0 h1
    rw [e2] at h2
    obtain ⟨c, hc, hy0, hw0⟩ := DataW.trod_int Try.underlying22 h0
    obtain ⟨g, hg, hy1, hw1⟩ := DataW.trod_int Try.underlying22 h1
    obtain ⟨a, ha, hy2, hw2⟩ := DataW.trod_int Try.underlying3 h2
    have hc' : x0 = .int .u64 c := by simpa [Value.cells] using hc
    have hg' : x1 = .int .u64 g := by simpa [Value.cells] using hg
    have ha' : x2 = .int .i64 a := by simpa [Value.cells] using ha
    subst hc' hg' ha' hy0 hy1 hy2
    simp only [Prod.mk.injEq] at hx
    exact ⟨c, g, a, rfl, hx.1, by simpa using hx.2, hw0, hw1, hw2⟩

set_option maxRecDepth 100000 in
theorem slot_shut {H : Type} {enc : TypeId × Value → H} {W : World} {base : Nat} {spare : Nat → Bool} {held : Bool} {c g a : Int} (h0 : (Lit.int .u64 c).wf = true) (h1 : (Lit.int .u64 g).wf = true) (h2 : (Lit.int .i64 a).wf = true) :
    DataW.Trod enc Try.prog W base spare held 24 (.agg #[.int .u64 c, .int .u64 g, .int .i64 a]) (.agg [.lit (.int .u64 c), .lit (.int .u64 g), .lit (.int .i64 a)]) [] := by
  have e1 : Try.prog.cellsOf 22 = 1 := by kernel_rfl
  have e2 : Try.prog.cellsOf 3 = 1 := by kernel_rfl
  have e3 : Try.prog.cellsOf 24 = 3 := by kernel_rfl
  have h := Deep.trod_struct3_mk (enc := enc) (w := W) (base := base) (spare := spare) (held := held) (n := 1) (cs := [.int .u64 c, .int .u64 g, .int .i64 a]) (y0 := (.lit (.int .u64 c), [])) (y1 := (.lit (.int .u64 g), [])) (y2 := (.lit (.int .i64 a), [])) Try.underlying24 (by rw [e3]; rfl)
    (by dsimp only; rw [e1]; exact trod_int_mk 0 Try.underlying22 h0) (by dsimp only; rw [e1]; exact trod_int_mk 0 Try.underlying22 h1) (by dsimp only; rw [e2]; exact trod_int_mk 0 Try.underlying3 h2)
  exact ⟨_, h⟩
end Go.Proofs.Ythecjhjomkpgkaa.K
