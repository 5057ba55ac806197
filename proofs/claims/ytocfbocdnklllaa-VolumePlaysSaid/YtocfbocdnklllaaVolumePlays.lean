/- The Go function mementolaw16.VolumePlays returns true for every input and leaves its arguments as they were; no conditions. (The frame of this text is the guide's skeleton; the walk is ours.) -/
import Derived.Test.YtocfbocdnklllaaRows
import Derived.WalkKit
import Derived.ProofKit
import Derived.OpenShut
import Derived.ShutString
import Derived.ChangeOld
import Derived.Below
import Derived.Test.YtocfbocdnklllaaVolIn2
namespace Go.Proofs.Ytocfbocdnklllaa.volumePlays
open Go.ChangeShapes Go.WideShapes Go.ChangeAt Go.RowKit
open Go.ChangeMaps (open_string shut_string)
set_option linter.unusedVariables false

theorem own : ownKnob Try.prog.godebug = none := by kernel_rfl
theorem laidOut : laidOutB Try.prog = true := by kernel_rfl

/-- A slice of integers that came in. -/
def IsRow (k : IntKind) (w : World) (a : Option Addr) (len cap : Nat) (zs : List Int) : Prop :=
  (a = none ∧ len = 0 ∧ cap = 0 ∧ zs = []) ∨
  ∃ x, a = some x ∧ len ≤ cap ∧ cap ≤ maxLen ∧ zs.length = cap ∧ (∀ i, i < zs.length → w.cell? (x.add i) = some (.int k (zs.getD i 0))) ∧ ∀ n ∈ zs, (Lit.int k n).wf = true

set_option maxRecDepth 100000 in
theorem walk (cs0 : Array Value) (ds0 : List K.D) (cs1 : Array Value) (ds1 : List K.D) (a2 : Option Addr) (len2 cap2 : Nat) (rs2 : List (List K.D)) (a3 : Option Addr) (len3 cap3 : Nat) (rs3 : List (List K.D)) (w : World) (w0 : K.RdL (fun _ => True) w cs0.toList ds0 ∧ K.DOkL K.cmdS ds0) (w1 : K.RdL (fun _ => True) w cs1.toList ds1 ∧ K.DOkL K.a4S ds1) (w2 : K.Rd (fun _ => True) w (.slice a2 rs2.length cap2) (.l (K.a4S).length rs2) ∧ rs2.length = len2 ∧ rs2.length ≤ reachBytes ∧ ∀ r ∈ rs2, K.DOkL K.a4S r) (w3 : K.Rd (fun _ => True) w (.slice a3 rs3.length cap3) (.l (K.cmdS).length rs3) ∧ rs3.length = len3 ∧ rs3.length ≤ reachBytes ∧ ∀ r ∈ rs3, K.DOkL K.cmdS r) :
    Calls Try.prog 3 #[.agg cs0, .agg cs1, .slice a2 len2 cap2, .slice a3 len3 cap3] w fun e w' => e = .returned (.bool true) ∧ Below w.heap.size w w' := by
  obtain ⟨x0, x1, x2, x3, x4, x5, p5, c5, x6, x7, x8, x9, p9, c9, e0, f0, f1, f2, f3, f4, h5, k5, j5, f6, f7, f8, h9, k9, j9⟩ := K.openC w0.1 w0.2
  obtain ⟨l0⟩ := cs0
  obtain rfl : l0 = _ := e0
  obtain ⟨its, rfl, -⟩ := K.rows_map (fun r hr => K.it_form (j9 r hr))
  obtain ⟨y, hy, by1⟩ := K.f4_form w1.2
  subst hy
  obtain ⟨l1⟩ := cs1
  obtain ⟨a0, r0, q0, h0, t0⟩ := w1.1.cons_inv
  obtain ⟨a1, r1, rfl, h1, t1⟩ := t0.cons_inv
  obtain ⟨a2, r2, rfl, h2, t2⟩ := t1.cons_inv
  obtain ⟨a3, r3, rfl, h3, t3⟩ := t2.cons_inv
  obtain rfl := t3.nil_inv
  obtain rfl := h0.v_out
  obtain rfl := h1.v_out
  obtain rfl := h2.v_out
  obtain rfl := h3.v_out
  obtain rfl : l1 = _ := q0
  obtain ⟨g2, e2, -, q2⟩ := w2
  obtain ⟨ls, rfl, hls⟩ := K.rows_map (fun r hr => K.f4_form (q2 r hr))
  subst e2
  obtain ⟨g3, e3, -, q3⟩ := w3
  obtain ⟨rw9, rfl, hrw⟩ := K.rows_map (fun r hr => K.cmd_form (q3 r hr))
  subst e3
  unfold reachBytes at k9
  simp only [List.length_map] at g2 g3 k9 h9 ⊢
  exact K.plays_walk x0 x1 x2 x3 x4 x6 x7 x8 x5 its p5 p9 c5 c9 _ y.1 y.2.1 y.2.2.1 y.2.2.2 ls _ _ rw9 _ _ w h5 h9 k9 by1.1 by1.2.1 by1.2.2.1 by1.2.2.2 g2 hls g3 hrw

set_option maxRecDepth 100000 in
theorem lifted (os : Os) (started : os.Started) (H : Type) (enc : TypeId × Value → H) :
    ReturnsInHanded {} Try.checked os 3 .any (Rows.volumePlaysSpec.pre6 enc Try.prog Try.f3 Rows.volumePlaysRow.domain false) (Rows.volumePlaysSpec.post enc Try.prog Try.f3 false true false false) := by
  refine returnsInHanded_of_change_sized (C := Try.checked) own started (by kernel_rfl) Try.func3
    (ChangeSpec.witness6 (enc := enc) (C := Try.checked) false ⟨#[], #[.agg #[.int .i64 0, .int .i64 0, .int .i64 0, .int .i64 0, .int .i64 0, .slice none 0 0, .int .i64 0, .int .i64 0, .int .i64 0, .slice none 0 0], .agg #[.int .u8 0, .int .u8 0, .int .u8 0, .int .u8 0], .slice none 0 0, .slice none 0 0], []⟩ 8 (by kernel_rfl) (by kernel_rfl) (by kernel_rfl) (by kernel_rfl)) ?_
  intro W base args ds gs before hval0 hW hcnd hsz _
  have hval : ∀ (j : Nat) t v, Try.f3.params[j]? = some t → args[j]? = some v → Value.okWide Try.prog W .any base t v := hval0
  have hW' := hW
  obtain ⟨p, q, hA0, hV, rfl, hfz, hnd⟩ := hW
  have hA : DataW.TrodAll enc Try.prog W 0 (fun _ => true) true Try.f3.params.toList args.toList ds p := hA0
  rw [Try.params3] at hA hval hsz
  obtain ⟨v0, vs0, d0, ds0, p0, q0, hargs, rfl, rfl, h0, r0⟩ := trodAll_cons hA
  obtain ⟨v1, vs1, d1, ds1, p1, q1, rfl, rfl, rfl, h1, r1⟩ := trodAll_cons r0
  obtain ⟨v2, vs2, d2, ds2, p2, q2, rfl, rfl, rfl, h2, r2⟩ := trodAll_cons r1
  obtain ⟨v3, vs3, d3, ds3, p3, q3, rfl, rfl, rfl, h3, r3⟩ := trodAll_cons r2
  obtain ⟨rfl, rfl, rfl⟩ := trodAll_nil r3
  obtain rfl : args = #[v0, v1, v2, v3] := by cases args; simp_all
  obtain ⟨rfl, rfl⟩ := trodVars_none hV
  obtain ⟨cs0, rfl, hcz0⟩ := okWide_struct Try.underlying25 (hval 0 25 v0 rfl rfl)
  have k0 := h0
  have lt0 : ∀ x ∈ p0, x.block < W.heap.size := by obtain ⟨m, hm⟩ := k0; exact DataW.trod_lt m _ _ _ hm
  have wt0 : ∀ n ∈ d0.weights Try.prog 25, n ≤ reachBytes := fun n hn => by simpa using List.all_eq_true.1 hsz n (DataW.weights_mem_each (j := 0) (t := 25) (d := d0) rfl rfl n hn)
  obtain ⟨ds0, w0⟩ : ∃ ds0 : List K.D, K.RdL (fun _ => True) W cs0.toList ds0 ∧ K.DOkL K.cmdS ds0 := K.open_val K.fitsCmd h0 wt0
  obtain ⟨cs1, rfl, hcz1⟩ := (by have hv9 := hval 1 26 v1 rfl rfl; simp only [Value.okWide, Try.underlying26] at hv9; obtain ⟨cs9, e9, h9, _⟩ := hv9; exact ⟨cs9, e9, h9⟩ : ∃ cs9 : Array Value, v1 = .agg cs9 ∧ cs9.size = Try.prog.cellsOf 26)
  have k1 := h1
  have lt1 : ∀ x ∈ p1, x.block < W.heap.size := by obtain ⟨m, hm⟩ := k1; exact DataW.trod_lt m _ _ _ hm
  have wt1 : ∀ n ∈ d1.weights Try.prog 26, n ≤ reachBytes := fun n hn => by simpa using List.all_eq_true.1 hsz n (DataW.weights_mem_each (j := 1) (t := 26) (d := d1) rfl rfl n hn)
  obtain ⟨ds1, w1⟩ : ∃ ds1 : List K.D, K.RdL (fun _ => True) W cs1.toList ds1 ∧ K.DOkL K.a4S ds1 := K.open_val K.fitsA4 h1 wt1
  obtain ⟨a2, len2, cap2, rfl⟩ := okWide_slice Try.underlying27 (hval 2 27 v2 rfl rfl)
  have k2 := h2
  have lt2 : ∀ x ∈ p2, x.block < W.heap.size := by obtain ⟨m, hm⟩ := k2; exact DataW.trod_lt m _ _ _ hm
  have wt2 : ∀ n ∈ d2.weights Try.prog 27, n ≤ reachBytes := fun n hn => by simpa using List.all_eq_true.1 hsz n (DataW.weights_mem_each (j := 2) (t := 27) (d := d2) rfl rfl n hn)
  obtain ⟨rs2, w2⟩ : ∃ rs2 : List (List K.D), K.Rd (fun _ => True) W (.slice a2 rs2.length cap2) (.l (K.a4S).length rs2) ∧ rs2.length = len2 ∧ rs2.length ≤ reachBytes ∧ ∀ r ∈ rs2, K.DOkL K.a4S r := by
    obtain ⟨fuel, hf⟩ := h2
    exact K.open_rows K.fitsL4 hf wt2
  obtain ⟨a3, len3, cap3, rfl⟩ := okWide_slice Try.underlying28 (hval 3 28 v3 rfl rfl)
  have k3 := h3
  have lt3 : ∀ x ∈ p3, x.block < W.heap.size := by obtain ⟨m, hm⟩ := k3; exact DataW.trod_lt m _ _ _ hm
  have wt3 : ∀ n ∈ d3.weights Try.prog 28, n ≤ reachBytes := fun n hn => by simpa using List.all_eq_true.1 hsz n (DataW.weights_mem_each (j := 3) (t := 28) (d := d3) rfl rfl n hn)
  obtain ⟨rs3, w3⟩ : ∃ rs3 : List (List K.D), K.Rd (fun _ => True) W (.slice a3 rs3.length cap3) (.l (K.cmdS).length rs3) ∧ rs3.length = len3 ∧ rs3.length ≤ reachBytes ∧ ∀ r ∈ rs3, K.DOkL K.cmdS r := by
    obtain ⟨fuel, hf⟩ := h3
    exact K.open_rows K.fitsCmds hf wt3
  clear hA0 hval0
  refine (walk cs0 ds0 cs1 ds1 a2 len2 cap2 rs2 a3 len3 cap3 rs3 W w0 w1 w2 w3).mono fun e W' ⟨he, bel⟩ => ?_
  subst he
  exact ⟨_, rfl, _, _, _, [], _, [], hW', trodAll_mk1 (shut_bool Try.underlying4 _), (trodAll_cons_mk (Below.trod laidOut (by kernel_rfl) (of_decide_eq_true (by kernel_rfl)) k0 bel lt0) (trodAll_cons_mk (Below.trod laidOut (by kernel_rfl) (of_decide_eq_true (by kernel_rfl)) k1 bel lt1) (trodAll_cons_mk (Below.trod laidOut (by kernel_rfl) (of_decide_eq_true (by kernel_rfl)) k2 bel lt2) (trodAll_cons_mk (Below.trod laidOut (by kernel_rfl) (of_decide_eq_true (by kernel_rfl)) k3 bel lt3) trodAll_mk0)))), rfl, bel.frame _, fun h => by cases h⟩

theorem over : Rows.volumePlaysRow.holds Try.pinned (OpenSpec.ofChange Rows.volumePlaysSpec) :=
  OpenClaim.holds_of_wide 3 Try.f3 rfl rfl rfl rfl rfl rfl rfl ⟨rfl, rfl, rfl, rfl, rfl⟩ rfl rfl rfl rfl rfl (by kernel_rfl) Try.func3 (by kernel_rfl)
    (of_decide_eq_true (by kernel_rfl)) (by unfold Func.isWrapper; first | (rw [if_pos (by decide +kernel)]; kernel_rfl) | (rw [if_neg (by decide +kernel)]; exact ⟨rfl, rfl⟩))
    (fun os started H enc _ => lifted os started H enc)

/-- ████ THE STATEMENT ████ -/
theorem proved : Rows.VolumePlaysSaid := over
#print axioms proved
end Go.Proofs.Ytocfbocdnklllaa.volumePlays
