/- What the laws of a volume of numbers need: pins, states. -/
import Derived.Test.YtocfbocdnklllaaGreatVol34
import Derived.Test.YtocfbocdnklllaaGreatVol20
import Derived.Test.YtocfbocdnklllaaGreatG2
namespace Go.Proofs.YtocfbocdnklllaaGreat.K
open Go.ChangeShapes Go.WideShapes Go.ChangeAt Go.RowKit
set_option linter.unusedVariables false
set_option linter.unusedSimpArgs false

theorem VolS.sm {n : Nat} {x : VolV} (h : VolS n x) : x.place.length ≤ 256 ∧ x.pins.length ≤ n ∧ x.ws.length ≤ n ∧ ∀ e ∈ x.ws, e.2.length ≤ 8 := by
 obtain ⟨h1, h2, h3, h4⟩ := h
 refine ⟨?_, h3, h4, h1.its.2⟩
 obtain ⟨⟨a1, a2, a3, a4, a5, a6, a7, a8, a9, a10, a11⟩, b1, b2, b3⟩ := h1
 have h9 := a9.2
 have : (x.bl + x.pe - 1) / x.pe ≤ x.bl + x.pe - 1 := Int.ediv_le_self _ (by omega)
 have h8 : (x.bl + x.pe - 1) / x.pe ≤ x.bl := by
   have := Int.ediv_lt_of_lt_mul (a := x.bl + x.pe - 1) (b := x.bl + 1) (c := x.pe) (by omega) (by
     have : x.bl * 1 ≤ x.bl * x.pe := Int.mul_le_mul_of_nonneg_left (by omega) (by omega)
     rw [Int.add_mul]; omega)
   omega
 omega
def pinT (fl n : Int) (z : Int) : Int := fl + z % (n - fl + 1)
abbrev stZ (bl sz : Int) : List (List Int) := List.replicate bl.toNat (List.replicate sz.toNat 0)
abbrev stL (bl sz : Int) (ws : List PWr) (t : Nat) : List (List Int) := (ws.take t).foldl stW (stZ bl sz)
theorem stStep_len (L : List (List Int)) (x : PI) : (stStep L x).length = L.length := by unfold stStep; split <;> simp
theorem stSteps_len (l : List PI) : ∀ L : List (List Int), (l.foldl stStep L).length = L.length := by
 induction l with
 | nil => intro L; rfl
 | cons x l ih => intro L; rw [List.foldl_cons, ih, stStep_len]
theorem stW_len (L : List (List Int)) (x : PWr) : (stW L x).length = L.length := stSteps_len _ _
theorem stWs_len (l : List PWr) : ∀ L : List (List Int), (l.foldl stW L).length = L.length := by
 induction l with
 | nil => intro L; rfl
 | cons x l ih => intro L; rw [List.foldl_cons, ih, stW_len]
theorem stL_len (bl sz : Int) (ws : List PWr) (t : Nat) : (stL bl sz ws t).length = bl.toNat := by rw [stWs_len, List.length_replicate]
def wantF (i : Nat) (d : List Int) (x : PI) : List Int := if x.1 = (i : Int) then x.2 else d
set_option maxRecDepth 100000
set_option maxHeartbeats 4000000
theorem state_q (vo bl sz pe to ne fl : Int) (hi : Bool) (pp pn pw : Option Addr) (np cp nn9 cn9 nn cw : Nat) (ws : List PWr) (tt : Int) (t : Nat) (S : List (List Int)) (w0 : World) (h2 : Rd (fun _ => True) w0 (.slice pw nn cw) (.l 2 (ws.map wrD))) (hl : ws.length ≤ 1000000) (hok : WrsOk ws) (htt : tt = t) (ht0 : fl ≤ tt) (ht1 : t ≤ ws.length) (hb : 0 ≤ bl ∧ bl ≤ 256) (hs : 0 ≤ sz ∧ sz ≤ 32) (hS : stL bl sz ws t = S) :
   Calls Tryz.prog 11 #[.agg #[.int .i64 vo, .int .i64 bl, .int .i64 sz, .int .i64 pe, .slice pp np cp, .int .i64 to, .int .i64 ne, .bool hi, .int .i64 fl, .slice pn nn9 cn9, .slice pw nn cw], .int .i64 tt] w0 fun e w' => ∃ p c, e = .returned (.tuple #[.slice p (S.map bD).length c, .int .i64 0]) ∧ Rd (New w0) w' (.slice p (S.map bD).length c) (.l 1 (S.map bD)) ∧ Below w0.heap.size w0 w' := by
 obtain rfl : nn = ws.length := by obtain ⟨pq, cq, hv, _⟩ := h2.l_shape; injection hv with _ e2 _; rw [List.length_map] at e2; exact e2
 subst hS
 exact state_any vo bl sz pe to ne fl hi pp pn pw np cp nn9 cn9 cw ws tt t bl.toNat sz.toNat w0 h2 hl hok ht0 (by omega) (by omega) (by omega) (by omega)
end Go.Proofs.YtocfbocdnklllaaGreat.K
