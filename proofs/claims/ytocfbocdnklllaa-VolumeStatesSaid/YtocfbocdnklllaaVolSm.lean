/- What the laws of a volume of numbers need: pins, states. -/
import Derived.Test.YtocfbocdnklllaaVol34
import Derived.Test.YtocfbocdnklllaaVol20
import Derived.Test.YtocfbocdnklllaaG2
namespace Go.Proofs.Ytocfbocdnklllaa.K
open Go.ChangeShapes Go.WideShapes Go.ChangeAt Go.RowKit
set_option linter.unusedVariables false
set_option linter.unusedSimpArgs false

theorem VolS.sm {n : Nat} {x : VolV} (h : VolS n x) : x.place.length ≤ 256 ∧ x.pins.length ≤ n ∧ x.ws.length ≤ n ∧ ∀ e ∈ x.ws, e.2.length ≤ 8 := by
 obtain ⟨h1, h2, h3, h4⟩ := h
 refine ⟨?_, h3, h4, h1.its.2⟩
 obtain ⟨⟨a1, a2, a3, a4, a5, a6, a7, a8, a9, a10, a11⟩, b1, b2, b3⟩ := h1
 have h9 := a9.2
 have : (x.bl + x.pe - 1) / x.pe ≤ x.bl + x.pe - 1 := Int.ediv_le_self _ (by omega)
 have h8 : (x.bl + x.pe - 1) / x.pe ≤ x.bl := by
   have := Int.ediv_lt_of_lt_mul (a := x.bl + x.pe - 1) (b := x.bl + 1) (c := x.pe) (by omega) (by
     have : x.bl * 1 ≤ x.bl * x.pe := Int.mul_le_mul_of_nonneg_left (by omega) (by omega)
     rw [Int.add_mul]; omega)
   omega
 omega
def pinT (fl n : Int) (z : Int) : Int := fl + z % (n - fl + 1)
abbrev stZ (bl sz : Int) : List (List Int) := List.replicate bl.toNat (List.replicate sz.toNat 0)
abbrev stL (bl sz : Int) (ws : List PWr) (t : Nat) : List (List Int) := (ws.take t).foldl stW (stZ bl sz)
theorem stStep_len (L : List (List Int)) (x : PI) : (stStep L x).length = L.length := by unfold stStep; split <;> simp
theorem stSteps_len (l : List PI) : ∀ L : List (List Int), (l.foldl stStep L).length = L.length := by
 induction l with
 | nil => intro L; rfl
 | cons x l ih => intro L; rw [List.foldl_cons, ih, stStep_len]
theorem stW_len (L : List (List Int)) (x : PWr) : (stW L x).length = L.length := stSteps_len _ _
theorem stWs_len (l : List PWr) : ∀ L : List (List Int), (l.foldl stW L).length = L.length := by
 induction l with
 | nil => intro L; rfl
 | cons x l ih => intro L; rw [List.foldl_cons, ih, stW_len]
theorem stL_len (bl sz : Int) (ws : List PWr) (t : Nat) : (stL bl sz ws t).length = bl.toNat := by rw [stWs_len, List.length_replicate]
def wantF (i : Nat) (d : List Int) (x : PI) : List Int := if x.1 = (i : Int) then x.2 else d
theorem wantF_yes {i : Nat} {d d2 : List Int} {it : List PI} {k : Nat} {x : PI} (h : it[k]? = some x) (hd : d2 = (it.take k).foldl (wantF i) d) (hx : x.1 = (i : Int)) : x.2 = (it.take (k + 1)).foldl (wantF i) d := by
 rw [take_snoc h, List.foldl_append, ← hd]; simp only [List.foldl_cons, List.foldl_nil, wantF]; rw [if_pos hx]
theorem wantF_no {i : Nat} {d d2 : List Int} {it : List PI} {k : Nat} {x : PI} (h : it[k]? = some x) (hd : d2 = (it.take k).foldl (wantF i) d) (hx : ¬ x.1 = (i : Int)) : d2 = (it.take (k + 1)).foldl (wantF i) d := by
 rw [take_snoc h, List.foldl_append, ← hd]; simp only [List.foldl_cons, List.foldl_nil, wantF]; rw [if_neg hx]
theorem stStep_get (L : List (List Int)) (x : PI) (i : Nat) (hi : i < L.length) : (stStep L x).getD i [] = wantF i (L.getD i []) x := by
 unfold stStep wantF
 by_cases h : 0 ≤ x.1 ∧ x.1 ≤ (L.length : Int) - 1
 · rw [if_pos h]
   by_cases h2 : x.1 = (i : Int)
   · rw [if_pos h2, h2, Int.toNat_natCast]
     simp [List.getD, List.getElem?_set_self, hi]
   · rw [if_neg h2]
     have h3 : x.1.toNat ≠ i := by omega
     simp [List.getD, List.getElem?_set_ne h3]
 · rw [if_neg h, if_neg (by omega)]
theorem stSteps_get (l : List PI) (i : Nat) : ∀ (L : List (List Int)), i < L.length → (l.foldl stStep L).getD i [] = l.foldl (wantF i) (L.getD i []) := by
 induction l with
 | nil => intro L _; rfl
 | cons x l ih => intro L h; rw [List.foldl_cons, List.foldl_cons, ih _ (by rw [stStep_len]; exact h), stStep_get L x i h]
theorem stL_app (bl sz : Int) (ws : List PWr) (x : PWr) (t : Nat) (h : t ≤ ws.length) : stL bl sz (ws ++ [x]) t = stL bl sz ws t := by
 show List.foldl _ _ _ = List.foldl _ _ _
 rw [List.take_append_of_le_length h]
theorem stL_snoc (bl sz : Int) (ws : List PWr) (x : PWr) : stL bl sz (ws ++ [x]) (ws.length + 1) = stW (stL bl sz ws ws.length) x := by
 show List.foldl _ _ _ = stW (List.foldl _ _ _) _
 rw [List.take_of_length_le (by simp), List.take_of_length_le (Nat.le_refl _), List.foldl_append]; rfl
theorem doR_put_yes {bl sz to ne fl at0 ix : Int} {hi : Bool} {pins : List Int} {ws : List PWr} {it : List PI} (h : hi = false) (hI : ItemsR bl sz it) : doR bl sz to ne fl hi pins ws 2 at0 ix it = (ne, hi, fl, ws ++ [((ws.length : Int) + 1, it)], 0) := by
 subst h; simp [doR, putR, wrR, hI]
theorem wrs_app {ws : List PWr} {s : Int} {it : List PI} (h : WrsOk ws) (h1 : it.length ≤ 8) (h2 : ItsOk it) : WrsOk (ws ++ [(s, it)]) := fun e he => by
 rcases List.mem_append.1 he with h3 | h3
 · exact h e h3
 · rw [List.mem_singleton.1 h3]; exact ⟨Nat.le_trans h1 (by decide), h2⟩

set_option maxRecDepth 100000
set_option maxHeartbeats 4000000
theorem state_q (vo bl sz pe to ne fl : Int) (hi : Bool) (pp pn pw : Option Addr) (np cp nn9 cn9 nn cw : Nat) (ws : List PWr) (tt : Int) (t : Nat) (S : List (List Int)) (w0 : World) (h2 : Rd (fun _ => True) w0 (.slice pw nn cw) (.l 2 (ws.map wrD))) (hl : ws.length ≤ 1000000) (hok : WrsOk ws) (htt : tt = t) (ht0 : fl ≤ tt) (ht1 : t ≤ ws.length) (hb : 0 ≤ bl ∧ bl ≤ 256) (hs : 0 ≤ sz ∧ sz ≤ 32) (hS : stL bl sz ws t = S) :
   Calls Try.prog 31 #[.agg #[.int .i64 vo, .int .i64 bl, .int .i64 sz, .int .i64 pe, .slice pp np cp, .int .i64 to, .int .i64 ne, .bool hi, .int .i64 fl, .slice pn nn9 cn9, .slice pw nn cw], .int .i64 tt] w0 fun e w' => ∃ p c, e = .returned (.tuple #[.slice p (S.map bD).length c, .int .i64 0]) ∧ Rd (New w0) w' (.slice p (S.map bD).length c) (.l 1 (S.map bD)) ∧ Below w0.heap.size w0 w' := by
 obtain rfl : nn = ws.length := by obtain ⟨pq, cq, hv, _⟩ := h2.l_shape; injection hv with _ e2 _; rw [List.length_map] at e2; exact e2
 subst hS
 exact state_any vo bl sz pe to ne fl hi pp pn pw np cp nn9 cn9 cw ws tt t bl.toNat sz.toNat w0 h2 hl hok ht0 (by omega) (by omega) (by omega) (by omega)
theorem sitem_q (bl sz : Int) (l : List Int) (pl : Option Addr) (cl : Nat) (w0 : World) (h0 : Rd (fun _ => True) w0 (.slice pl l.length cl) (.ns .u8 l)) (hl : l.length ≤ 1000000) (hlb : ∀ j, j < l.length → 0 ≤ l.getD j 0 ∧ l.getD j 0 ≤ 255) (hz : 0 ≤ sz ∧ sz ≤ 1000) (hb : 1 ≤ bl) (hne : l ≠ []) :
   Calls Try.prog 30 #[.int .i64 bl, .int .i64 sz, .slice pl l.length cl] w0 fun e w' => ∃ (it : List PI) (p : Option Addr) (c : Nat), e = .returned (.slice p it.length c) ∧ it.length ≤ 8 ∧ ItemsR bl sz it ∧ ItsB it ∧ Rd (New w0) w' (.slice p it.length c) (.l 2 (it.map itD)) ∧ Below w0.heap.size w0 w' := by
 obtain ⟨z, rfl⟩ : ∃ z : Nat, sz = (z : Int) := ⟨sz.toNat, by omega⟩
 refine (sitem_any bl z l pl cl w0 h0 hl hlb (by omega)).mono ?_
 rintro e w' ⟨it, p, c, rfl, h1, h2, h3, h4, h5, h6⟩
 rw [show max bl 1 = bl by omega] at h2
 exact ⟨it, p, c, rfl, h1, ⟨h4 hne, h1, h2⟩, h3, h5, h6⟩
end Go.Proofs.Ytocfbocdnklllaa.K
