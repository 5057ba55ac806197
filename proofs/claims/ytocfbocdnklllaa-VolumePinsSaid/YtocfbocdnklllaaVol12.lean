/- volume: what a call does. -/
import Derived.Test.YtocfbocdnklllaaVol11
namespace Go.Proofs.Ytocfbocdnklllaa.K
open Go.ChangeShapes Go.WideShapes Go.ChangeAt Go.RowKit
set_option linter.unusedVariables false
set_option linter.unusedSimpArgs false

open Classical in
noncomputable def wrR (bl sz : Int) (ws : List (Int × List (Int × List Int))) (it : List (Int × List Int)) : List (Int × List (Int × List Int)) × Int := if ItemsR bl sz it then (ws ++ [((ws.length : Int) + 1, it)], 0) else (ws, 23)
abbrev VolO := Int × Bool × Int × List (Int × List (Int × List Int)) × Int
noncomputable def putR (bl sz ne fl : Int) (hi : Bool) (ws : List (Int × List (Int × List Int))) (it : List (Int × List Int)) : VolO := if hi = true then (ne, hi, fl, ws, 28) else (ne, hi, fl, (wrR bl sz ws it).1, (wrR bl sz ws it).2)
def reachR (hi : Bool) (fl at0 nd : Int) : Int := if hi = true then 28 else if at0 < fl then 30 else if nd < at0 then 31 else 0
def pruneR (ne fl : Int) (hi : Bool) (pins : List Int) (ws : List (Int × List (Int × List Int))) (at0 : Int) : VolO := if reachR hi fl at0 (lowL ws.length pins) = 0 then (ne, hi, at0, ws, 0) else (ne, hi, fl, ws, reachR hi fl at0 (lowL ws.length pins))
noncomputable def takeR (bl sz to ne fl : Int) (hi : Bool) (ws : List (Int × List (Int × List Int))) (ix : Int) (it : List (Int × List Int)) : VolO :=
 if hi = false then (ne, hi, fl, ws, 33) else if 0 ≤ ix ∧ ix ≤ ne - 1 then (ne, hi, fl, ws, 0) else if ix ≠ ne ∨ ne = to then (ne, hi, fl, ws, 33)
 else if (wrR bl sz ws it).2 = 0 then (ne + 1, hi, fl, (wrR bl sz ws it).1, 0) else (ne, hi, fl, (wrR bl sz ws it).1, (wrR bl sz ws it).2)
def publishR (to ne fl : Int) (hi : Bool) (ws : List (Int × List (Int × List Int))) : VolO := if hi = false ∨ ne ≠ to then (ne, hi, fl, ws, 33) else (ne, false, (ws.length : Int), ws, 0)
noncomputable def doR (bl sz to ne fl : Int) (hi : Bool) (pins : List Int) (ws : List (Int × List (Int × List Int))) (kd at0 ix : Int) (it : List (Int × List Int)) : VolO :=
 if kd = 2 then putR bl sz ne fl hi ws it else if kd = 3 then pruneR ne fl hi pins ws at0 else if kd = 6 then takeR bl sz to ne fl hi ws ix it
 else if kd = 7 then publishR to ne fl hi ws else if kd = 8 then (ne, hi, fl, ws, 0) else (ne, hi, fl, ws, 23)
set_option maxRecDepth 100000
set_option maxHeartbeats 4000000
theorem low_nn (vo bl sz pe to ne fl : Int) (hi : Bool) (place pins : List Int) (ws : List (Int × List (Int × List Int))) (pp pn pw : Option Addr) (cp cn9 cw : Nat) (nn : Nat) (w0 : World) (h1 : Rd (fun _ => True) w0 (.slice pn pins.length cn9) (.ns .i64 pins)) (hp : pins.length ≤ 1000000) (hnn : nn = ws.length := by simp) :
   Calls Try.prog 22 #[.agg #[.int .i64 vo, .int .i64 bl, .int .i64 sz, .int .i64 pe, .slice pp place.length cp, .int .i64 to, .int .i64 ne, .bool hi, .int .i64 fl, .slice pn pins.length cn9, .slice pw nn cw]] w0 fun e w' => e = .returned (.int .i64 (lowL ws.length pins)) ∧ Below w0.heap.size w0 w' := by
 subst hnn; exact low_any vo bl sz pe to ne fl hi place pins ws pp pn pw cp cn9 cw w0 h1 hp
theorem xreach (X : Cx) (B : Nat) (vo bl sz pe to ne fl : Int) (hi : Bool) (place pins : List Int) (ws : List (Int × List (Int × List Int))) (pp pn pw : Option Addr) (cp cn9 cw : Nat) (at0 nd : Int) (w0 : World) (m0 : MemOk X w0 [(1, .box B 34 [.int .i64 vo, .int .i64 bl, .int .i64 sz, .int .i64 pe, .slice pp place.length cp, .int .i64 to, .int .i64 ne, .bool hi, .int .i64 fl, .slice pn pins.length cn9, .slice pw (ws.map wrD).length cw])] w0) :
   Calls Try.prog 77 #[.pointer (some ⟨B, 0, none⟩), .int .i64 at0, .int .i64 nd] w0 fun e w' => ∃ e9 : Int, e = .returned (.int .i64 e9) ∧ reachR hi fl at0 nd = e9 ∧ MemOk X w0 [(1, .box B 34 [.int .i64 vo, .int .i64 bl, .int .i64 sz, .int .i64 pe, .slice pp place.length cp, .int .i64 to, .int .i64 ne, .bool hi, .int .i64 fl, .slice pn pins.length cn9, .slice pw (ws.map wrD).length cw])] w' := by
 refine enter (fn := Try.f77) Try.func77 rfl Try.ntmps77 rfl (fun Az Hz => ?_)
 simp only [List.zipIdx_cons, List.zipIdx_nil, List.map_cons, List.map_nil, Nat.reduceAdd, Nat.zero_add] at Hz
 refine regS Hz (.assign rfl <| .nil) ?_
 clear Hz Az; intro Az Hz
 refine wp_seq_k (fun K0 hK0 => ?_)
 refine wp_block ?_
 refine regS Hz (.move rfl <| .nilCheck rfl <| .fieldAddr (off := 7) rfl Try.underlying34 rfl (s := 0) (by kernel_rfl) rfl <| .loadB1 m0 (i := 1) rfl rfl rfl Try.underlying4 rfl <| .assign rfl <| .nil) ?_
 clear Hz Az; intro Az Hz
 refine bool_cases Hz (t := 7) rfl ?_ ?_
 ·
  clear Hz; intro hb7 Hz
  try simp only [Q1x, Q2x, Q3x, Q4x, Q5x, Q6x, Q7x, Q8x, Q9x, Q0x, Qax, Qbx] at hb7
  refine wp_cond_true (Hz.ev (x := .tmp 7) rfl) ?_
  refine regS Hz (.assign rfl <| .nil) ?_
  clear Hz Az; intro Az Hz
  refine wp_ret ?_
  try dsimp only [Exit.then, Exit.inBlock]
  refine (ret1 (fn := Try.f77) Hz rfl rfl ?_)
  exact ⟨_, rfl, by rw [reachR, if_pos (by assumption)], m0.only [1]⟩
 ·
  clear Hz; intro hb7 Hz
  try simp only [Q1x, Q2x, Q3x, Q4x, Q5x, Q6x, Q7x, Q8x, Q9x, Q0x, Qax, Qbx] at hb7
  refine wp_cond_false (Hz.ev (x := .tmp 7) rfl) ?_
  refine regS Hz (.move rfl <| .move rfl <| .nilCheck rfl <| .fieldAddr (off := 8) rfl Try.underlying34 rfl (s := 0) (by kernel_rfl) rfl <| .loadB1 m0 (i := 1) rfl rfl rfl Try.underlying2 rfl <| .lss rfl rfl <| .assign rfl <| .nil) ?_
  clear Hz Az; intro Az Hz
  refine bool_cases Hz (t := 12) rfl ?_ ?_
  ·
   clear Hz; intro hb16 Hz
   try simp only [Q1x, Q2x, Q3x, Q4x, Q5x, Q6x, Q7x, Q8x, Q9x, Q0x, Qax, Qbx] at hb16
   refine wp_cond_true (Hz.ev (x := .tmp 12) rfl) ?_
   replace Hz : Has 23 [(1, _), (2, _), (6, _), (7, _), (12, _)] Az := Hz.only [1, 2, 6, 7, 12]
   refine regS Hz (.assign rfl <| .nil) ?_
   clear Hz Az; intro Az Hz
   refine wp_ret ?_
   try dsimp only [Exit.then, Exit.inBlock]
   refine (ret1 (fn := Try.f77) Hz rfl rfl ?_)
   exact ⟨_, rfl, by rw [reachR, if_neg (by simp_all), if_pos (by assumption)], m0.only [1]⟩
  ·
   clear Hz; intro hb16 Hz
   try simp only [Q1x, Q2x, Q3x, Q4x, Q5x, Q6x, Q7x, Q8x, Q9x, Q0x, Qax, Qbx] at hb16
   refine wp_cond_false (Hz.ev (x := .tmp 12) rfl) ?_
   replace Hz : Has 23 [(1, _), (2, _), (6, _), (7, _), (12, _)] Az := Hz.only [1, 2, 6, 7, 12]
   refine regS Hz (.move rfl <| .move rfl <| .gtr rfl rfl <| .assign rfl <| .nil) ?_
   clear Hz Az; intro Az Hz
   refine bool_cases Hz (t := 19) rfl ?_ ?_
   ·
    clear Hz; intro hb24 Hz
    try simp only [Q1x, Q2x, Q3x, Q4x, Q5x, Q6x, Q7x, Q8x, Q9x, Q0x, Qax, Qbx] at hb24
    refine wp_cond_true (Hz.ev (x := .tmp 19) rfl) ?_
    refine regS Hz (.assign rfl <| .nil) ?_
    clear Hz Az; intro Az Hz
    refine wp_ret ?_
    try dsimp only [Exit.then, Exit.inBlock]
    refine (ret1 (fn := Try.f77) Hz rfl rfl ?_)
    exact ⟨_, rfl, by rw [reachR, if_neg (by simp_all), if_neg (by omega), if_pos (by assumption)], m0.only [1]⟩
   ·
    clear Hz; intro hb24 Hz
    try simp only [Q1x, Q2x, Q3x, Q4x, Q5x, Q6x, Q7x, Q8x, Q9x, Q0x, Qax, Qbx] at hb24
    refine wp_cond_false (Hz.ev (x := .tmp 19) rfl) ?_
    refine wp_skip ?_
    refine hK0 _ _ ?_; clear hK0; try clear K0
    refine regS Hz (.assign rfl <| .nil) ?_
    clear Hz Az; intro Az Hz
    refine wp_ret ?_
    try dsimp only [Exit.then, Exit.inBlock]
    refine (ret1 (fn := Try.f77) Hz rfl rfl ?_)
    exact ⟨_, rfl, by rw [reachR, if_neg (by simp_all), if_neg (by omega), if_neg (by omega)], m0.only [1]⟩
end Go.Proofs.Ytocfbocdnklllaa.K
