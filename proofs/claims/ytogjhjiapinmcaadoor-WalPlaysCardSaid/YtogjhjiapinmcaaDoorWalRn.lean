/- The reference's Scan from a sector below 0. -/
import Derived.Test.YtogjhjiapinmcaaDoorWalRs
namespace Go.Proofs.YtogjhjiapinmcaaDoor.K
open Go.ChangeShapes Go.WideShapes Go.ChangeAt Go.RowKit
set_option linter.unusedVariables false
set_option linter.unusedSimpArgs false



set_option maxRecDepth 100000
set_option maxHeartbeats 4000000
theorem rscan_neg (X : Cx) (B : Nat) (secs : List (List Int)) (wl : List (Int × List Int)) (f to gn : Int) (pS pl : Option Addr) (cS cl : Nat) (w0 : World) (hf : f < 0) (m0 : MemOk X w0 [(1, .box B 60 [.slice pS secs.length cS, .slice pl wl.length cl, .int .i64 (-1)]), (2, .dat (.slice pS secs.length cS) (.l 1 (secs.map bD))), (3, .dat (.slice pl wl.length cl) (.l 2 (wl.map wD)))] w0) :
   Calls Tryd.prog 16 #[.pointer (some ⟨B, 0, none⟩), .int .i64 f, .int .i64 to, .int .u64 gn] w0 fun e w' => e = .returned (.tuple #[.slice none 0 0, .int .i64 f]) ∧ MemOk X w0 [(1, .box B 60 [.slice pS secs.length cS, .slice pl wl.length cl, .int .i64 (-1)]), (2, .dat (.slice pS secs.length cS) (.l 1 (secs.map bD))), (3, .dat (.slice pl wl.length cl) (.l 2 (wl.map wD)))] w' := by
 refine enter (fn := Tryd.f16) Tryd.func16 rfl Tryd.ntmps16 rfl (fun Az Hz => ?_)
 simp only [List.zipIdx_cons, List.zipIdx_nil, List.map_cons, List.map_nil, Nat.reduceAdd, Nat.zero_add] at Hz
 refine regS Hz (.assign rfl <| .assign rfl <| .nil) ?_
 clear Hz Az; intro Az Hz
 refine regS Hz (.assign rfl <| .nil) ?_
 clear Hz Az; intro Az Hz
 refine wp_seq_k (fun K0 hK0 => ?_)
 refine regS Hz (.move rfl <| .lss rfl rfl <| .nil) ?_
 clear Hz Az; intro Az Hz
 refine bool_cases Hz (t := 14) rfl ?_ ?_
 rotate_left
 · intro hb _; exact absurd hb (by rw [decide_eq_false_iff_not, Decidable.not_not]; omega)
 clear Hz; intro _ Hz
 refine wp_cond_true (Hz.ev (x := .tmp 14) rfl) ?_
 refine regS Hz (.move rfl <| .assign rfl <| .assign rfl <| .nil) ?_
 clear Hz Az; intro Az Hz
 refine wp_ret ?_
 try dsimp only [Exit.then, Exit.inBlock]
 refine (ret2 (fn := Tryd.f16) Hz rfl rfl rfl ?_)
 exact ⟨rfl, m0.only [1, 2, 3]⟩
theorem scanF_neg {V : List (List Int)} {to gn f : Int} {m : Nat} (hf : f < 0) : scanF V to gn m f = ([], f) := by
 refine scanF_stop (readV_pnone ?_)
 cases hP : partV V f gn with
 | none => rfl
 | some b => have := partV_at hP; omega
theorem place_neg {a : Int} {b : Nat} (hb : 0 < b) (h : a.tmod (b : Int) < 0) : a.tmod (b : Int) + b = a % (b : Int) := by
 have h1 := Int.emod_nonneg a (show (b : Int) ≠ 0 by omega)
 rw [Int.tmod_eq_emod] at h ⊢
 split at h
 · omega
 · rename_i hc
   rw [if_neg hc]
   omega
theorem place_pos {a : Int} {b : Nat} (hb : 0 < b) (h : ¬ a.tmod (b : Int) < 0) : a.tmod (b : Int) = a % (b : Int) := by
 have h2 := Int.emod_lt_of_pos a (show (0 : Int) < b by omega)
 rw [Int.tmod_eq_emod] at h ⊢
 split at h
 · rename_i hc
   rw [if_pos hc]; omega
 · omega

theorem place_x (a : Int) (b : Nat) (w0 : World) (hb : 0 < b) (hb2 : b ≤ 1000) (a0 : -9223372036854775808 ≤ a) (a1 : a ≤ 9223372036854775807) :
   Calls Tryd.prog 10 #[.int .i64 a, .int .i64 b] w0 fun e w' => e = .returned (.int .i64 (a % (b : Int))) ∧ Below w0.heap.size w0 w' := by
 refine enter (fn := Tryd.f10) Tryd.func10 rfl Tryd.ntmps10 rfl (fun Az Hz => ?_)
 simp only [List.zipIdx_cons, List.zipIdx_nil, List.map_cons, List.map_nil, Nat.reduceAdd, Nat.zero_add] at Hz
 have m0 := MemOk.start (fun _ => False) w0
 refine regS Hz (.assign rfl <| .nil) ?_
 clear Hz Az; intro Az Hz
 refine regS Hz (.move rfl <| .move rfl <| .rem rfl rfl (by omega) rfl <| .assign rfl <| .nil) ?_
 clear Hz Az; intro Az Hz
 refine wp_seq_k (fun K0 hK0 => ?_)
 refine regS Hz (.move rfl <| .lss rfl rfl <| .nil) ?_
 clear Hz Az; intro Az Hz
 refine bool_cases Hz (t := 9) rfl ?_ ?_
 ·
  clear Hz; intro hb8 Hz
  try simp only [Q1x, Q2x, Q3x, Q4x, Q5x, Q6x, Q7x, Q8x, Q9x, Q0x, Qax, Qbx] at hb8
  have hlt9 : a.tmod (b : Int) < 0 := by have := hb8; simpa using this
  refine wp_cond_true (Hz.ev (x := .tmp 9) rfl) ?_
  refine wp_region_lit ?_
  refine goCh Hz (.move rfl <| .move rfl <| .add rfl rfl (r := a % (b : Int)) (by rw [place_neg hb (by have := hlt9; omega), IntWalk.i64_in _ (by have h1 := Int.emod_nonneg a (show (b : Int) ≠ 0 by omega); have h2 := Int.emod_lt_of_pos a (show (0 : Int) < b by omega); omega)]) <| .assign rfl <| .nil) ?_
  clear Hz Az; intro Az Hz
  refine wpList_nil ?_
  refine hK0 _ _ ?_; clear hK0; try clear K0
  replace Hz : Has 14 [(0, _), (4, _)] Az := Hz.only [0, 4]
  refine regS Hz (.move rfl <| .assign rfl <| .nil) ?_
  clear Hz Az; intro Az Hz
  refine wp_ret ?_
  try dsimp only [Exit.then, Exit.inBlock]
  refine (ret1 (fn := Tryd.f10) Hz rfl rfl ?_)
  first | exact ⟨rfl, m0.below⟩ | (rw [e9]; exact ⟨rfl, m0.below⟩)
 ·
  clear Hz; intro hb8 Hz
  try simp only [Q1x, Q2x, Q3x, Q4x, Q5x, Q6x, Q7x, Q8x, Q9x, Q0x, Qax, Qbx] at hb8
  have hlt9 : ¬ a.tmod (b : Int) < 0 := by have := hb8; simpa using this
  have e9 := place_pos hb hlt9
  refine wp_cond_false (Hz.ev (x := .tmp 9) rfl) ?_
  refine wp_skip ?_
  refine hK0 _ _ ?_; clear hK0; try clear K0
  replace Hz : Has 14 [(0, _), (4, _)] Az := Hz.only [0, 4]
  refine regS Hz (.move rfl <| .assign rfl <| .nil) ?_
  clear Hz Az; intro Az Hz
  refine wp_ret ?_
  try dsimp only [Exit.then, Exit.inBlock]
  refine (ret1 (fn := Tryd.f10) Hz rfl rfl ?_)
  first | exact ⟨rfl, m0.below⟩ | (rw [e9]; exact ⟨rfl, m0.below⟩)
end Go.Proofs.YtogjhjiapinmcaaDoor.K
