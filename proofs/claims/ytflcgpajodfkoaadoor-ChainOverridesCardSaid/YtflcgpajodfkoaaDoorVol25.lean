/- The reference's CmdRight. -/
import Derived.Test.YtflcgpajodfkoaaDoorVol24
namespace Go.Proofs.YtflcgpajodfkoaaDoor.K
open Go.ChangeShapes Go.WideShapes Go.ChangeAt Go.RowKit
set_option linter.unusedVariables false
set_option linter.unusedSimpArgs false
theorem snoc32 {l : List (Int × List Int)} {k : Nat} {xb : Int} {xd : List Int} (h : ∀ j, j < k → (l.getD j i0).2.length ≤ 32) (hes : l[k]? = some (xb, xd)) (hk : xd.length ≤ 32) : ∀ j, j < k + 1 → (l.getD j i0).2.length ≤ 32 := fun j hj => by
 rcases Nat.lt_or_ge j k with h1 | h1
 · exact h j h1
 obtain rfl : j = k := by omega
 rw [getI hes]; exact hk
theorem all32 {l : List (Int × List Int)} (h : ∀ j, j < l.length → (l.getD j i0).2.length ≤ 32) : ∀ e ∈ l, e.2.length ≤ 32 := fun e he => by
 obtain ⟨j, hj, rfl⟩ := List.getElem_of_mem he
 have := h j hj
 rwa [List.getD, List.getElem?_eq_getElem hj] at this
set_option maxRecDepth 100000
set_option maxHeartbeats 4000000
theorem within16 (n : Int) (w0 : World) : Calls Tryd.prog 80 #[.int .i64 n] w0 fun e w' => ∃ b : Bool, e = .returned (.bool b) ∧ Below w0.heap.size w0 w' := by
 refine ent1 Tryd.func80 rfl Tryd.ntmps80 fun Az Hz => ?_
 have m0 := MemOk.start (fun _ => False) w0
 refine regS Hz (.assign rfl <| .nil) ?_
 clear Hz Az; intro Az Hz
 refine zsr fun K0 hK0 => ?_
 refine goCh Hz (.move rfl <| .geq rfl rfl <| .move rfl <| .nil) ?_
 clear Hz Az; intro Az Hz
 refine bool_cases Hz (t := 5) rfl ?_ ?_
 ·
  clear Hz; intro hb8 Hz; try simp only [QQ, Qax] at hb8
  refine goCh Hz (.moveZ rfl <| .leqZ rfl rfl <| .pickT rfl rfl <| .assign rfl <| .nil) ?_
  clear Hz Az; intro Az Hz
  refine znl (hK0 _ _ ?_); clear hK0
  refine wp_ret ?_
  try dsimp only [Exit.then, Exit.inBlock]
  refine (ret1 (fn := Tryd.f80) Hz rfl rfl ?_)
  exact ⟨_, rfl, m0.below⟩
 clear Hz; intro hb8 Hz; try simp only [QQ, Qax] at hb8
 refine goCh Hz (.sk <| .sk <| .pickF rfl rfl <| .assign rfl <| .nil) ?_
 clear Hz Az; intro Az Hz
 refine znl (hK0 _ _ ?_); clear hK0
 refine wp_ret ?_
 try dsimp only [Exit.then, Exit.inBlock]
 refine (ret1 (fn := Tryd.f80) Hz rfl rfl ?_)
 exact ⟨_, rfl, m0.below⟩
theorem rcmdRight (kd vo bl sz pe to at0 ix : Int) (place : List Int) (items : List (Int × List Int)) (pp pi : Option Addr) (cp ni ci : Nat) (w0 : World) (h0 : Rd (fun _ => True) w0 (.slice pp place.length cp) (.ns .i64 place)) (h1 : Rd (fun _ => True) w0 (.slice pi ni ci) (.l 2 (items.map itD))) (hp : place.length ≤ 1000000) (hl : items.length ≤ 1000000) :
   Calls Tryd.prog 58 #[.agg #[.int .i64 kd, .int .i64 vo, .int .i64 bl, .int .i64 sz, .int .i64 pe, .slice pp place.length cp, .int .i64 to, .int .i64 at0, .int .i64 ix, .slice pi ni ci]] w0 fun e w' => ∃ b : Bool, e = .returned (.bool b) ∧ (b = true → place.length ≤ 256 ∧ items.length ≤ 8 ∧ ∀ e ∈ items, e.2.length ≤ 32) ∧ Below w0.heap.size w0 w' := by
 obtain rfl : ni = items.length := by obtain ⟨pq, c9, hv, _⟩ := h1.l_shape; injection hv with _ e2 _; rw [List.length_map] at e2; exact e2
 refine ent1 Tryd.func58 rfl Tryd.ntmps58 fun Az Hz => ?_
 have m0 := MemOk.start (fun _ => False) w0
 refine zsr fun K0 hK0 => ?_
 refine wpList_plain rfl (fun K hK => ?_)
 refine e_box Hz m0 20 (cs := [_, _, _, _, _, _, _, _, _, _]) rfl rfl rfl ?_
 clear Hz Az m0; intro g1 Az w2 Hz m2 hB2 hg2
 clear hB2 hg2
 refine hK _ _ ?_; clear hK
 refine goCh Hz (.assign rfl .nil) ?_
 clear Hz Az; intro Az Hz
 refine znl (hK0 _ _ ?_); clear hK0
 refine wp_seq_k (fun K1 hK1 => ?_)
 refine zsr fun K2 hK2 => ?_
 refine goCh Hz (.fa 0 rfl U87 <| .lb m2 20 U3 rfl rfl rfl <| .lss rfl rfl <| .move rfl <| .nil) ?_
 clear Hz Az; intro Az Hz
 refine bool_cases Hz (t := 8) rfl ?_ ?_
 ·
  clear Hz; intro hb12 Hz; try simp only [QQ, Qax] at hb12
  refine goCh Hz (.sk <| .sk <| .sk <| .pickT rfl rfl <| .move rfl <| .sk <| .sk <| .sk <| .pickT rfl rfl <| .move rfl <| .sk <| .sk <| .sk <| .pickT rfl rfl <| .move rfl <| .sk <| .sk <| .sk <| .sk <| .pickT rfl rfl <| .move rfl <| .sk <| .sk <| .sk <| .sk <| .pickT rfl rfl <| .move rfl <| .sk <| .sk <| .sk <| .sk <| .pickT rfl rfl <| .move rfl <| .sk <| .sk <| .sk <| .sk <| .pickT rfl rfl <| .move rfl <| .sk <| .sk <| .sk <| .sk <| .pickT rfl rfl <| .move rfl <| .sk <| .sk <| .sk <| .sk <| .pickT rfl rfl <| .move rfl <| .sk <| .sk <| .sk <| .sk <| .pickT rfl rfl <| .move rfl <| .sk <| .sk <| .sk <| .sk <| .pickT rfl rfl <| .nil) ?_
  clear Hz Az; intro Az Hz
  refine znl (hK2 _ _ ?_); clear hK2
  refine wp_cond_true (Hz.ev (x := .tmp 70) rfl) ?_
  replace Hz : Has 125 [(1, _), (2, _)] Az := Hz.only [1, 2]
  refine regS Hz (.assign rfl <| .nil) ?_
  clear Hz Az; intro Az Hz
  refine wp_ret ?_
  try dsimp only [Exit.then, Exit.inBlock]
  refine (ret1 (fn := Tryd.f58) Hz rfl rfl ?_)
  exact ⟨false, rfl, (fun h => by cases h), m2.below⟩
 clear Hz; intro hb12 Hz; try simp only [QQ, Qax] at hb12
 refine goCh Hz (.faZ 0 rfl U87 <| .loadB1Z m2 (i := 20) rfl rfl rfl U3 rfl <| .gtrZ rfl rfl <| .pickF rfl rfl <| .move rfl <| .nil) ?_
 clear Hz Az; intro Az Hz
 refine bool_cases Hz (t := 13) rfl ?_ ?_
 ·
  clear Hz; intro hb82 Hz; try simp only [QQ, Qax] at hb82
  refine goCh Hz (.sk <| .sk <| .sk <| .pickT rfl rfl <| .move rfl <| .sk <| .sk <| .sk <| .pickT rfl rfl <| .move rfl <| .sk <| .sk <| .sk <| .sk <| .pickT rfl rfl <| .move rfl <| .sk <| .sk <| .sk <| .sk <| .pickT rfl rfl <| .move rfl <| .sk <| .sk <| .sk <| .sk <| .pickT rfl rfl <| .move rfl <| .sk <| .sk <| .sk <| .sk <| .pickT rfl rfl <| .move rfl <| .sk <| .sk <| .sk <| .sk <| .pickT rfl rfl <| .move rfl <| .sk <| .sk <| .sk <| .sk <| .pickT rfl rfl <| .move rfl <| .sk <| .sk <| .sk <| .sk <| .pickT rfl rfl <| .move rfl <| .sk <| .sk <| .sk <| .sk <| .pickT rfl rfl <| .nil) ?_
  clear Hz Az; intro Az Hz
  refine znl (hK2 _ _ ?_); clear hK2
  refine wp_cond_true (Hz.ev (x := .tmp 70) rfl) ?_
  replace Hz : Has 125 [(1, _), (2, _)] Az := Hz.only [1, 2]
  refine regS Hz (.assign rfl <| .nil) ?_
  clear Hz Az; intro Az Hz
  refine wp_ret ?_
  try dsimp only [Exit.then, Exit.inBlock]
  refine (ret1 (fn := Tryd.f58) Hz rfl rfl ?_)
  exact ⟨false, rfl, (fun h => by cases h), m2.below⟩
 clear Hz; intro hb82 Hz; try simp only [QQ, Qax] at hb82
 refine goCh Hz (.faZ 1 rfl U87 <| .loadB1Z m2 (i := 20) rfl rfl rfl U3 rfl <| .lssZ rfl rfl <| .pickF rfl rfl <| .move rfl <| .nil) ?_
 clear Hz Az; intro Az Hz
 refine bool_cases Hz (t := 18) rfl ?_ ?_
 ·
  clear Hz; intro hb147 Hz; try simp only [QQ, Qax] at hb147
  refine goCh Hz (.sk <| .sk <| .sk <| .pickT rfl rfl <| .move rfl <| .sk <| .sk <| .sk <| .sk <| .pickT rfl rfl <| .move rfl <| .sk <| .sk <| .sk <| .sk <| .pickT rfl rfl <| .move rfl <| .sk <| .sk <| .sk <| .sk <| .pickT rfl rfl <| .move rfl <| .sk <| .sk <| .sk <| .sk <| .pickT rfl rfl <| .move rfl <| .sk <| .sk <| .sk <| .sk <| .pickT rfl rfl <| .move rfl <| .sk <| .sk <| .sk <| .sk <| .pickT rfl rfl <| .move rfl <| .sk <| .sk <| .sk <| .sk <| .pickT rfl rfl <| .move rfl <| .sk <| .sk <| .sk <| .sk <| .pickT rfl rfl <| .nil) ?_
  clear Hz Az; intro Az Hz
  refine znl (hK2 _ _ ?_); clear hK2
  refine wp_cond_true (Hz.ev (x := .tmp 70) rfl) ?_
  replace Hz : Has 125 [(1, _), (2, _)] Az := Hz.only [1, 2]
  refine regS Hz (.assign rfl <| .nil) ?_
  clear Hz Az; intro Az Hz
  refine wp_ret ?_
  try dsimp only [Exit.then, Exit.inBlock]
  refine (ret1 (fn := Tryd.f58) Hz rfl rfl ?_)
  exact ⟨false, rfl, (fun h => by cases h), m2.below⟩
 clear Hz; intro hb147 Hz; try simp only [QQ, Qax] at hb147
 refine goCh Hz (.faZ 1 rfl U87 <| .loadB1Z m2 (i := 20) rfl rfl rfl U3 rfl <| .geqZ rfl rfl <| .pickF rfl rfl <| .move rfl <| .nil) ?_
 clear Hz Az; intro Az Hz
 refine bool_cases Hz (t := 23) rfl ?_ ?_
 ·
  clear Hz; intro hb207 Hz; try simp only [QQ, Qax] at hb207
  refine goCh Hz (.sk <| .sk <| .sk <| .sk <| .pickT rfl rfl <| .move rfl <| .sk <| .sk <| .sk <| .sk <| .pickT rfl rfl <| .move rfl <| .sk <| .sk <| .sk <| .sk <| .pickT rfl rfl <| .move rfl <| .sk <| .sk <| .sk <| .sk <| .pickT rfl rfl <| .move rfl <| .sk <| .sk <| .sk <| .sk <| .pickT rfl rfl <| .move rfl <| .sk <| .sk <| .sk <| .sk <| .pickT rfl rfl <| .move rfl <| .sk <| .sk <| .sk <| .sk <| .pickT rfl rfl <| .move rfl <| .sk <| .sk <| .sk <| .sk <| .pickT rfl rfl <| .nil) ?_
  clear Hz Az; intro Az Hz
  refine znl (hK2 _ _ ?_); clear hK2
  refine wp_cond_true (Hz.ev (x := .tmp 70) rfl) ?_
  replace Hz : Has 125 [(1, _), (2, _)] Az := Hz.only [1, 2]
  refine regS Hz (.assign rfl <| .nil) ?_
  clear Hz Az; intro Az Hz
  refine wp_ret ?_
  try dsimp only [Exit.then, Exit.inBlock]
  refine (ret1 (fn := Tryd.f58) Hz rfl rfl ?_)
  exact ⟨false, rfl, (fun h => by cases h), m2.below⟩
 clear Hz; intro hb207 Hz; try simp only [QQ, Qax] at hb207
 refine goCh Hz (.faZ 2 rfl U87 <| .loadB1Z m2 (i := 20) rfl rfl rfl U3 rfl <| .nil) ?_
 clear Hz Az; intro Az Hz
 refine st_ge Hz rfl rfl rfl rfl (fun K hK => ?_)
 refine e_call Hz Tryd.func80 rfl rfl rfl rfl (within16 _ _) ?_
 rintro e w259 ⟨wb259, rfl, hb259⟩
 have m260 := m2.later hb259
 clear m2
 clear hb259
 refine ⟨_, rfl, ?_⟩; clear Hz Az; intro Az Hz
 refine hK _ _ ?_; clear hK
 refine goCh Hz (.notZ rfl <| .pickF rfl rfl <| .move rfl <| .nil) ?_
 clear Hz Az; intro Az Hz
 refine bool_cases Hz (t := 29) rfl ?_ ?_
 ·
  clear Hz; intro hb265 Hz; try simp only [QQ, Qax] at hb265
  refine goCh Hz (.sk <| .sk <| .sk <| .sk <| .pickT rfl rfl <| .move rfl <| .sk <| .sk <| .sk <| .sk <| .pickT rfl rfl <| .move rfl <| .sk <| .sk <| .sk <| .sk <| .pickT rfl rfl <| .move rfl <| .sk <| .sk <| .sk <| .sk <| .pickT rfl rfl <| .move rfl <| .sk <| .sk <| .sk <| .sk <| .pickT rfl rfl <| .move rfl <| .sk <| .sk <| .sk <| .sk <| .pickT rfl rfl <| .move rfl <| .sk <| .sk <| .sk <| .sk <| .pickT rfl rfl <| .nil) ?_
  clear Hz Az; intro Az Hz
  refine znl (hK2 _ _ ?_); clear hK2
  refine wp_cond_true (Hz.ev (x := .tmp 70) rfl) ?_
  replace Hz : Has 125 [(1, _), (2, _)] Az := Hz.only [1, 2]
  refine regS Hz (.assign rfl <| .nil) ?_
  clear Hz Az; intro Az Hz
  refine wp_ret ?_
  try dsimp only [Exit.then, Exit.inBlock]
  refine (ret1 (fn := Tryd.f58) Hz rfl rfl ?_)
  exact ⟨false, rfl, (fun h => by cases h), m260.below⟩
 clear Hz; intro hb265 Hz; try simp only [QQ, Qax] at hb265
 refine goCh Hz (.faZ 3 rfl U87 <| .loadB1Z m260 (i := 20) rfl rfl rfl U3 rfl <| .nil) ?_
 clear Hz Az; intro Az Hz
 refine st_ge Hz rfl rfl rfl rfl (fun K hK => ?_)
 refine e_call Hz Tryd.func80 rfl rfl rfl rfl (within16 _ _) ?_
 rintro e w311 ⟨wb311, rfl, hb311⟩
 have m312 := m260.later hb311
 clear m260
 clear hb311
 refine ⟨_, rfl, ?_⟩; clear Hz Az; intro Az Hz
 refine hK _ _ ?_; clear hK
 refine goCh Hz (.notZ rfl <| .pickF rfl rfl <| .move rfl <| .nil) ?_
 clear Hz Az; intro Az Hz
 refine bool_cases Hz (t := 35) rfl ?_ ?_
 ·
  clear Hz; intro hb317 Hz; try simp only [QQ, Qax] at hb317
  refine goCh Hz (.sk <| .sk <| .sk <| .sk <| .pickT rfl rfl <| .move rfl <| .sk <| .sk <| .sk <| .sk <| .pickT rfl rfl <| .move rfl <| .sk <| .sk <| .sk <| .sk <| .pickT rfl rfl <| .move rfl <| .sk <| .sk <| .sk <| .sk <| .pickT rfl rfl <| .move rfl <| .sk <| .sk <| .sk <| .sk <| .pickT rfl rfl <| .move rfl <| .sk <| .sk <| .sk <| .sk <| .pickT rfl rfl <| .nil) ?_
  clear Hz Az; intro Az Hz
  refine znl (hK2 _ _ ?_); clear hK2
  refine wp_cond_true (Hz.ev (x := .tmp 70) rfl) ?_
  replace Hz : Has 125 [(1, _), (2, _)] Az := Hz.only [1, 2]
  refine regS Hz (.assign rfl <| .nil) ?_
  clear Hz Az; intro Az Hz
  refine wp_ret ?_
  try dsimp only [Exit.then, Exit.inBlock]
  refine (ret1 (fn := Tryd.f58) Hz rfl rfl ?_)
  exact ⟨false, rfl, (fun h => by cases h), m312.below⟩
 clear Hz; intro hb317 Hz; try simp only [QQ, Qax] at hb317
 refine goCh Hz (.faZ 4 rfl U87 <| .loadB1Z m312 (i := 20) rfl rfl rfl U3 rfl <| .nil) ?_
 clear Hz Az; intro Az Hz
 refine st_ge Hz rfl rfl rfl rfl (fun K hK => ?_)
 refine e_call Hz Tryd.func80 rfl rfl rfl rfl (within16 _ _) ?_
 rintro e w357 ⟨wb357, rfl, hb357⟩
 have m358 := m312.later hb357
 clear m312
 clear hb357
 refine ⟨_, rfl, ?_⟩; clear Hz Az; intro Az Hz
 refine hK _ _ ?_; clear hK
 refine goCh Hz (.notZ rfl <| .pickF rfl rfl <| .move rfl <| .nil) ?_
 clear Hz Az; intro Az Hz
 refine bool_cases Hz (t := 41) rfl ?_ ?_
 ·
  clear Hz; intro hb363 Hz; try simp only [QQ, Qax] at hb363
  refine goCh Hz (.sk <| .sk <| .sk <| .sk <| .pickT rfl rfl <| .move rfl <| .sk <| .sk <| .sk <| .sk <| .pickT rfl rfl <| .move rfl <| .sk <| .sk <| .sk <| .sk <| .pickT rfl rfl <| .move rfl <| .sk <| .sk <| .sk <| .sk <| .pickT rfl rfl <| .move rfl <| .sk <| .sk <| .sk <| .sk <| .pickT rfl rfl <| .nil) ?_
  clear Hz Az; intro Az Hz
  refine znl (hK2 _ _ ?_); clear hK2
  refine wp_cond_true (Hz.ev (x := .tmp 70) rfl) ?_
  replace Hz : Has 125 [(1, _), (2, _)] Az := Hz.only [1, 2]
  refine regS Hz (.assign rfl <| .nil) ?_
  clear Hz Az; intro Az Hz
  refine wp_ret ?_
  try dsimp only [Exit.then, Exit.inBlock]
  refine (ret1 (fn := Tryd.f58) Hz rfl rfl ?_)
  exact ⟨false, rfl, (fun h => by cases h), m358.below⟩
 clear Hz; intro hb363 Hz; try simp only [QQ, Qax] at hb363
 refine goCh Hz (.faZ 6 rfl U87 <| .loadB1Z m358 (i := 20) rfl rfl rfl U3 rfl <| .nil) ?_
 clear Hz Az; intro Az Hz
 refine st_ge Hz rfl rfl rfl rfl (fun K hK => ?_)
 refine e_call Hz Tryd.func80 rfl rfl rfl rfl (within16 _ _) ?_
 rintro e w397 ⟨wb397, rfl, hb397⟩
 have m398 := m358.later hb397
 clear m358
 clear hb397
 refine ⟨_, rfl, ?_⟩; clear Hz Az; intro Az Hz
 refine hK _ _ ?_; clear hK
 refine goCh Hz (.notZ rfl <| .pickF rfl rfl <| .move rfl <| .nil) ?_
 clear Hz Az; intro Az Hz
 refine bool_cases Hz (t := 47) rfl ?_ ?_
 ·
  clear Hz; intro hb403 Hz; try simp only [QQ, Qax] at hb403
  refine goCh Hz (.sk <| .sk <| .sk <| .sk <| .pickT rfl rfl <| .move rfl <| .sk <| .sk <| .sk <| .sk <| .pickT rfl rfl <| .move rfl <| .sk <| .sk <| .sk <| .sk <| .pickT rfl rfl <| .move rfl <| .sk <| .sk <| .sk <| .sk <| .pickT rfl rfl <| .nil) ?_
  clear Hz Az; intro Az Hz
  refine znl (hK2 _ _ ?_); clear hK2
  refine wp_cond_true (Hz.ev (x := .tmp 70) rfl) ?_
  replace Hz : Has 125 [(1, _), (2, _)] Az := Hz.only [1, 2]
  refine regS Hz (.assign rfl <| .nil) ?_
  clear Hz Az; intro Az Hz
  refine wp_ret ?_
  try dsimp only [Exit.then, Exit.inBlock]
  refine (ret1 (fn := Tryd.f58) Hz rfl rfl ?_)
  exact ⟨false, rfl, (fun h => by cases h), m398.below⟩
 clear Hz; intro hb403 Hz; try simp only [QQ, Qax] at hb403
 refine goCh Hz (.faZ 8 rfl U87 <| .loadB1Z m398 (i := 20) rfl rfl rfl U3 rfl <| .nil) ?_
 clear Hz Az; intro Az Hz
 refine st_ge Hz rfl rfl rfl rfl (fun K hK => ?_)
 refine e_call Hz Tryd.func80 rfl rfl rfl rfl (within16 _ _) ?_
 rintro e w431 ⟨wb431, rfl, hb431⟩
 have m432 := m398.later hb431
 clear m398
 clear hb431
 refine ⟨_, rfl, ?_⟩; clear Hz Az; intro Az Hz
 refine hK _ _ ?_; clear hK
 refine goCh Hz (.notZ rfl <| .pickF rfl rfl <| .move rfl <| .nil) ?_
 clear Hz Az; intro Az Hz
 refine bool_cases Hz (t := 53) rfl ?_ ?_
 ·
  clear Hz; intro hb437 Hz; try simp only [QQ, Qax] at hb437
  refine goCh Hz (.sk <| .sk <| .sk <| .sk <| .pickT rfl rfl <| .move rfl <| .sk <| .sk <| .sk <| .sk <| .pickT rfl rfl <| .move rfl <| .sk <| .sk <| .sk <| .sk <| .pickT rfl rfl <| .nil) ?_
  clear Hz Az; intro Az Hz
  refine znl (hK2 _ _ ?_); clear hK2
  refine wp_cond_true (Hz.ev (x := .tmp 70) rfl) ?_
  replace Hz : Has 125 [(1, _), (2, _)] Az := Hz.only [1, 2]
  refine regS Hz (.assign rfl <| .nil) ?_
  clear Hz Az; intro Az Hz
  refine wp_ret ?_
  try dsimp only [Exit.then, Exit.inBlock]
  refine (ret1 (fn := Tryd.f58) Hz rfl rfl ?_)
  exact ⟨false, rfl, (fun h => by cases h), m432.below⟩
 clear Hz; intro hb437 Hz; try simp only [QQ, Qax] at hb437
 refine goCh Hz (.faZ 7 rfl U87 <| .loadB1Z m432 (i := 20) rfl rfl rfl U2 rfl <| .nil) ?_
 clear Hz Az; intro Az Hz
 refine st_ge Hz rfl rfl rfl rfl (fun K hK => ?_)
 refine e_call Hz Tryd.func80 rfl rfl rfl rfl (within16 _ _) ?_
 rintro e w459 ⟨wb459, rfl, hb459⟩
 have m460 := m432.later hb459
 clear m432
 clear hb459
 refine ⟨_, rfl, ?_⟩; clear Hz Az; intro Az Hz
 refine hK _ _ ?_; clear hK
 refine goCh Hz (.notZ rfl <| .pickF rfl rfl <| .move rfl <| .nil) ?_
 clear Hz Az; intro Az Hz
 refine bool_cases Hz (t := 59) rfl ?_ ?_
 ·
  clear Hz; intro hb465 Hz; try simp only [QQ, Qax] at hb465
  refine goCh Hz (.sk <| .sk <| .sk <| .sk <| .pickT rfl rfl <| .move rfl <| .sk <| .sk <| .sk <| .sk <| .pickT rfl rfl <| .nil) ?_
  clear Hz Az; intro Az Hz
  refine znl (hK2 _ _ ?_); clear hK2
  refine wp_cond_true (Hz.ev (x := .tmp 70) rfl) ?_
  replace Hz : Has 125 [(1, _), (2, _)] Az := Hz.only [1, 2]
  refine regS Hz (.assign rfl <| .nil) ?_
  clear Hz Az; intro Az Hz
  refine wp_ret ?_
  try dsimp only [Exit.then, Exit.inBlock]
  refine (ret1 (fn := Tryd.f58) Hz rfl rfl ?_)
  exact ⟨false, rfl, (fun h => by cases h), m460.below⟩
 clear Hz; intro hb465 Hz; try simp only [QQ, Qax] at hb465
 refine goCh Hz (.faZ 5 rfl U87 <| .loadB1Z m460 (i := 20) rfl rfl rfl U26 rfl <| .lenZ rfl U26 <| .gtrZ rfl rfl <| .pickF rfl rfl <| .move rfl <| .nil) ?_
 clear Hz Az; intro Az Hz
 refine bool_cases Hz (t := 65) rfl ?_ ?_
 ·
  clear Hz; intro hb485 Hz; try simp only [QQ, Qax] at hb485
  refine goCh Hz (.sk <| .sk <| .sk <| .sk <| .pickT rfl rfl <| .nil) ?_
  clear Hz Az; intro Az Hz
  refine znl (hK2 _ _ ?_); clear hK2
  refine wp_cond_true (Hz.ev (x := .tmp 70) rfl) ?_
  replace Hz : Has 125 [(1, _), (2, _)] Az := Hz.only [1, 2]
  refine regS Hz (.assign rfl <| .nil) ?_
  clear Hz Az; intro Az Hz
  refine wp_ret ?_
  try dsimp only [Exit.then, Exit.inBlock]
  refine (ret1 (fn := Tryd.f58) Hz rfl rfl ?_)
  exact ⟨false, rfl, (fun h => by cases h), m460.below⟩
 clear Hz; intro hb485 Hz; try simp only [QQ, Qax] at hb485
 refine goCh Hz (.faZ 9 rfl U87 <| .loadB1Z m460 (i := 20) rfl rfl rfl U33 rfl <| .lenZ rfl U33 <| .gtrZ rfl rfl <| .pickF rfl rfl <| .nil) ?_
 clear Hz Az; intro Az Hz
 refine znl (hK2 _ _ ?_); clear hK2
 refine bool_cases Hz (t := 70) rfl ?_ ?_
 ·
  clear Hz; intro hb498 Hz; try simp only [QQ, Qax] at hb498
  refine wp_cond_true (Hz.ev (x := .tmp 70) rfl) ?_
  replace Hz : Has 125 [(1, _), (2, _)] Az := Hz.only [1, 2]
  refine regS Hz (.assign rfl <| .nil) ?_
  clear Hz Az; intro Az Hz
  refine wp_ret ?_
  try dsimp only [Exit.then, Exit.inBlock]
  refine (ret1 (fn := Tryd.f58) Hz rfl rfl ?_)
  exact ⟨false, rfl, (fun h => by cases h), m460.below⟩
 clear Hz; intro hb498 Hz; try simp only [QQ, Qax] at hb498
 refine wp_cond_false (Hz.ev (x := .tmp 70) rfl) ?_
 refine zss (hK1 _ _ ?_); clear hK1
 refine wp_seq_k (fun K3 hK3 => ?_)
 replace Hz : Has 125 [(1, _), (2, _)] Az := Hz.only [1, 2]
 refine regS Hz (.assign rfl <| .nil) ?_
 clear Hz Az; intro Az Hz
 refine wp_block ?_
 refine wp_loop_ghost (fun g a w => ∃ (k B : Nat), k ≤ place.length ∧ g = place.length - k ∧ Has 125 [(1, .pointer (some ⟨B, 0, none⟩)), (3, .int .i64 k)] a ∧ MemOk (cn w0) w0 [(9, .box B 87 [.int .i64 kd, .int .i64 vo, .int .i64 bl, .int .i64 sz, .int .i64 pe, .slice pp place.length cp, .int .i64 to, .int .i64 at0, .int .i64 ix, .slice pi items.length ci])] w) (place.length) ?_ ?_
 · exact ⟨0, _, Nat.zero_le _, rfl, Hz.only [1, 3], m460.ren [(9, 20)] (by decide)⟩
 clear Hz m460
 rintro g Az w503 ⟨k, B, hkl, hg, Hz, m503⟩
 refine wp_seq_k (fun K4 hK4 => ?_)
 refine regS Hz (.move rfl <| .fa 5 rfl U87 <| .lb m503 9 U26 rfl rfl rfl <| .len rfl U26 <| .lss rfl rfl <| .nil) ?_
 clear Hz Az; intro Az Hz
 refine bool_cases Hz (t := 75) rfl ?_ ?_
 ·
  clear Hz; intro hb509 Hz; try simp only [QQ, Qax] at hb509
  have hk : k < place.length := by omega
  refine wp_cond_true (Hz.ev (x := .tmp 75) rfl) ?_
  refine zss (hK4 _ _ ?_); clear hK4
  refine wp_seq_k (fun K5 hK5 => ?_)
  refine wp_block ?_
  refine zsr fun K6 hK6 => ?_
  refine goCh Hz (.fa 5 rfl U87 <| .lb m503 9 U26 rfl rfl rfl <| .move rfl <| .nil) ?_
  clear Hz Az; intro Az Hz
  obtain ⟨gx517, ox517, hp517, hl517, hrg517⟩ := h0.extN (k) hk
  cases hp517; clear hl517
  refine goCh Hz (.c rfl (fun _ h => y_idx h rfl rfl U26 fct8 (k) rfl hk) <| .loadAt1 (hrg517 m503 rfl) (q := 0) rfl rfl rfl U3 rfl <| .lss rfl rfl <| .move rfl <| .nil) ?_
  clear Hz Az; intro Az Hz
  refine bool_cases Hz (t := 84) rfl ?_ ?_
  ·
   clear Hz; intro hb522 Hz; try simp only [QQ, Qax] at hb522
   refine goCh Hz (.sk <| .sk <| .sk <| .sk <| .sk <| .sk <| .pickT rfl rfl <| .nil) ?_
   clear Hz Az; intro Az Hz
   refine znl (hK6 _ _ ?_); clear hK6
   refine wp_cond_true (Hz.ev (x := .tmp 91) rfl) ?_
   replace Hz : Has 125 [(1, _), (3, _)] Az := Hz.only [1, 3]
   refine regS Hz (.assign rfl <| .nil) ?_
   clear Hz Az; intro Az Hz
   refine wp_ret ?_
   try dsimp only [Exit.then, Exit.inBlock]
   refine (ret1 (fn := Tryd.f58) Hz rfl rfl ?_)
   exact ⟨false, rfl, (fun h => by cases h), m503.below⟩
  clear Hz; intro hb522 Hz; try simp only [QQ, Qax] at hb522
  refine goCh Hz (.faZ 5 rfl U87 <| .loadB1Z m503 (i := 9) rfl rfl rfl U26 rfl <| .moveZ rfl <| .nil) ?_
  clear Hz Az; intro Az Hz
  obtain ⟨gx535, ox535, hp535, hl535, hrg535⟩ := h0.extN (k) hk
  cases hp535; clear hl535
  refine goCh Hz (.g rfl rfl rfl rfl (fun _ h => y_idx h rfl rfl U26 fct8 (k) rfl hk) <| .loadAt1Z (hrg535 m503 rfl) (q := 0) rfl rfl rfl U3 rfl <| .geqZ rfl rfl <| .pickF rfl rfl <| .nil) ?_
  clear Hz Az; intro Az Hz
  refine znl (hK6 _ _ ?_); clear hK6
  refine bool_cases Hz (t := 91) rfl ?_ ?_
  ·
   clear Hz; intro hb540 Hz; try simp only [QQ, Qax] at hb540
   refine wp_cond_true (Hz.ev (x := .tmp 91) rfl) ?_
   replace Hz : Has 125 [(1, _), (3, _)] Az := Hz.only [1, 3]
   refine regS Hz (.assign rfl <| .nil) ?_
   clear Hz Az; intro Az Hz
   refine wp_ret ?_
   try dsimp only [Exit.then, Exit.inBlock]
   refine (ret1 (fn := Tryd.f58) Hz rfl rfl ?_)
   exact ⟨false, rfl, (fun h => by cases h), m503.below⟩
  clear Hz; intro hb540 Hz; try simp only [QQ, Qax] at hb540
  refine wp_cond_false (Hz.ev (x := .tmp 91) rfl) ?_
  refine zss (hK5 _ _ ?_); clear hK5
  replace Hz : Has 125 [(1, _), (3, _)] Az := Hz.only [1, 3]
  refine wp_region_lit ?_
  refine goCh Hz (.move rfl <| .add rfl rfl (r := ((k + 1 : Nat) : Int)) (by rw [IntWalk.i64_in _ (by omega)]; omega) <| .assign rfl <| .nil) ?_
  clear Hz Az; intro Az Hz
  refine wpList_nil ?_
  show ∃ n', n' < _ ∧ _
  exact ⟨place.length - (k + 1), by omega, k + 1, _, by omega, rfl, Hz.only [1, 3], m503.only [9]⟩
 clear Hz; intro hb509 Hz; try simp only [QQ, Qax] at hb509
 refine wp_cond_false (Hz.ev (x := .tmp 75) rfl) ?_
 refine wp_exit ?_
 refine hK3 _ _ ?_; clear hK3
 refine wp_seq_k (fun K7 hK7 => ?_)
 refine regS Hz (.assign rfl <| .nil) ?_
 clear Hz Az; intro Az Hz
 refine wp_block ?_
 refine wp_loop_ghost (fun g a w => ∃ (k B : Nat), k ≤ items.length ∧ g = items.length - k ∧ (∀ j, j < k → (items.getD j i0).2.length ≤ 32) ∧ Has 125 [(1, .pointer (some ⟨B, 0, none⟩)), (4, .int .i64 k)] a ∧ MemOk (cn w0) w0 [(9, .box B 87 [.int .i64 kd, .int .i64 vo, .int .i64 bl, .int .i64 sz, .int .i64 pe, .slice pp place.length cp, .int .i64 to, .int .i64 at0, .int .i64 ix, .slice pi items.length ci])] w) (items.length) ?_ ?_
 · exact ⟨0, _, Nat.zero_le _, rfl, (fun j hj => by omega), Hz.only [1, 4], m503.ren [(9, 9)] (by decide)⟩
 clear Hz m503
 rintro g Az w548 ⟨k, B, hkl, hg, hall, Hz, m548⟩
 refine wp_seq_k (fun K8 hK8 => ?_)
 refine regS Hz (.move rfl <| .fa 9 rfl U87 <| .lb m548 9 U33 rfl rfl rfl <| .len rfl U33 <| .lss rfl rfl <| .nil) ?_
 clear Hz Az; intro Az Hz
 refine bool_cases Hz (t := 96) rfl ?_ ?_
 ·
  clear Hz; intro hb554 Hz; try simp only [QQ, Qax] at hb554
  have hk : k < items.length := by omega
  obtain ⟨⟨xb, xd⟩, hes⟩ : ∃ e, items[k]? = some e := ⟨_, List.getElem?_eq_getElem hk⟩
  refine wp_cond_true (Hz.ev (x := .tmp 96) rfl) ?_
  refine zss (hK8 _ _ ?_); clear hK8
  refine wp_seq_k (fun K9 hK9 => ?_)
  refine wp_block ?_
  refine zsr fun K10 hK10 => ?_
  refine goCh Hz (.fa 9 rfl U87 <| .lb m548 9 U33 rfl rfl rfl <| .move rfl <| .nil) ?_
  clear Hz Az; intro Az Hz
  obtain ⟨gx562, ox562, vx562, hp562, hl562, hR562, hrg562⟩ := h1.extA (k) (r := [.v (.int .i64 xb), .ns .u8 xd]) (itD_get hes)
  cases hp562; clear hl562
  rcases hR562 with _ | ⟨hd562_0, _ | ⟨hd562_1, _ | _⟩⟩
  obtain rfl := hd562_0.v_out
  clear hd562_0
  obtain ⟨p563, c563, hv563, hw563⟩ := hd562_1.ns_shape; subst hv563
  refine goCh Hz (.c rfl (fun _ h => y_idx h rfl rfl U33 fct2 (k) rfl hk) <| .fieldAddrQ 0 rfl U58 rfl (s := 0) (by kernel_rfl) rfl <| .loadAt1 (hrg562 m548 rfl) (q := 0) rfl rfl rfl U3 rfl <| .lss rfl rfl <| .move rfl <| .nil) ?_
  clear Hz Az; intro Az Hz
  refine bool_cases Hz (t := 106) rfl ?_ ?_
  ·
   clear Hz; intro hb569 Hz; try simp only [QQ, Qax] at hb569
   refine goCh Hz (.sk <| .sk <| .sk <| .sk <| .sk <| .sk <| .sk <| .pickT rfl rfl <| .move rfl <| .sk <| .sk <| .sk <| .sk <| .sk <| .sk <| .sk <| .sk <| .pickT rfl rfl <| .nil) ?_
   clear Hz Az; intro Az Hz
   refine znl (hK10 _ _ ?_); clear hK10
   refine wp_cond_true (Hz.ev (x := .tmp 124) rfl) ?_
   replace Hz : Has 125 [(1, _), (4, _)] Az := Hz.only [1, 4]
   refine regS Hz (.assign rfl <| .nil) ?_
   clear Hz Az; intro Az Hz
   refine wp_ret ?_
   try dsimp only [Exit.then, Exit.inBlock]
   refine (ret1 (fn := Tryd.f58) Hz rfl rfl ?_)
   exact ⟨false, rfl, (fun h => by cases h), m548.below⟩
  clear Hz; intro hb569 Hz; try simp only [QQ, Qax] at hb569
  refine goCh Hz (.faZ 9 rfl U87 <| .loadB1Z m548 (i := 9) rfl rfl rfl U33 rfl <| .moveZ rfl <| .nil) ?_
  clear Hz Az; intro Az Hz
  obtain ⟨gx593, ox593, vx593, hp593, hl593, hR593, hrg593⟩ := h1.extA (k) (r := [.v (.int .i64 xb), .ns .u8 xd]) (itD_get hes)
  cases hp593; clear hl593
  rcases hR593 with _ | ⟨hd593_0, _ | ⟨hd593_1, _ | _⟩⟩
  obtain rfl := hd593_0.v_out
  clear hd593_0
  obtain ⟨p594, c594, hv594, hw594⟩ := hd593_1.ns_shape; subst hv594
  refine goCh Hz (.g rfl rfl rfl rfl (fun _ h => y_idx h rfl rfl U33 fct2 (k) rfl hk) <| .fieldAddrQZ 0 rfl U58 rfl (s := 0) (by kernel_rfl) rfl <| .loadAt1Z (hrg593 m548 rfl) (q := 0) rfl rfl rfl U3 rfl <| .geqZ rfl rfl <| .pickF rfl rfl <| .move rfl <| .nil) ?_
  clear Hz Az; intro Az Hz
  refine bool_cases Hz (t := 115) rfl ?_ ?_
  ·
   clear Hz; intro hb601 Hz; try simp only [QQ, Qax] at hb601
   refine goCh Hz (.sk <| .sk <| .sk <| .sk <| .sk <| .sk <| .sk <| .sk <| .pickT rfl rfl <| .nil) ?_
   clear Hz Az; intro Az Hz
   refine znl (hK10 _ _ ?_); clear hK10
   refine wp_cond_true (Hz.ev (x := .tmp 124) rfl) ?_
   replace Hz : Has 125 [(1, _), (4, _)] Az := Hz.only [1, 4]
   refine regS Hz (.assign rfl <| .nil) ?_
   clear Hz Az; intro Az Hz
   refine wp_ret ?_
   try dsimp only [Exit.then, Exit.inBlock]
   refine (ret1 (fn := Tryd.f58) Hz rfl rfl ?_)
   exact ⟨false, rfl, (fun h => by cases h), m548.below⟩
  clear Hz; intro hb601 Hz; try simp only [QQ, Qax] at hb601
  refine goCh Hz (.faZ 9 rfl U87 <| .loadB1Z m548 (i := 9) rfl rfl rfl U33 rfl <| .moveZ rfl <| .nil) ?_
  clear Hz Az; intro Az Hz
  obtain ⟨gx616, ox616, vx616, hp616, hl616, hR616, hrg616⟩ := h1.extA (k) (r := [.v (.int .i64 xb), .ns .u8 xd]) (itD_get hes)
  cases hp616; clear hl616
  rcases hR616 with _ | ⟨hd616_0, _ | ⟨hd616_1, _ | _⟩⟩
  obtain rfl := hd616_0.v_out
  clear hd616_0
  obtain ⟨p617, c617, hv617, hw617⟩ := hd616_1.ns_shape; subst hv617
  refine goCh Hz (.g rfl rfl rfl rfl (fun _ h => y_idx h rfl rfl U33 fct2 (k) rfl hk) <| .fieldAddrQZ 1 rfl U58 rfl (s := 0) (by kernel_rfl) rfl <| .loadAt1Z (hrg616 m548 rfl) (q := 1) rfl rfl rfl U22 rfl <| .lenZ rfl U22 <| .gtrZ rfl rfl <| .pickF rfl rfl <| .nil) ?_
  clear Hz Az; intro Az Hz
  refine znl (hK10 _ _ ?_); clear hK10
  refine bool_cases Hz (t := 124) rfl ?_ ?_
  ·
   clear Hz; intro hb624 Hz; try simp only [QQ, Qax] at hb624
   refine wp_cond_true (Hz.ev (x := .tmp 124) rfl) ?_
   replace Hz : Has 125 [(1, _), (4, _)] Az := Hz.only [1, 4]
   refine regS Hz (.assign rfl <| .nil) ?_
   clear Hz Az; intro Az Hz
   refine wp_ret ?_
   try dsimp only [Exit.then, Exit.inBlock]
   refine (ret1 (fn := Tryd.f58) Hz rfl rfl ?_)
   exact ⟨false, rfl, (fun h => by cases h), m548.below⟩
  clear Hz; intro hb624 Hz; try simp only [QQ, Qax] at hb624
  refine wp_cond_false (Hz.ev (x := .tmp 124) rfl) ?_
  refine zss (hK9 _ _ ?_); clear hK9
  replace Hz : Has 125 [(1, _), (4, _)] Az := Hz.only [1, 4]
  refine wp_region_lit ?_
  refine goCh Hz (.move rfl <| .add rfl rfl (r := ((k + 1 : Nat) : Int)) (by rw [IntWalk.i64_in _ (by omega)]; omega) <| .assign rfl <| .nil) ?_
  clear Hz Az; intro Az Hz
  refine wpList_nil ?_
  show ∃ n', n' < _ ∧ _
  exact ⟨items.length - (k + 1), by omega, k + 1, _, by omega, rfl, snoc32 hall hes (by omega), Hz.only [1, 4], m548.only [9]⟩
 clear Hz; intro hb554 Hz; try simp only [QQ, Qax] at hb554
 have hk9 : k = items.length := by omega
 refine wp_cond_false (Hz.ev (x := .tmp 96) rfl) ?_
 refine wp_exit ?_
 refine hK7 _ _ ?_; clear hK7
 refine regS Hz (.assign rfl <| .nil) ?_
 clear Hz Az; intro Az Hz
 refine wp_ret ?_
 try dsimp only [Exit.then, Exit.inBlock]
 refine (ret1 (fn := Tryd.f58) Hz rfl rfl ?_)
 exact ⟨true, rfl, (fun _ => ⟨by omega, by omega, all32 (by rw [hk9] at hall; exact hall)⟩), m548.below⟩
end Go.Proofs.YtflcgpajodfkoaaDoor.K
