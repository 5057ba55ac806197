/- General laws of walks. -/
import Derived.Test.YtkehgingagggaaaGreatG11
import Derived.Test.YtkehgingagggaaaGreatG13
namespace Go.Proofs.YtkehgingagggaaaGreat.K
open Go.ChangeShapes Go.WideShapes Go.ChangeAt Go.RowKit
set_option linter.unusedVariables false
set_option linter.unusedSimpArgs false
section
theorem snoc32 {l : List (Int × List Int)} {k : Nat} {xb : Int} {xd : List Int} (h : ∀ j, j < k → (l.getD j i0).2.length ≤ 32) (hes : l[k]? = some (xb, xd)) (hk : xd.length ≤ 32) : ∀ j, j < k + 1 → (l.getD j i0).2.length ≤ 32 := fun j hj => by
 rcases Nat.lt_or_ge j k with h1 | h1
 · exact h j h1
 obtain rfl : j = k := by omega
 rw [getI hes]; exact hk
theorem all32 {l : List (Int × List Int)} (h : ∀ j, j < l.length → (l.getD j i0).2.length ≤ 32) : ∀ e ∈ l, e.2.length ≤ 32 := fun e he => by
 obtain ⟨j, hj, rfl⟩ := List.getElem_of_mem he
 have := h j hj
 rwa [List.getD, List.getElem?_eq_getElem hj] at this
set_option maxRecDepth 100000
set_option maxHeartbeats 4000000
theorem within16 (n : Int) (w0 : World) : Calls Tryz.prog 72 #[.int .i64 n] w0 fun e w' => ∃ b : Bool, e = .returned (.bool b) ∧ Below w0.heap.size w0 w' := by
 refine ent1 Tryz.func72 rfl Tryz.ntmps72 fun Az Hz => ?_
 have m0 := MemOk.start (fun _ => False) w0
 refine regS Hz (.assign rfl .nil) fun Az Hz => ?_
 refine zsr fun K0 hK0 => ?_
 refine goCh Hz (.move rfl <| .geq rfl rfl <| .move rfl .nil) fun Az Hz => ?_
 refine bc Hz 5 ?_ ?_
 ·
  intro hb8 Hz; try simp only [QQ, Qax] at hb8
  refine gz hK0 Hz (.moveZ rfl <| .leqZ rfl rfl <| .pickT rfl rfl <| .assign rfl <| .nil) fun Az Hz => ?_
  refine rt1 Hz ?_
  exact ⟨_, rfl, m0.below⟩
 intro hb8 Hz; try simp only [QQ, Qax] at hb8
 refine gz hK0 Hz (.sk <| .sk <| .pickF rfl rfl <| .assign rfl <| .nil) fun Az Hz => ?_
 refine rt1 Hz ?_
 exact ⟨_, rfl, m0.below⟩
theorem rcmdRight (kd vo bl sz pe to at0 ix : Int) (place : List Int) (items : List (Int × List Int)) (pp pi : Option Addr) (cp ni ci : Nat) (w0 : World) (h0 : Rd (fun _ => True) w0 (.slice pp place.length cp) (.ns .i64 place)) (h1 : Rd (fun _ => True) w0 (.slice pi ni ci) (.l 2 (items.map itD))) (hp : place.length ≤ 1000000) (hl : items.length ≤ 1000000) :
   Calls Tryz.prog 27 #[.agg #[.int .i64 kd, .int .i64 vo, .int .i64 bl, .int .i64 sz, .int .i64 pe, .slice pp place.length cp, .int .i64 to, .int .i64 at0, .int .i64 ix, .slice pi ni ci]] w0 fun e w' => ∃ b : Bool, e = .returned (.bool b) ∧ (b = true → place.length ≤ 256 ∧ items.length ≤ 8 ∧ ∀ e ∈ items, e.2.length ≤ 32) ∧ Below w0.heap.size w0 w' := by
 obtain rfl : ni = items.length := by obtain ⟨pq, c9, hv, _⟩ := h1.l_shape; injection hv with _ e2 _; rw [List.length_map] at e2; exact e2
 refine ent1 Tryz.func27 rfl Tryz.ntmps27 fun Az Hz => ?_
 have m0 := MemOk.start (fun _ => False) w0
 refine zsr fun K0 hK0 => ?_
 refine plz (e_box Hz m0 20 (cs := [_, _, _, _, _, _, _, _, _, _]) rfl rfl rfl fun g1 Az w2 Hz m2 _ _ => ?_)
 refine gz hK0 Hz (.assign rfl .nil) fun Az Hz => ?_
 refine wsk fun K1 hK1 => ?_
 refine zsr fun K2 hK2 => ?_
 refine goCh Hz (.fa 0 rfl U38 <| .lb m2 20 U3 rfl rfl rfl <| .lss rfl rfl <| .move rfl .nil) fun Az Hz => ?_
 refine bc Hz 8 ?_ ?_
 ·
  intro hb12 Hz; try simp only [QQ, Qax] at hb12
  refine gz hK2 Hz (.sk <| .sk <| .sk <| .pickT rfl rfl <| .move rfl <| .sk <| .sk <| .sk <| .pickT rfl rfl <| .move rfl <| .sk <| .sk <| .sk <| .pickT rfl rfl <| .move rfl <| .sk <| .sk <| .sk <| .sk <| .pickT rfl rfl <| .move rfl <| .sk <| .sk <| .sk <| .sk <| .pickT rfl rfl <| .move rfl <| .sk <| .sk <| .sk <| .sk <| .pickT rfl rfl <| .move rfl <| .sk <| .sk <| .sk <| .sk <| .pickT rfl rfl <| .move rfl <| .sk <| .sk <| .sk <| .sk <| .pickT rfl rfl <| .move rfl <| .sk <| .sk <| .sk <| .sk <| .pickT rfl rfl <| .move rfl <| .sk <| .sk <| .sk <| .sk <| .pickT rfl rfl <| .move rfl <| .sk <| .sk <| .sk <| .sk <| .pickT rfl rfl <| .nil) fun Az Hz => ?_
  refine wct Hz ?_
  replace Hz := Hz.oz [1, 2]
  refine regS Hz (.assign rfl .nil) fun Az Hz => ?_
  refine rt1 Hz ?_
  exact ⟨false, rfl, (fun h => by cases h), m2.below⟩
 intro hb12 Hz; try simp only [QQ, Qax] at hb12
 refine goCh Hz (.faZ 0 rfl U38 <| .loadB1Z m2 (i := 20) rfl rfl rfl U3 rfl <| .gtrZ rfl rfl <| .pickF rfl rfl <| .move rfl .nil) fun Az Hz => ?_
 refine bc Hz 13 ?_ ?_
 ·
  intro hb82 Hz; try simp only [QQ, Qax] at hb82
  refine gz hK2 Hz (.sk <| .sk <| .sk <| .pickT rfl rfl <| .move rfl <| .sk <| .sk <| .sk <| .pickT rfl rfl <| .move rfl <| .sk <| .sk <| .sk <| .sk <| .pickT rfl rfl <| .move rfl <| .sk <| .sk <| .sk <| .sk <| .pickT rfl rfl <| .move rfl <| .sk <| .sk <| .sk <| .sk <| .pickT rfl rfl <| .move rfl <| .sk <| .sk <| .sk <| .sk <| .pickT rfl rfl <| .move rfl <| .sk <| .sk <| .sk <| .sk <| .pickT rfl rfl <| .move rfl <| .sk <| .sk <| .sk <| .sk <| .pickT rfl rfl <| .move rfl <| .sk <| .sk <| .sk <| .sk <| .pickT rfl rfl <| .move rfl <| .sk <| .sk <| .sk <| .sk <| .pickT rfl rfl <| .nil) fun Az Hz => ?_
  refine wct Hz ?_
  replace Hz := Hz.oz [1, 2]
  refine regS Hz (.assign rfl .nil) fun Az Hz => ?_
  refine rt1 Hz ?_
  exact ⟨false, rfl, (fun h => by cases h), m2.below⟩
 intro hb82 Hz; try simp only [QQ, Qax] at hb82
 refine goCh Hz (.faZ 1 rfl U38 <| .loadB1Z m2 (i := 20) rfl rfl rfl U3 rfl <| .lssZ rfl rfl <| .pickF rfl rfl <| .move rfl .nil) fun Az Hz => ?_
 refine bc Hz 18 ?_ ?_
 ·
  intro hb147 Hz; try simp only [QQ, Qax] at hb147
  refine gz hK2 Hz (.sk <| .sk <| .sk <| .pickT rfl rfl <| .move rfl <| .sk <| .sk <| .sk <| .sk <| .pickT rfl rfl <| .move rfl <| .sk <| .sk <| .sk <| .sk <| .pickT rfl rfl <| .move rfl <| .sk <| .sk <| .sk <| .sk <| .pickT rfl rfl <| .move rfl <| .sk <| .sk <| .sk <| .sk <| .pickT rfl rfl <| .move rfl <| .sk <| .sk <| .sk <| .sk <| .pickT rfl rfl <| .move rfl <| .sk <| .sk <| .sk <| .sk <| .pickT rfl rfl <| .move rfl <| .sk <| .sk <| .sk <| .sk <| .pickT rfl rfl <| .move rfl <| .sk <| .sk <| .sk <| .sk <| .pickT rfl rfl <| .nil) fun Az Hz => ?_
  refine wct Hz ?_
  replace Hz := Hz.oz [1, 2]
  refine regS Hz (.assign rfl .nil) fun Az Hz => ?_
  refine rt1 Hz ?_
  exact ⟨false, rfl, (fun h => by cases h), m2.below⟩
 intro hb147 Hz; try simp only [QQ, Qax] at hb147
 refine goCh Hz (.faZ 1 rfl U38 <| .loadB1Z m2 (i := 20) rfl rfl rfl U3 rfl <| .geqZ rfl rfl <| .pickF rfl rfl <| .move rfl .nil) fun Az Hz => ?_
 refine bc Hz 23 ?_ ?_
 ·
  intro hb207 Hz; try simp only [QQ, Qax] at hb207
  refine gz hK2 Hz (.sk <| .sk <| .sk <| .sk <| .pickT rfl rfl <| .move rfl <| .sk <| .sk <| .sk <| .sk <| .pickT rfl rfl <| .move rfl <| .sk <| .sk <| .sk <| .sk <| .pickT rfl rfl <| .move rfl <| .sk <| .sk <| .sk <| .sk <| .pickT rfl rfl <| .move rfl <| .sk <| .sk <| .sk <| .sk <| .pickT rfl rfl <| .move rfl <| .sk <| .sk <| .sk <| .sk <| .pickT rfl rfl <| .move rfl <| .sk <| .sk <| .sk <| .sk <| .pickT rfl rfl <| .move rfl <| .sk <| .sk <| .sk <| .sk <| .pickT rfl rfl <| .nil) fun Az Hz => ?_
  refine wct Hz ?_
  replace Hz := Hz.oz [1, 2]
  refine regS Hz (.assign rfl .nil) fun Az Hz => ?_
  refine rt1 Hz ?_
  exact ⟨false, rfl, (fun h => by cases h), m2.below⟩
 intro hb207 Hz; try simp only [QQ, Qax] at hb207
 refine goCh Hz (.faZ 2 rfl U38 <| .loadB1Z m2 (i := 20) rfl rfl rfl U3 rfl .nil) fun Az Hz => ?_
 refine stz Hz (ecl Hz Tryz.func72 rfl (within16 _ _) ?_)
 rintro e w259 ⟨wb259, rfl, hb259⟩
 have m260 := m2.later hb259
 refine ⟨_, rfl, ?_⟩; intro Az Hz
 refine goCh Hz (.notZ rfl <| .pickF rfl rfl <| .move rfl .nil) fun Az Hz => ?_
 refine bc Hz 29 ?_ ?_
 ·
  intro hb265 Hz; try simp only [QQ, Qax] at hb265
  refine gz hK2 Hz (.sk <| .sk <| .sk <| .sk <| .pickT rfl rfl <| .move rfl <| .sk <| .sk <| .sk <| .sk <| .pickT rfl rfl <| .move rfl <| .sk <| .sk <| .sk <| .sk <| .pickT rfl rfl <| .move rfl <| .sk <| .sk <| .sk <| .sk <| .pickT rfl rfl <| .move rfl <| .sk <| .sk <| .sk <| .sk <| .pickT rfl rfl <| .move rfl <| .sk <| .sk <| .sk <| .sk <| .pickT rfl rfl <| .move rfl <| .sk <| .sk <| .sk <| .sk <| .pickT rfl rfl <| .nil) fun Az Hz => ?_
  refine wct Hz ?_
  replace Hz := Hz.oz [1, 2]
  refine regS Hz (.assign rfl .nil) fun Az Hz => ?_
  refine rt1 Hz ?_
  exact ⟨false, rfl, (fun h => by cases h), m260.below⟩
 intro hb265 Hz; try simp only [QQ, Qax] at hb265
 refine goCh Hz (.faZ 3 rfl U38 <| .loadB1Z m260 (i := 20) rfl rfl rfl U3 rfl .nil) fun Az Hz => ?_
 refine stz Hz (ecl Hz Tryz.func72 rfl (within16 _ _) ?_)
 rintro e w311 ⟨wb311, rfl, hb311⟩
 have m312 := m260.later hb311
 refine ⟨_, rfl, ?_⟩; intro Az Hz
 refine goCh Hz (.notZ rfl <| .pickF rfl rfl <| .move rfl .nil) fun Az Hz => ?_
 refine bc Hz 35 ?_ ?_
 ·
  intro hb317 Hz; try simp only [QQ, Qax] at hb317
  refine gz hK2 Hz (.sk <| .sk <| .sk <| .sk <| .pickT rfl rfl <| .move rfl <| .sk <| .sk <| .sk <| .sk <| .pickT rfl rfl <| .move rfl <| .sk <| .sk <| .sk <| .sk <| .pickT rfl rfl <| .move rfl <| .sk <| .sk <| .sk <| .sk <| .pickT rfl rfl <| .move rfl <| .sk <| .sk <| .sk <| .sk <| .pickT rfl rfl <| .move rfl <| .sk <| .sk <| .sk <| .sk <| .pickT rfl rfl <| .nil) fun Az Hz => ?_
  refine wct Hz ?_
  replace Hz := Hz.oz [1, 2]
  refine regS Hz (.assign rfl .nil) fun Az Hz => ?_
  refine rt1 Hz ?_
  exact ⟨false, rfl, (fun h => by cases h), m312.below⟩
 intro hb317 Hz; try simp only [QQ, Qax] at hb317
 refine goCh Hz (.faZ 4 rfl U38 <| .loadB1Z m312 (i := 20) rfl rfl rfl U3 rfl .nil) fun Az Hz => ?_
 refine stz Hz (ecl Hz Tryz.func72 rfl (within16 _ _) ?_)
 rintro e w357 ⟨wb357, rfl, hb357⟩
 have m358 := m312.later hb357
 refine ⟨_, rfl, ?_⟩; intro Az Hz
 refine goCh Hz (.notZ rfl <| .pickF rfl rfl <| .move rfl .nil) fun Az Hz => ?_
 refine bc Hz 41 ?_ ?_
 ·
  intro hb363 Hz; try simp only [QQ, Qax] at hb363
  refine gz hK2 Hz (.sk <| .sk <| .sk <| .sk <| .pickT rfl rfl <| .move rfl <| .sk <| .sk <| .sk <| .sk <| .pickT rfl rfl <| .move rfl <| .sk <| .sk <| .sk <| .sk <| .pickT rfl rfl <| .move rfl <| .sk <| .sk <| .sk <| .sk <| .pickT rfl rfl <| .move rfl <| .sk <| .sk <| .sk <| .sk <| .pickT rfl rfl <| .nil) fun Az Hz => ?_
  refine wct Hz ?_
  replace Hz := Hz.oz [1, 2]
  refine regS Hz (.assign rfl .nil) fun Az Hz => ?_
  refine rt1 Hz ?_
  exact ⟨false, rfl, (fun h => by cases h), m358.below⟩
 intro hb363 Hz; try simp only [QQ, Qax] at hb363
 refine goCh Hz (.faZ 6 rfl U38 <| .loadB1Z m358 (i := 20) rfl rfl rfl U3 rfl .nil) fun Az Hz => ?_
 refine stz Hz (ecl Hz Tryz.func72 rfl (within16 _ _) ?_)
 rintro e w397 ⟨wb397, rfl, hb397⟩
 have m398 := m358.later hb397
 refine ⟨_, rfl, ?_⟩; intro Az Hz
 refine goCh Hz (.notZ rfl <| .pickF rfl rfl <| .move rfl .nil) fun Az Hz => ?_
 refine bc Hz 47 ?_ ?_
 ·
  intro hb403 Hz; try simp only [QQ, Qax] at hb403
  refine gz hK2 Hz (.sk <| .sk <| .sk <| .sk <| .pickT rfl rfl <| .move rfl <| .sk <| .sk <| .sk <| .sk <| .pickT rfl rfl <| .move rfl <| .sk <| .sk <| .sk <| .sk <| .pickT rfl rfl <| .move rfl <| .sk <| .sk <| .sk <| .sk <| .pickT rfl rfl <| .nil) fun Az Hz => ?_
  refine wct Hz ?_
  replace Hz := Hz.oz [1, 2]
  refine regS Hz (.assign rfl .nil) fun Az Hz => ?_
  refine rt1 Hz ?_
  exact ⟨false, rfl, (fun h => by cases h), m398.below⟩
 intro hb403 Hz; try simp only [QQ, Qax] at hb403
 refine goCh Hz (.faZ 8 rfl U38 <| .loadB1Z m398 (i := 20) rfl rfl rfl U3 rfl .nil) fun Az Hz => ?_
 refine stz Hz (ecl Hz Tryz.func72 rfl (within16 _ _) ?_)
 rintro e w431 ⟨wb431, rfl, hb431⟩
 have m432 := m398.later hb431
 refine ⟨_, rfl, ?_⟩; intro Az Hz
 refine goCh Hz (.notZ rfl <| .pickF rfl rfl <| .move rfl .nil) fun Az Hz => ?_
 refine bc Hz 53 ?_ ?_
 ·
  intro hb437 Hz; try simp only [QQ, Qax] at hb437
  refine gz hK2 Hz (.sk <| .sk <| .sk <| .sk <| .pickT rfl rfl <| .move rfl <| .sk <| .sk <| .sk <| .sk <| .pickT rfl rfl <| .move rfl <| .sk <| .sk <| .sk <| .sk <| .pickT rfl rfl <| .nil) fun Az Hz => ?_
  refine wct Hz ?_
  replace Hz := Hz.oz [1, 2]
  refine regS Hz (.assign rfl .nil) fun Az Hz => ?_
  refine rt1 Hz ?_
  exact ⟨false, rfl, (fun h => by cases h), m432.below⟩
 intro hb437 Hz; try simp only [QQ, Qax] at hb437
 refine goCh Hz (.faZ 7 rfl U38 <| .loadB1Z m432 (i := 20) rfl rfl rfl U2 rfl .nil) fun Az Hz => ?_
 refine stz Hz (ecl Hz Tryz.func72 rfl (within16 _ _) ?_)
 rintro e w459 ⟨wb459, rfl, hb459⟩
 have m460 := m432.later hb459
 refine ⟨_, rfl, ?_⟩; intro Az Hz
 refine goCh Hz (.notZ rfl <| .pickF rfl rfl <| .move rfl .nil) fun Az Hz => ?_
 refine bc Hz 59 ?_ ?_
 ·
  intro hb465 Hz; try simp only [QQ, Qax] at hb465
  refine gz hK2 Hz (.sk <| .sk <| .sk <| .sk <| .pickT rfl rfl <| .move rfl <| .sk <| .sk <| .sk <| .sk <| .pickT rfl rfl <| .nil) fun Az Hz => ?_
  refine wct Hz ?_
  replace Hz := Hz.oz [1, 2]
  refine regS Hz (.assign rfl .nil) fun Az Hz => ?_
  refine rt1 Hz ?_
  exact ⟨false, rfl, (fun h => by cases h), m460.below⟩
 intro hb465 Hz; try simp only [QQ, Qax] at hb465
 refine goCh Hz (.faZ 5 rfl U38 <| .loadB1Z m460 (i := 20) rfl rfl rfl U35 rfl <| .lenZ rfl U35 <| .gtrZ rfl rfl <| .pickF rfl rfl <| .move rfl .nil) fun Az Hz => ?_
 refine bc Hz 65 ?_ ?_
 ·
  intro hb485 Hz; try simp only [QQ, Qax] at hb485
  refine gz hK2 Hz (.sk <| .sk <| .sk <| .sk <| .pickT rfl rfl <| .nil) fun Az Hz => ?_
  refine wct Hz ?_
  replace Hz := Hz.oz [1, 2]
  refine regS Hz (.assign rfl .nil) fun Az Hz => ?_
  refine rt1 Hz ?_
  exact ⟨false, rfl, (fun h => by cases h), m460.below⟩
 intro hb485 Hz; try simp only [QQ, Qax] at hb485
 refine gz hK2 Hz (.faZ 9 rfl U38 <| .loadB1Z m460 (i := 20) rfl rfl rfl U36 rfl <| .lenZ rfl U36 <| .gtrZ rfl rfl <| .pickF rfl rfl <| .nil) fun Az Hz => ?_
 refine bc Hz 70 ?_ ?_
 ·
  intro hb498 Hz; try simp only [QQ, Qax] at hb498
  refine wct Hz ?_
  replace Hz := Hz.oz [1, 2]
  refine regS Hz (.assign rfl .nil) fun Az Hz => ?_
  refine rt1 Hz ?_
  exact ⟨false, rfl, (fun h => by cases h), m460.below⟩
 intro hb498 Hz; try simp only [QQ, Qax] at hb498
 refine wcf Hz ?_
 refine zss (hK1 _ _ ?_)
 refine wsk fun K3 hK3 => ?_
 replace Hz := Hz.oz [1, 2]
 refine regS Hz (.assign rfl .nil) fun Az Hz => ?_
 refine wp_block ?_
 refine wp_loop_ghost (fun g a w => ∃ (k B : Nat), k ≤ place.length ∧ g = place.length - k ∧ Has 125 [(1, .pointer (some ⟨B, 0, none⟩)), (3, .int .i64 k)] a ∧ MemOk (cn w0) w0 [(9, .box B 38 [.int .i64 kd, .int .i64 vo, .int .i64 bl, .int .i64 sz, .int .i64 pe, .slice pp place.length cp, .int .i64 to, .int .i64 at0, .int .i64 ix, .slice pi items.length ci])] w) (place.length) ?_ ?_
 · exact ⟨0, _, Nat.zero_le _, rfl, Hz.only [1, 3], m460.ren [(9, 20)] (by decide)⟩
 clear Hz m460
 rintro g Az w503 ⟨k, B, hkl, hg, Hz, m503⟩
 refine wsk fun K4 hK4 => ?_
 refine regS Hz (.move rfl <| .fa 5 rfl U38 <| .lb m503 9 U35 rfl rfl rfl <| .len rfl U35 <| .lss rfl rfl .nil) fun Az Hz => ?_
 refine bc Hz 75 ?_ ?_
 ·
  intro hb509 Hz; try simp only [QQ, Qax] at hb509
  have hk : k < place.length := by omega
  refine wct Hz ?_
  refine zss (hK4 _ _ ?_)
  refine wsk fun K5 hK5 => ?_
  refine wp_block ?_
  refine zsr fun K6 hK6 => ?_
  refine goCh Hz (.fa 5 rfl U38 <| .lb m503 9 U35 rfl rfl rfl <| .move rfl .nil) fun Az Hz => ?_
  obtain ⟨gx517, ox517, hp517, hl517, hrg517⟩ := h0.extN (k) hk
  revert Hz
  cases hp517
  intro Hz
  refine goCh Hz (.c rfl (fun _ h_ => y_idx h_ rfl rfl U35 fct15 (k) rfl hk) <| .loadAt1 (hrg517 m503 rfl) (q := 0) rfl rfl rfl U3 rfl <| .lss rfl rfl <| .move rfl .nil) fun Az Hz => ?_
  refine bc Hz 84 ?_ ?_
  ·
   intro hb522 Hz; try simp only [QQ, Qax] at hb522
   refine gz hK6 Hz (.sk <| .sk <| .sk <| .sk <| .sk <| .sk <| .pickT rfl rfl <| .nil) fun Az Hz => ?_
   refine wct Hz ?_
   replace Hz := Hz.oz [1, 3]
   refine regS Hz (.assign rfl .nil) fun Az Hz => ?_
   refine rt1 Hz ?_
   exact ⟨false, rfl, (fun h => by cases h), m503.below⟩
  intro hb522 Hz; try simp only [QQ, Qax] at hb522
  refine goCh Hz (.faZ 5 rfl U38 <| .loadB1Z m503 (i := 9) rfl rfl rfl U35 rfl <| .moveZ rfl .nil) fun Az Hz => ?_
  obtain ⟨gx535, ox535, hp535, hl535, hrg535⟩ := h0.extN (k) hk
  revert Hz
  cases hp535
  intro Hz
  refine gz hK6 Hz (.g rfl rfl rfl rfl (fun _ h_ => y_idx h_ rfl rfl U35 fct15 (k) rfl hk) <| .loadAt1Z (hrg535 m503 rfl) (q := 0) rfl rfl rfl U3 rfl <| .geqZ rfl rfl <| .pickF rfl rfl <| .nil) fun Az Hz => ?_
  refine bc Hz 91 ?_ ?_
  ·
   intro hb540 Hz; try simp only [QQ, Qax] at hb540
   refine wct Hz ?_
   replace Hz := Hz.oz [1, 3]
   refine regS Hz (.assign rfl .nil) fun Az Hz => ?_
   refine rt1 Hz ?_
   exact ⟨false, rfl, (fun h => by cases h), m503.below⟩
  intro hb540 Hz; try simp only [QQ, Qax] at hb540
  refine wcf Hz ?_
  refine zss (hK5 _ _ ?_)
  replace Hz := Hz.oz [1, 3]
  refine wp_region_lit ?_
  refine goCh Hz (.move rfl <| .inc (k + 1) <| .assign rfl .nil) fun Az Hz => ?_
  refine wpList_nil ?_
  show ∃ n', n' < _ ∧ _
  exact ⟨place.length - (k + 1), by omega, k + 1, _, by omega, rfl, Hz.only [1, 3], m503.only [9]⟩
 intro hb509 Hz; try simp only [QQ, Qax] at hb509
 refine wcf Hz ?_
 refine wp_exit ?_
 refine hK3 _ _ ?_
 refine wsk fun K7 hK7 => ?_
 refine regS Hz (.assign rfl .nil) fun Az Hz => ?_
 refine wp_block ?_
 refine wp_loop_ghost (fun g a w => ∃ (k B : Nat), k ≤ items.length ∧ g = items.length - k ∧ (∀ j, j < k → (items.getD j i0).2.length ≤ 32) ∧ Has 125 [(1, .pointer (some ⟨B, 0, none⟩)), (4, .int .i64 k)] a ∧ MemOk (cn w0) w0 [(9, .box B 38 [.int .i64 kd, .int .i64 vo, .int .i64 bl, .int .i64 sz, .int .i64 pe, .slice pp place.length cp, .int .i64 to, .int .i64 at0, .int .i64 ix, .slice pi items.length ci])] w) (items.length) ?_ ?_
 · exact ⟨0, _, Nat.zero_le _, rfl, (fun j hj => by omega), Hz.only [1, 4], m503.ren [(9, 9)] (by decide)⟩
 clear Hz m503
 rintro g Az w548 ⟨k, B, hkl, hg, hall, Hz, m548⟩
 refine wsk fun K8 hK8 => ?_
 refine regS Hz (.move rfl <| .fa 9 rfl U38 <| .lb m548 9 U36 rfl rfl rfl <| .len rfl U36 <| .lss rfl rfl .nil) fun Az Hz => ?_
 refine bc Hz 96 ?_ ?_
 ·
  intro hb554 Hz; try simp only [QQ, Qax] at hb554
  have hk : k < items.length := by omega
  obtain ⟨⟨xb, xd⟩, hes⟩ : ∃ e, items[k]? = some e := ⟨_, List.getElem?_eq_getElem hk⟩
  refine wct Hz ?_
  refine zss (hK8 _ _ ?_)
  refine wsk fun K9 hK9 => ?_
  refine wp_block ?_
  refine zsr fun K10 hK10 => ?_
  refine goCh Hz (.fa 9 rfl U38 <| .lb m548 9 U36 rfl rfl rfl <| .move rfl .nil) fun Az Hz => ?_
  obtain ⟨gx562, ox562, vx562, hp562, hl562, hR562, hrg562⟩ := h1.extA (k) (r := [.v (.int .i64 xb), .ns .u8 xd]) (itD_get hes)
  revert Hz
  cases hp562
  rcases hR562 with _ | ⟨hd562_0, _ | ⟨hd562_1, _ | _⟩⟩
  obtain rfl := hd562_0.v_out
  clear hd562_0
  obtain ⟨p563, c563, hv563, hw563⟩ := hd562_1.ns_shape; subst hv563
  intro Hz
  refine goCh Hz (.c rfl (fun _ h_ => y_idx h_ rfl rfl U36 fct3 (k) rfl hk) <| .fieldAddrQ 0 rfl U59 rfl (s := 0) (by kernel_rfl) rfl <| .loadAt1 (hrg562 m548 rfl) (q := 0) rfl rfl rfl U3 rfl <| .lss rfl rfl <| .move rfl .nil) fun Az Hz => ?_
  refine bc Hz 106 ?_ ?_
  ·
   intro hb569 Hz; try simp only [QQ, Qax] at hb569
   refine gz hK10 Hz (.sk <| .sk <| .sk <| .sk <| .sk <| .sk <| .sk <| .pickT rfl rfl <| .move rfl <| .sk <| .sk <| .sk <| .sk <| .sk <| .sk <| .sk <| .sk <| .pickT rfl rfl <| .nil) fun Az Hz => ?_
   refine wct Hz ?_
   replace Hz := Hz.oz [1, 4]
   refine regS Hz (.assign rfl .nil) fun Az Hz => ?_
   refine rt1 Hz ?_
   exact ⟨false, rfl, (fun h => by cases h), m548.below⟩
  intro hb569 Hz; try simp only [QQ, Qax] at hb569
  refine goCh Hz (.faZ 9 rfl U38 <| .loadB1Z m548 (i := 9) rfl rfl rfl U36 rfl <| .moveZ rfl .nil) fun Az Hz => ?_
  obtain ⟨gx593, ox593, vx593, hp593, hl593, hR593, hrg593⟩ := h1.extA (k) (r := [.v (.int .i64 xb), .ns .u8 xd]) (itD_get hes)
  revert Hz
  cases hp593
  rcases hR593 with _ | ⟨hd593_0, _ | ⟨hd593_1, _ | _⟩⟩
  obtain rfl := hd593_0.v_out
  clear hd593_0
  obtain ⟨p594, c594, hv594, hw594⟩ := hd593_1.ns_shape; subst hv594
  intro Hz
  refine goCh Hz (.g rfl rfl rfl rfl (fun _ h_ => y_idx h_ rfl rfl U36 fct3 (k) rfl hk) <| .fieldAddrQZ 0 rfl U59 rfl (s := 0) (by kernel_rfl) rfl <| .loadAt1Z (hrg593 m548 rfl) (q := 0) rfl rfl rfl U3 rfl <| .geqZ rfl rfl <| .pickF rfl rfl <| .move rfl .nil) fun Az Hz => ?_
  refine bc Hz 115 ?_ ?_
  ·
   intro hb601 Hz; try simp only [QQ, Qax] at hb601
   refine gz hK10 Hz (.sk <| .sk <| .sk <| .sk <| .sk <| .sk <| .sk <| .sk <| .pickT rfl rfl <| .nil) fun Az Hz => ?_
   refine wct Hz ?_
   replace Hz := Hz.oz [1, 4]
   refine regS Hz (.assign rfl .nil) fun Az Hz => ?_
   refine rt1 Hz ?_
   exact ⟨false, rfl, (fun h => by cases h), m548.below⟩
  intro hb601 Hz; try simp only [QQ, Qax] at hb601
  refine goCh Hz (.faZ 9 rfl U38 <| .loadB1Z m548 (i := 9) rfl rfl rfl U36 rfl <| .moveZ rfl .nil) fun Az Hz => ?_
  obtain ⟨gx616, ox616, vx616, hp616, hl616, hR616, hrg616⟩ := h1.extA (k) (r := [.v (.int .i64 xb), .ns .u8 xd]) (itD_get hes)
  revert Hz
  cases hp616
  rcases hR616 with _ | ⟨hd616_0, _ | ⟨hd616_1, _ | _⟩⟩
  obtain rfl := hd616_0.v_out
  clear hd616_0
  obtain ⟨p617, c617, hv617, hw617⟩ := hd616_1.ns_shape; subst hv617
  intro Hz
  refine gz hK10 Hz (.g rfl rfl rfl rfl (fun _ h_ => y_idx h_ rfl rfl U36 fct3 (k) rfl hk) <| .fieldAddrQZ 1 rfl U59 rfl (s := 0) (by kernel_rfl) rfl <| .loadAt1Z (hrg616 m548 rfl) (q := 1) rfl rfl rfl U22 rfl <| .lenZ rfl U22 <| .gtrZ rfl rfl <| .pickF rfl rfl <| .nil) fun Az Hz => ?_
  refine bc Hz 124 ?_ ?_
  ·
   intro hb624 Hz; try simp only [QQ, Qax] at hb624
   refine wct Hz ?_
   replace Hz := Hz.oz [1, 4]
   refine regS Hz (.assign rfl .nil) fun Az Hz => ?_
   refine rt1 Hz ?_
   exact ⟨false, rfl, (fun h => by cases h), m548.below⟩
  intro hb624 Hz; try simp only [QQ, Qax] at hb624
  refine wcf Hz ?_
  refine zss (hK9 _ _ ?_)
  replace Hz := Hz.oz [1, 4]
  refine wp_region_lit ?_
  refine goCh Hz (.move rfl <| .inc (k + 1) <| .assign rfl .nil) fun Az Hz => ?_
  refine wpList_nil ?_
  show ∃ n', n' < _ ∧ _
  exact ⟨items.length - (k + 1), by omega, k + 1, _, by omega, rfl, snoc32 hall hes (by omega), Hz.only [1, 4], m548.only [9]⟩
 intro hb554 Hz; try simp only [QQ, Qax] at hb554
 have hk9 : k = items.length := by omega
 refine wcf Hz ?_
 refine wp_exit ?_
 refine hK7 _ _ ?_
 refine regS Hz (.assign rfl .nil) fun Az Hz => ?_
 refine rt1 Hz ?_
 exact ⟨true, rfl, (fun _ => ⟨by omega, by omega, all32 (by rw [hk9] at hall; exact hall)⟩), m548.below⟩
end
section
set_option maxRecDepth 100000
set_option maxHeartbeats 4000000
theorem rputCmd (kd vo bl sz pe to at0 ix : Int) (place : List Int) (items : List (Int × List Int)) (pp pi : Option Addr) (cp ni ci : Nat) (w0 : World) (h0 : Rd (fun _ => True) w0 (.slice pp place.length cp) (.ns .i64 place)) (h1 : Rd (fun _ => True) w0 (.slice pi ni ci) (.l 2 (items.map itD))) (hp : place.length ≤ 1000000) (hl : items.length ≤ 1000000) (hib : ∀ e ∈ items, BytesL e.2) :
   Calls Tryz.prog 12 #[.agg #[.int .i64 kd, .int .i64 vo, .int .i64 bl, .int .i64 sz, .int .i64 pe, .slice pp place.length cp, .int .i64 to, .int .i64 at0, .int .i64 ix, .slice pi ni ci]] w0 fun e w' => ∃ (b : List Int) (p : Option Addr) (c : Nat) (e9 : Int), e = .returned (.tuple #[.slice p b.length c, .int .i64 e9]) ∧ b.length ≤ 20000 ∧ BytesL b ∧ Rd (New w0) w' (.slice p b.length c) (.ns .u8 b) ∧ Below w0.heap.size w0 w' := by
 obtain rfl : ni = items.length := by obtain ⟨pq, c9, hv, _⟩ := h1.l_shape; injection hv with _ e2 _; rw [List.length_map] at e2; exact e2
 refine ent1 Tryz.func12 rfl Tryz.ntmps12 fun Az Hz => ?_
 have m0 := MemOk.start (fun _ => False) w0
 refine zsr fun K0 hK0 => ?_
 refine plz (e_box Hz m0 20 (cs := [_, _, _, _, _, _, _, _, _, _]) rfl rfl rfl fun g1 Az w2 Hz m2 _ _ => ?_)
 refine gz hK0 Hz (.assign rfl <| .assign rfl <| .nil) fun Az Hz => ?_
 refine wsk fun K1 hK1 => ?_
 refine zsr fun K2 hK2 => ?_
 refine goCh Hz (.loadBR m2 (i := 20) rfl rfl U38 rfl fct20 (by simp) (by dsimp only [List.drop, List.take] <;> rfl) .nil) fun Az Hz => ?_
 refine plz (ecl Hz Tryz.func27 rfl (rcmdRight _ _ _ _ _ _ _ _ place items _ _ _ _ _ _ ((h0.now' m2 rfl).any) ((h1.now' m2 rfl).any) hp hl) ?_)
 rintro e w7 ⟨cb, rfl, hcb, hb7⟩
 have m8 := m2.later hb7
 refine ⟨_, rfl, ?_⟩; intro Az Hz
 refine gz hK2 Hz (.not rfl .nil) fun Az Hz => ?_
 refine bc Hz 7 ?_ ?_
 ·
  intro hb11 Hz; try simp only [QQ, Qax] at hb11
  refine wct Hz ?_
  refine regS Hz (.assign rfl <| .assign rfl .nil) fun Az Hz => ?_
  refine rt2 Hz ?_
  exact ⟨[], none, 0, 23, rfl, by simp, (fun _ h => by cases h), Rd.nilN _ _ .u8 none, m8.below⟩
 intro hb11 Hz; try simp only [QQ, Qax] at hb11
 have hcc := hcb (by simp_all)
 refine wcf Hz ?_
 refine zss (hK1 _ _ ?_)
 refine zsr fun K3 hK3 => ?_
 refine goCh Hz (.fa 0 rfl U38 <| .lb m8 20 U3 rfl rfl rfl <| .fa 1 rfl U38 <| .lb m8 20 U3 rfl rfl rfl <| .fa 2 rfl U38 <| .lb m8 20 U3 rfl rfl rfl <| .fa 3 rfl U38 <| .lb m8 20 U3 rfl rfl rfl <| .fa 4 rfl U38 <| .lb m8 20 U3 rfl rfl rfl <| .fa 6 rfl U38 <| .lb m8 20 U3 rfl rfl rfl <| .fa 7 rfl U38 <| .lb m8 20 U2 rfl rfl rfl <| .fa 8 rfl U38 <| .lb m8 20 U3 rfl rfl rfl .nil) fun Az Hz => ?_
 refine plz (e_litN Hz m8 21 (k := .i64) rfl rfl U48 fct1 rfl rfl rfl rfl fun g46 Az w47 Hz m47 => ?_)
 have m48 := m47.freezeN 21 rfl
 refine plz (ecl Hz Tryz.func44 rfl (rnums16 [kd, vo, bl, sz, pe, to, at0, ix] _ _ _ ((m48.rd (i := 21) rfl).any) (by simp)) ?_)
 rintro e w49 ⟨d0, p49, c49, rfl, hld0, hbd0, ho49, hb49⟩
 have m50 := m48.newN 22 hb49 ho49
 refine ⟨_, rfl, ?_⟩; intro Az Hz
 refine gz hK3 Hz (.assign rfl .nil) fun Az Hz => ?_
 refine wsk fun K4 hK4 => ?_
 replace Hz := Hz.oz [1, 2, 3, 4]
 have m54 := m50.oz [20, 21, 22]
 refine region_p 11 (B := [(20, _)]) (m54.to ⟨il, trivial⟩) m54 (by kernel_rfl) (fun w55 hP55 m55 => ?_); clear m54
 refine goR hP55 [0, 1, 2, 5, 6] [2, 6] 5 0 103 Hz (m55.to ⟨il, trivial⟩) (.move rfl <| .fa 5 rfl U38 <| .lb hh 20 U35 rfl rfl rfl <| .fa 9 rfl U38 <| .lb hh 20 U36 rfl rfl rfl .nil) fun Az Hz => ?_
 refine so 3 ?_
 refine ecl Hz Tryz.func45 rfl (rplace place _ _ _ ((h0.now' m55 rfl).any) hp) ?_
 rintro e w61 ⟨d1, p61, c61, rfl, hld1, hbd1, ho61, hb61⟩
 have m62 := m55.newN 23 hb61 ho61
 refine ⟨_, rfl, ?_⟩; intro Az Hz
 refine ⟨m62.to ⟨il, trivial⟩, ?_⟩
 refine so 4 ?_
 refine e_appN Hz m62 22 rfl rfl rfl (m62.numsO (i := 23) rfl) U22 fct0 (by decide) (by simp at hld0; omega) rfl fun p64 c64 Az w65 Hz m65 => ?_
 refine ⟨m65.to ⟨il, trivial⟩, ?_⟩
 refine so 7 ?_
 refine ecl Hz Tryz.func46 rfl (rputItems items _ _ _ _ ((h1.now' m65 rfl).any) (by omega) (fun e he => ⟨by have := hcc.2.2 e he; omega, hib e he⟩)) ?_
 rintro e w66 ⟨d2, p66, c66, rfl, hld2, hbd2, ho66, hb66⟩
 have m67 := m65.newN 24 hb66 ho66
 refine ⟨_, rfl, ?_⟩; intro Az Hz
 refine ⟨m67.to ⟨il, trivial⟩, ?_⟩
 refine so 8 ?_
 refine e_appN Hz m67 22 rfl rfl rfl (m67.numsO (i := 24) rfl) U22 fct0 (by decide) (by simp at hld0 ⊢; omega) rfl fun p69 c69 Az w70 Hz m70 => ?_
 refine ⟨m70.to ⟨il, trivial⟩, ?_⟩
 refine goA hP55 [9, 10] 2 511 2047 Hz (m70.to ⟨il, trivial⟩) (.assign rfl <| .assign rfl .nil) fun Az Hz => ?_
 refine wpAnyE_done (by kernel_rfl) ?_ _
 refine hK4 _ _ ?_
 refine rt2 Hz ?_
 have m73 := m70.freezeN 22 rfl
 exact ⟨d0 ++ d1 ++ d2, _, _, 0, rfl, by simp at hld0 ⊢; omega, bytes_app (bytes_app hbd0 hbd1) hbd2, m73.outF (i := 22) rfl, m73.below⟩
end
section
theorem fl38rC : flatS Tryz.prog 38 [.int .i64 0, .int .i64 0, .int .i64 0, .int .i64 0, .int .i64 0, .slice none 0 0, .int .i64 0, .int .i64 0, .int .i64 0, .slice none 0 0] = true := by kernel_rfl
theorem fl115rC : flatS Tryz.prog 115 [.slice none 0 0, .int .i64 0] = true := by kernel_rfl
set_option maxRecDepth 100000
set_option maxHeartbeats 4000000
theorem rreadCmd (X : Cx) (b : List Int) (p : Option Addr) (c : Nat) (w0 : World) (hb : b.length ≤ 1000000) (hbb : BytesL b) (m0 : MemOk X w0 [(1, .dat (.slice p b.length c) (.ns .u8 b))] w0) :
   Calls Tryz.prog 29 #[.slice p b.length c] w0 fun e w' => ∃ (kd vo bl sz pe to at0 ix : Int) (place : List Int) (items : List (Int × List Int)) (pp : Option Addr) (cp : Nat) (pi : Option Addr) (ci : Nat) (er : Int), e = .returned (.tuple #[.agg #[.int .i64 kd, .int .i64 vo, .int .i64 bl, .int .i64 sz, .int .i64 pe, .slice pp place.length cp, .int .i64 to, .int .i64 at0, .int .i64 ix, .slice pi (items.map itD).length ci], .int .i64 er]) ∧ place.length ≤ 256 ∧ items.length ≤ 8 ∧ (∀ e ∈ items, e.2.length ≤ 32 ∧ BytesL e.2) ∧ MemOk X w0 [(1, .dat (.slice pp place.length cp) (.ns .i64 place)), (2, .dat (.slice pi (items.map itD).length ci) (.l 2 (items.map itD)))] w' := by
 refine ent1 Tryz.func29 rfl Tryz.ntmps29 fun Az Hz => ?_
 refine zsr fun K0 hK0 => ?_
 refine plz (e_alloc Hz m0 20 fct24 rfl fun g1 Az w2 Hz m2 _ _ => ?_)
 refine gz hK0 Hz (.assign rfl .nil) fun Az Hz => ?_
 refine zsr fun K1 hK1 => ?_
 refine goCh Hz (.move rfl <| .build rfl fct40 fl115rC rfl (by dsimp only [setL, List.set] <;> rfl) .nil) fun Az Hz => ?_
 refine plz (e_box Hz m2 21 (cs := [_, _]) rfl rfl rfl fun g8 Az w9 Hz m9 _ _ => ?_)
 refine gz hK1 Hz (.assign rfl .nil) fun Az Hz => ?_
 refine zsr fun K2 hK2 => ?_
 refine plz (e_alloc Hz m9 22 fct24 rfl fun g11 Az w12 Hz m12 _ _ => ?_)
 refine znl (hK2 _ _ ?_)
 refine zsr fun K3 hK3 => ?_
 refine goCh Hz (.move rfl .nil) fun Az Hz => ?_
 have m15 := m12.dat 23 rfl (m12.rd (i := 1) rfl)
 refine plz (ecl Hz Tryz.func65 rfl (rnum _ _ b _ 8 _ _ _ (by omega) hbb (by decide) (m15.into [(1, 21), (2, 23)] (by decide) rfl)) ?_)
 rintro e w16 ⟨kd, b1, p16, c16, er16, rfl, hukd, hlb1, hbb1, hm16⟩
 have mx16 := m15.back hm16 [(21, 1), (24, 2)] (by decide); clear hm16 m15
 have m16 := mx16.oz [21, 24, 1, 20, 22]
 refine ⟨_, rfl, ?_⟩; intro Az Hz
 refine goCh Hz (.conv rfl U108 U3 (IntWalk.i64_in _ (by omega)) <| .fa 0 rfl U38 .nil) fun Az Hz => ?_
 refine plz (st1 Hz m16 22 fct15 fun w20 m20 _ => ?_)
 refine znl (hK3 _ _ ?_)
 replace Hz := Hz.oz [0, 2, 3, 4, 5]
 refine zsr fun K4 hK4 => ?_
 refine goCh Hz (.move rfl .nil) fun Az Hz => ?_
 refine plz (ecl Hz Tryz.func65 rfl (rnum _ _ b1 _ 8 _ _ _ (by omega) hbb1 (by decide) (m20.into [(1, 21), (2, 24)] (by decide) rfl)) ?_)
 rintro e w24 ⟨vo, b2, p24, c24, er24, rfl, huvo, hlb2, hbb2, hm24⟩
 have mx24 := m20.back hm24 [(21, 1), (25, 2)] (by decide); clear hm24 m20
 have m24 := mx24.oz [21, 25, 1, 20, 22]
 refine ⟨_, rfl, ?_⟩; intro Az Hz
 refine goCh Hz (.conv rfl U108 U3 (IntWalk.i64_in _ (by omega)) <| .fa 1 rfl U38 .nil) fun Az Hz => ?_
 refine plz (st1 Hz m24 22 fct15 fun w28 m28 _ => ?_)
 refine znl (hK4 _ _ ?_)
 refine zsr fun K5 hK5 => ?_
 refine goCh Hz (.move rfl .nil) fun Az Hz => ?_
 refine plz (ecl Hz Tryz.func65 rfl (rnum _ _ b2 _ 1099511627776 _ _ _ (by omega) hbb2 (by decide) (m28.into [(1, 21), (2, 25)] (by decide) rfl)) ?_)
 rintro e w31 ⟨bl, b3, p31, c31, er31, rfl, hubl, hlb3, hbb3, hm31⟩
 have mx31 := m28.back hm31 [(21, 1), (26, 2)] (by decide); clear hm31 m28
 have m31 := mx31.oz [21, 26, 1, 20, 22]
 refine ⟨_, rfl, ?_⟩; intro Az Hz
 refine goCh Hz (.conv rfl U108 U3 (IntWalk.i64_in _ (by omega)) <| .fa 2 rfl U38 .nil) fun Az Hz => ?_
 refine plz (st1 Hz m31 22 fct15 fun w35 m35 _ => ?_)
 refine znl (hK5 _ _ ?_)
 replace Hz := Hz.oz [0, 2, 3, 4, 5]
 refine zsr fun K6 hK6 => ?_
 refine goCh Hz (.move rfl .nil) fun Az Hz => ?_
 refine plz (ecl Hz Tryz.func65 rfl (rnum _ _ b3 _ 1099511627776 _ _ _ (by omega) hbb3 (by decide) (m35.into [(1, 21), (2, 26)] (by decide) rfl)) ?_)
 rintro e w39 ⟨sz, b4, p39, c39, er39, rfl, husz, hlb4, hbb4, hm39⟩
 have mx39 := m35.back hm39 [(21, 1), (27, 2)] (by decide); clear hm39 m35
 have m39 := mx39.oz [21, 27, 1, 20, 22]
 refine ⟨_, rfl, ?_⟩; intro Az Hz
 refine goCh Hz (.conv rfl U108 U3 (IntWalk.i64_in _ (by omega)) <| .fa 3 rfl U38 .nil) fun Az Hz => ?_
 refine plz (st1 Hz m39 22 fct15 fun w43 m43 _ => ?_)
 refine znl (hK6 _ _ ?_)
 refine zsr fun K7 hK7 => ?_
 refine goCh Hz (.move rfl .nil) fun Az Hz => ?_
 refine plz (ecl Hz Tryz.func65 rfl (rnum _ _ b4 _ 1099511627776 _ _ _ (by omega) hbb4 (by decide) (m43.into [(1, 21), (2, 27)] (by decide) rfl)) ?_)
 rintro e w46 ⟨pe, b5, p46, c46, er46, rfl, hupe, hlb5, hbb5, hm46⟩
 have mx46 := m43.back hm46 [(21, 1), (28, 2)] (by decide); clear hm46 m43
 have m46 := mx46.oz [21, 28, 1, 20, 22]
 refine ⟨_, rfl, ?_⟩; intro Az Hz
 refine goCh Hz (.conv rfl U108 U3 (IntWalk.i64_in _ (by omega)) <| .fa 4 rfl U38 .nil) fun Az Hz => ?_
 refine plz (st1 Hz m46 22 fct15 fun w50 m50 _ => ?_)
 refine znl (hK7 _ _ ?_)
 replace Hz := Hz.oz [0, 2, 3, 4, 5]
 refine zsr fun K8 hK8 => ?_
 refine goCh Hz (.move rfl .nil) fun Az Hz => ?_
 refine plz (ecl Hz Tryz.func65 rfl (rnum _ _ b5 _ 1099511627776 _ _ _ (by omega) hbb5 (by decide) (m50.into [(1, 21), (2, 28)] (by decide) rfl)) ?_)
 rintro e w54 ⟨to, b6, p54, c54, er54, rfl, huto, hlb6, hbb6, hm54⟩
 have mx54 := m50.back hm54 [(21, 1), (29, 2)] (by decide); clear hm54 m50
 have m54 := mx54.oz [21, 29, 1, 20, 22]
 refine ⟨_, rfl, ?_⟩; intro Az Hz
 refine goCh Hz (.conv rfl U108 U3 (IntWalk.i64_in _ (by omega)) <| .fa 6 rfl U38 .nil) fun Az Hz => ?_
 refine plz (st1 Hz m54 22 fct15 fun w58 m58 _ => ?_)
 refine znl (hK8 _ _ ?_)
 refine zsr fun K9 hK9 => ?_
 refine goCh Hz (.move rfl .nil) fun Az Hz => ?_
 refine plz (ecl Hz Tryz.func65 rfl (rnum _ _ b6 _ 1099511627776 _ _ _ (by omega) hbb6 (by decide) (m58.into [(1, 21), (2, 29)] (by decide) rfl)) ?_)
 rintro e w61 ⟨at0, b7, p61, c61, er61, rfl, huat0, hlb7, hbb7, hm61⟩
 have mx61 := m58.back hm61 [(21, 1), (30, 2)] (by decide); clear hm61 m58
 have m61 := mx61.oz [21, 30, 1, 20, 22]
 refine ⟨_, rfl, ?_⟩; intro Az Hz
 refine goCh Hz (.conv rfl U108 U2 (IntWalk.i64_in _ (by omega)) <| .fa 7 rfl U38 .nil) fun Az Hz => ?_
 refine plz (st1 Hz m61 22 fct19 fun w65 m65 _ => ?_)
 refine znl (hK9 _ _ ?_)
 replace Hz := Hz.oz [0, 2, 3, 4, 5, 38]
 refine zsr fun K10 hK10 => ?_
 refine goCh Hz (.move rfl .nil) fun Az Hz => ?_
 refine plz (ecl Hz Tryz.func65 rfl (rnum _ _ b7 _ 1099511627776 _ _ _ (by omega) hbb7 (by decide) (m65.into [(1, 21), (2, 30)] (by decide) rfl)) ?_)
 rintro e w69 ⟨ix, b8, p69, c69, er69, rfl, huix, hlb8, hbb8, hm69⟩
 have mx69 := m65.back hm69 [(21, 1), (31, 2)] (by decide); clear hm69 m65
 have m69 := mx69.oz [21, 31, 1, 20, 22]
 refine ⟨_, rfl, ?_⟩; intro Az Hz
 refine goCh Hz (.conv rfl U108 U3 (IntWalk.i64_in _ (by omega)) <| .fa 8 rfl U38 .nil) fun Az Hz => ?_
 refine plz (st1 Hz m69 22 fct15 fun w73 m73 _ => ?_)
 refine znl (hK10 _ _ ?_)
 refine zsr fun K11 hK11 => ?_
 refine goCh Hz (.move rfl .nil) fun Az Hz => ?_
 refine plz (ecl Hz Tryz.func77 rfl (rtakePlace _ _ b8 _ _ _ _ (by omega) hbb8 (m73.into [(1, 21), (2, 31)] (by decide) rfl)) ?_)
 rintro e w76 ⟨place, b9, p76, c76, er76, p376, c376, rfl, hpl, hlb9, hbb9, hm76⟩
 have mx76 := m73.back hm76 [(21, 1), (32, 2), (33, 3)] (by decide); clear hm76 m73
 have m76 := mx76.oz [21, 32, 33, 1, 20, 22]
 refine ⟨_, rfl, ?_⟩; intro Az Hz
 refine goCh Hz (.fieldAddr (off := 5) rfl U38 rfl (s := 0) (by kernel_rfl) rfl .nil) fun Az Hz => ?_
 refine plz (st1 Hz m76 22 fct10 fun w79 m79 _ => ?_)
 refine znl (hK11 _ _ ?_)
 replace Hz := Hz.oz [0, 2, 3, 4, 5, 38]
 refine zsr fun K12 hK12 => ?_
 refine goCh Hz (.move rfl .nil) fun Az Hz => ?_
 refine plz (ecl Hz Tryz.func78 rfl (rtakeItems _ _ b9 _ _ _ _ (by omega) hbb9 (m79.into [(1, 21), (2, 32)] (by decide) rfl)) ?_)
 rintro e w83 ⟨items, b10, p83, c83, er83, p383, c383, rfl, hil, hii, hlb10, hbb10, hm83⟩
 have mx83 := m79.back hm83 [(21, 1), (34, 2), (35, 3)] (by decide); clear hm83 m79
 have m83 := mx83.oz [21, 34, 35, 1, 20, 22, 33]
 refine ⟨_, rfl, ?_⟩; intro Az Hz
 refine goCh Hz (.fieldAddr (off := 9) rfl U38 rfl (s := 0) (by kernel_rfl) rfl .nil) fun Az Hz => ?_
 refine plz (st1 Hz m83 22 fct6 fun w86 m86 _ => ?_)
 refine znl (hK12 _ _ ?_)
 refine zsr fun K13 hK13 => ?_
 refine goCh Hz (.loadBR m86 (i := 22) rfl rfl U38 rfl fct20 (by simp) (by dsimp only [List.drop, List.take] <;> rfl) .nil) fun Az Hz => ?_
 refine plz (ecl Hz Tryz.func12 rfl (rputCmd _ _ _ _ _ _ _ _ place items _ _ _ _ _ _ ((m86.rd (i := 33) rfl).any) ((m86.rd (i := 35) rfl).any) (by omega) (by omega) (fun e he => (hii e he).2)) ?_)
 rintro e w89 ⟨ob, p89, c89, e9, rfl, hol, hob, ho89, hb89⟩
 have m90 := m86.callD 36 rfl hb89 (ho89.cast (fun b hb => Or.inr hb))
 refine ⟨_, rfl, ?_⟩; intro Az Hz
 refine gz hK13 Hz (.move rfl <| .extract rfl rfl <| .extract rfl rfl <| .assign rfl <| .assign rfl <| .nil) fun Az Hz => ?_
 refine wsk fun K14 hK14 => ?_
 replace Hz := Hz.oz [0, 2, 3, 4, 5, 38, 6, 7]
 refine zsr fun K15 hK15 => ?_
 refine goCh Hz (.move rfl <| .nilCheck rfl <| .fa 1 rfl U115 <| .lb m90 21 U3 rfl rfl rfl <| .neq rfl rfl <| .move rfl .nil) fun Az Hz => ?_
 refine bc Hz 59 ?_ ?_
 ·
  intro hb110 Hz; try simp only [QQ, Qax] at hb110
  refine gz hK15 Hz (.sk <| .sk <| .pickT rfl rfl <| .move rfl <| .sk <| .sk <| .sk <| .sk <| .sk <| .pickT rfl rfl <| .nil) fun Az Hz => ?_
  refine wct Hz ?_
  replace Hz := Hz.oz [2, 3, 5, 38]
  refine zsr fun K16 hK16 => ?_
  refine goCh Hz (.build rfl fct24 fl38rC rfl (by dsimp only [setL, List.set] <;> rfl) .nil) fun Az Hz => ?_
  refine plz (stw Hz m90 20 fct20 fun w124 m124 _ => ?_)
  refine gz hK16 Hz (.assign rfl .nil) fun Az Hz => ?_
  refine rtd (retCT (fn := Tryz.f29) Hz m124 (i := 20) rfl rfl rfl rfl U38 rfl fct20 ?_)
  have mA := m124.dat 91 rfl (Rd.nilN _ _ .i64 none)
  have mB := mA.dat 92 rfl (Rd.l0 none 0 2)
  exact ⟨0, 0, 0, 0, 0, 0, 0, 0, [], [], none, 0, none, 0, _, rfl, by simp, by simp, (fun e h => by cases h), mB.ren [(1, 91), (2, 92)] (by decide)⟩
 intro hb110 Hz; try simp only [QQ, Qax] at hb110
 refine goCh Hz (.moveZ rfl <| .neqZ rfl rfl <| .pickF rfl rfl <| .move rfl .nil) fun Az Hz => ?_
 refine bc Hz 63 ?_ ?_
 ·
  intro hb130 Hz; try simp only [QQ, Qax] at hb130
  refine gz hK15 Hz (.sk <| .sk <| .sk <| .sk <| .sk <| .pickT rfl rfl <| .nil) fun Az Hz => ?_
  refine wct Hz ?_
  replace Hz := Hz.oz [2, 3, 5, 38]
  refine zsr fun K17 hK17 => ?_
  refine goCh Hz (.build rfl fct24 fl38rC rfl (by dsimp only [setL, List.set] <;> rfl) .nil) fun Az Hz => ?_
  refine plz (stw Hz m90 20 fct20 fun w140 m140 _ => ?_)
  refine gz hK17 Hz (.assign rfl .nil) fun Az Hz => ?_
  refine rtd (retCT (fn := Tryz.f29) Hz m140 (i := 20) rfl rfl rfl rfl U38 rfl fct20 ?_)
  have mA := m140.dat 91 rfl (Rd.nilN _ _ .i64 none)
  have mB := mA.dat 92 rfl (Rd.l0 none 0 2)
  exact ⟨0, 0, 0, 0, 0, 0, 0, 0, [], [], none, 0, none, 0, _, rfl, by simp, by simp, (fun e h => by cases h), mB.ren [(1, 91), (2, 92)] (by decide)⟩
 intro hb130 Hz; try simp only [QQ, Qax] at hb130
 refine gz hK15 Hz (.moveZ rfl <| .strZ rfl (m90.nums (i := 36) rfl) U22 U5 U9 <| .moveZ rfl <| .strZ rfl (m90.nums (i := 1) rfl) U22 U5 U9 <| .neqSZ rfl rfl <| .pickF rfl rfl <| .nil) fun Az Hz => ?_
 refine bc Hz 69 ?_ ?_
 ·
  intro hb148 Hz; try simp only [QQ, Qax] at hb148
  refine wct Hz ?_
  replace Hz := Hz.oz [2, 3, 5, 38]
  refine zsr fun K18 hK18 => ?_
  refine goCh Hz (.build rfl fct24 fl38rC rfl (by dsimp only [setL, List.set] <;> rfl) .nil) fun Az Hz => ?_
  refine plz (stw Hz m90 20 fct20 fun w152 m152 _ => ?_)
  refine gz hK18 Hz (.assign rfl .nil) fun Az Hz => ?_
  refine rtd (retCT (fn := Tryz.f29) Hz m152 (i := 20) rfl rfl rfl rfl U38 rfl fct20 ?_)
  have mA := m152.dat 91 rfl (Rd.nilN _ _ .i64 none)
  have mB := mA.dat 92 rfl (Rd.l0 none 0 2)
  exact ⟨0, 0, 0, 0, 0, 0, 0, 0, [], [], none, 0, none, 0, _, rfl, by simp, by simp, (fun e h => by cases h), mB.ren [(1, 91), (2, 92)] (by decide)⟩
 intro hb148 Hz; try simp only [QQ, Qax] at hb148
 refine wcf Hz ?_
 refine zss (hK14 _ _ ?_)
 replace Hz := Hz.oz [2, 3, 5, 38]
 refine zsr fun K19 hK19 => ?_
 refine goCh Hz (.loadBR m90 (i := 22) rfl rfl U38 rfl fct20 (by simp) (by dsimp only [List.drop, List.take] <;> rfl) .nil) fun Az Hz => ?_
 refine plz (stw Hz m90 20 fct20 fun w157 m157 _ => ?_)
 refine gz hK19 Hz (.assign rfl .nil) fun Az Hz => ?_
 refine rtd (retCT (fn := Tryz.f29) Hz m157 (i := 20) rfl rfl rfl rfl U38 rfl fct20 ?_)
 exact ⟨kd, vo, bl, sz, pe, to, at0, ix, place, items, _, _, _, _, _, rfl, hpl, hil, hii, m157.ren [(1, 33), (2, 35)] (by decide)⟩
end
section
section
variable {P : Program} {ops : Array Oper} {Q : Exit → Act → World → Prop} {md : Region.Mode} {listed : Array Bool} {fuel e : Nat} {S : World → Prop} {a : Act} {w : World}
theorem d_three (i j k : Nat) {oi oj ok : Oper} (hi : ops[i]? = some oi) (hj : ops[j]? = some oj) (hk : ops[k]? = some ok) (hr : Region.ready md ops listed = [i, j, k])
   (hwi : Region.wanted oi (Go.yielded ops a.tmps) = true) (hwj : Region.wanted oj (Go.yielded ops a.tmps) = true) (hwk : Region.wanted ok (Go.yielded ops a.tmps) = true)
   (h1 : ∀ K' : Act → World → Prop, (∀ a' w', ((listed.setIfInBounds i true).getD e false = false → S w') → wpAnyE P md ops Q e S fuel (listed.setIfInBounds i true) a' w' → K' a' w') → Oper.wp P oi a w K' Q)
   (h2 : ∀ K' : Act → World → Prop, (∀ a' w', ((listed.setIfInBounds j true).getD e false = false → S w') → wpAnyE P md ops Q e S fuel (listed.setIfInBounds j true) a' w' → K' a' w') → Oper.wp P oj a w K' Q)
   (h3 : ∀ K' : Act → World → Prop, (∀ a' w', ((listed.setIfInBounds k true).getD e false = false → S w') → wpAnyE P md ops Q e S fuel (listed.setIfInBounds k true) a' w' → K' a' w') → Oper.wp P ok a w K' Q) :
   wpAnyE P md ops Q e S (fuel + 1) listed a w := by
 refine ⟨fun h0 => absurd (hr ▸ h0) (by simp), fun q hq => ?_⟩
 rw [hr] at hq
 rcases List.mem_cons.1 hq with rfl | hq
 · refine wpOp_step hi (fun K' hK => ?_)
   rw [if_pos hwi]
   exact h1 K' (fun a' w' h hn => hK a' w' ⟨h, hn⟩)
 rcases List.mem_cons.1 hq with rfl | hq
 · refine wpOp_step hj (fun K' hK => ?_)
   rw [if_pos hwj]
   exact h2 K' (fun a' w' h hn => hK a' w' ⟨h, hn⟩)
 obtain rfl : q = k := by simpa using hq
 refine wpOp_step hk (fun K' hK => ?_)
 rw [if_pos hwk]
 exact h3 K' (fun a' w' h hn => hK a' w' ⟨h, hn⟩)
end
section
variable {P : Program} {n : Nat} {T : List (Nat × Value)} {a : Act} {w w0 : World} {X : Cx} {M : Mm} {tt : TypeId} {pos : String} {af : Array Edge} {gd : Option (Nat × Bool)} {Q : Exit → Act → World → Prop} {K : Act → World → Prop}
theorem e_storeRW (ha : Has n T a) (m : MemOk X w0 M w) (i : Nat) {g l c mm : Nat} {t e : TypeId} {x y : Operand} {rows : List (List D)} {xs : Array Value} {dd : List D} (hm : lk M i = some (.row (.slice (some ⟨g, 0, none⟩) l c) e mm rows)) (J : Nat) (hJ : J < rows.length) {q' : Nat} (hx : evT T x = some (.pointer (some ⟨g, q', none⟩))) (hq' : q' = 0 + J * mm) (hy : evT T y = some (.agg xs)) (hv : xs.toList.all (fun v => v.oneCell') = true) (hl : xs.size = mm) (hs : (P.info? t).map (·.size) = some xs.size) (hdd : RdL (Free X M) w xs.toList dd)
   (h : ∀ w', MemOk X w0 ((i, .row (.slice (some ⟨g, 0, none⟩) l c) e mm (rows.set J dd)) :: M) w' → K a w') : Oper.wp P ⟨none, .store t x y, tt, pos, af, gd⟩ a w K Q := by
 obtain ⟨cs, h1, h2, h3, h4, h5⟩ := m.ok i _ hm
 subst hq'
 have hJc : cs[J]? = some cs[J] := List.getElem?_eq_getElem (by omega)
 rcases h1.2 with ⟨e1, _⟩ | ⟨g', cap, cur, e1, hg', hbk, hnc, hcm, hcs, htk⟩
 · cases e1
 injection e1 with e1 e2 e3
 injection e1 with e1
 injection e1 with e1 e4
 subst e1; subst e2; subst e3
 obtain ⟨o, ho⟩ : ∃ o : Nat, o = 0 := ⟨0, rfl⟩
 have htk : (cur.toList.drop o).take (rows.length * mm) = cs.flatten := by rw [ho]; simpa using htk
 have hJm : J * mm + mm ≤ rows.length * mm := by
   calc J * mm + mm = (J + 1) * mm := by rw [Nat.add_mul]; omega
     _ ≤ rows.length * mm := Nat.mul_le_mul_right _ (by omega)
 have hcapm : rows.length * mm ≤ c * mm := Nat.mul_le_mul_right _ hnc
 have hb : Blk w g e cur.toList := by unfold Blk; rw [Array.toArray_toList]; exact hbk
 have hcl : cur.toList.length = cur.size := Array.length_toList
 have hxl : xs.toList.length = mm := by rw [Array.length_toList, hl]
 obtain ⟨w', hrn, hb', hk⟩ := run_storeVar_blk (P := P) hb (o + J * mm) t xs.toList (by rw [hxl]; omega) (by simpa using hs) (List.all_eq_true.1 hv)
 have hrun : (execOp a.eval ⟨none, .store t x y, tt, pos, af, gd⟩).run P w = .ok .skip w' := by
   have hr' : (Instr.storeAt t (.pointer (some ⟨g, J * mm, none⟩)) (.agg xs)).run P w = .ok () w' := by rw [ho, Nat.zero_add] at hrn; simpa using hrn
   have hx' : evT T x = some (.pointer (some ⟨g, J * mm, none⟩)) := by rw [hx, Nat.zero_add]
   simp [execOp, ha.ev hx', ha.ev hy, hr']
 show Oper.upon P _ a K Q _
 rw [hrun]
 rw [hxl] at hb'
 have hlen : (rows.set J dd).length = rows.length := List.length_set ..
 have hdl : dd.length = mm := by rw [← hdd.len, hxl]
 have hkeep : Keep (fun b => ∃ r, lk M i = some r ∧ r.blk = some b) w w' := (hk (fun b => b = g) rfl).mono (fun b e => ⟨_, hm, by rw [show b = g from e]; rfl⟩)
 refine h w' (m.upd i _ hkeep (fun b hb => .inl ⟨_, hm, hb⟩) (fun hf _ => ⟨cs.set J xs.toList, ?_, by rw [List.length_set, h2, hlen], fun c' hc' => ?_, fun r' hr' => ?_, fun j q2 c' r' x' d a1 a2 a3 a4 => ?_⟩))
 · have hfl : cs.flatten.length = rows.length * mm := h1.1
   rw [hlen, ← flatten_put xs.toList hxl cs J (fun c hc => (h3 c hc).1) (by omega)]
   refine ⟨by simp only [List.length_append, List.length_take, List.length_drop, hxl, hfl]; omega, .inr ⟨g, c, (cur.toList.take (o + J * mm) ++ xs.toList ++ cur.toList.drop (o + J * mm + mm)).toArray, rfl, hg', hb', hnc, hcm, ?_, ?_⟩⟩
   · simp only [List.size_toArray, List.length_append, List.length_take, List.length_drop, hxl, hcl]; omega
   rw [← htk]
   show List.take (rows.length * mm) (cur.toList.take (o + J * mm) ++ xs.toList ++ cur.toList.drop (o + J * mm + mm)) = _
   rw [show (cur.toList.take (o + J * mm) ++ xs.toList ++ cur.toList.drop (o + J * mm + mm)) = (cur.toList.take (o + J * mm) ++ xs.toList ++ cur.toList.drop (o + J * mm + mm)).drop o by rw [ho, List.drop_zero]]
   generalize rows.length * mm = N at *
   generalize J * mm = j at *
   apply List.ext_getElem?
   intro k
   rw [List.getElem?_take]
   by_cases hkN : k < N
   · rw [if_pos hkN, List.getElem?_drop]
     by_cases k1 : k < j
     · rw [List.getElem?_append_left (by simp; omega), List.getElem?_append_left (by simp; omega), List.getElem?_take_of_lt (by omega)]
       rw [List.getElem?_append_left (by simp; omega), List.getElem?_append_left (by simp; omega), List.getElem?_take_of_lt (by omega), List.getElem?_take_of_lt (by omega), List.getElem?_drop]
     by_cases k2 : k < j + mm
     · rw [List.getElem?_append_left (by simp; omega), List.getElem?_append_right (by simp; omega)]
       rw [List.getElem?_append_left (by simp; omega), List.getElem?_append_right (by simp; omega)]
       congr 1; simp; omega
     rw [List.getElem?_append_right (by simp; omega), List.getElem?_append_right (by simp; omega)]
     simp only [List.getElem?_drop, List.length_append, List.length_take, List.length_drop, hxl, hcl]
     rw [List.getElem?_take_of_lt (by omega), List.getElem?_drop]
     congr 1; omega
   rw [if_neg hkN, List.getElem?_eq_none]
   simp only [List.length_append, List.length_take, List.length_drop, hxl, hcl]
   omega
 · rcases List.mem_or_eq_of_mem_set hc' with hc' | rfl
   · exact h3 c' hc'
   exact ⟨hxl, List.all_eq_true.1 hv⟩
 · rcases List.mem_or_eq_of_mem_set hr' with hr' | rfl
   · exact h4 r' hr'
   exact hdl
 have hmono : ∀ b, b < w.heap.size → Free X M b → w'.heap[b]? = w.heap[b]? ∧ Free X ((i, Res.row (.slice (some ⟨g, 0, none⟩) rows.length c) e mm (rows.set J dd)) :: M) b := fun b hlt hF => ⟨(hk (fun b => b = g) rfl).2.2.2.2 b hlt (fun e => hF.2 ⟨i, _, hm, by rw [show b = g from e]; rfl⟩), hf b hlt hF⟩
 have hsz := hkeep.size
 by_cases hjJ : j = J
 · subst hjJ
   rw [List.getElem?_set_self (by omega)] at a1
   rw [List.getElem?_set_self (by omega)] at a2
   cases a1; cases a2
   exact (hdd.get _ _ _ a3 a4).mono hsz hmono
 rw [List.getElem?_set_ne (by omega)] at a1
 rw [List.getElem?_set_ne (by omega)] at a2
 exact (h5 j q2 c' r' x' d a1 a2 a3 a4).mono hsz hmono
end
section
variable {w w0 : World} {X : Cx} {M : Mm}
theorem MemOk.callF2 (m : MemOk X w0 M w) (i j : Nat) {w' : World} {u v : Value} {d e : D} (hi : lk M i = none) (hj : lk ((i, .dat u d) :: M) j = none) (hb : Below w.heap.size w w') (h1 : Rd (New w) w' u d) (h2 : Rd (New w) w' v e) : MemOk X w0 ((j, .dat v e) :: (i, .dat u d) :: M) w' :=
 (m.callF i hi hb h1).dat j hj (h2.cast (fun b hb => free_add rfl (m.free_out (.inr hb))))
theorem MemOk.callF3 (m : MemOk X w0 M w) (i j k : Nat) {w' : World} {u v t : Value} {d e f : D} (hi : lk M i = none) (hj : lk ((i, .dat u d) :: M) j = none) (hk : lk ((j, .dat v e) :: (i, .dat u d) :: M) k = none) (hb : Below w.heap.size w w') (h1 : Rd (New w) w' u d) (h2 : Rd (New w) w' v e) (h3 : Rd (New w) w' t f) : MemOk X w0 ((k, .dat t f) :: (j, .dat v e) :: (i, .dat u d) :: M) w' :=
 (m.callF2 i j hi hj hb h1 h2).dat k hk (h3.cast (fun b hb => free_add rfl (free_add rfl (m.free_out (.inr hb)))))
end
section
variable {P : Program} {ops : Array Oper} {Q : Exit → Act → World → Prop} {a : Act} {w : World} {md : Region.Mode} {e fuel : Nat} {S : World → Prop} {listed : Array Bool}
theorem dth (i j k : Nat) {oi oj ok : Oper} (h1 : Oper.wp P oi a w (fun a' w' => ((listed.setIfInBounds i true).getD e false = false → S w') ∧ wpAnyE P md ops Q e S fuel (listed.setIfInBounds i true) a' w') Q) (h2 : Oper.wp P oj a w (fun a' w' => ((listed.setIfInBounds j true).getD e false = false → S w') ∧ wpAnyE P md ops Q e S fuel (listed.setIfInBounds j true) a' w') Q) (h3 : Oper.wp P ok a w (fun a' w' => ((listed.setIfInBounds k true).getD e false = false → S w') ∧ wpAnyE P md ops Q e S fuel (listed.setIfInBounds k true) a' w') Q) (hi : ops[i]? = some oi := by rfl) (hj : ops[j]? = some oj := by rfl) (hk : ops[k]? = some ok := by rfl) (hr : Region.ready md ops listed = [i, j, k] := by kernel_rfl) (hwi : Region.wanted oi (Go.yielded ops a.tmps) = true := by rfl) (hwj : Region.wanted oj (Go.yielded ops a.tmps) = true := by rfl) (hwk : Region.wanted ok (Go.yielded ops a.tmps) = true := by rfl) : wpAnyE P md ops Q e S (fuel + 1) listed a w :=
  d_three i j k hi hj hk hr hwi hwj hwk (fun _ hK => Oper.wp_mono (fun a' w' h => hK a' w' h.1 h.2) h1) (fun _ hK => Oper.wp_mono (fun a' w' h => hK a' w' h.1 h.2) h2) (fun _ hK => Oper.wp_mono (fun a' w' h => hK a' w' h.1 h.2) h3)
end
end
end Go.Proofs.YtkehgingagggaaaGreat.K
