/- General laws of walks. -/
import Derived.Test.YtkehgingagggaaaGreatG7
import Derived.Test.YtkehgingagggaaaGreatG4
namespace Go.Proofs.YtkehgingagggaaaGreat.K
open Go.ChangeShapes Go.WideShapes Go.ChangeAt Go.RowKit
set_option linter.unusedVariables false
set_option linter.unusedSimpArgs false
section
theorem fl51rn : flatS Tryz.prog 51 [.int .i64 0, .int .i64 0, .int .i64 0, .int .i64 0, .slice none 0 0, .int .i64 0, .int .i64 0, .bool false, .int .i64 0, .slice none 0 0, .slice none 0 0] = true := by kernel_rfl
theorem fl59is2 : flatS Tryz.prog 59 [.int .i64 0, .slice none 0 0] = true := by kernel_rfl
def BytesL (d : List Int) : Prop := ∀ x ∈ d, 0 ≤ x ∧ x ≤ 255
theorem bytes_snoc {d : List Int} {z : Int} (h : BytesL d) (hz : 0 ≤ z ∧ z ≤ 255) : BytesL (d ++ [z]) := fun x hx => by
 rcases List.mem_append.1 hx with h1 | h1
 · exact h x h1
 simp at h1; subst h1; exact hz
def crL (px : Int) (i : Nat) : List Int := (List.range i).map (fun j : Nat => 1 + ((j : Int) + px) % 2)
theorem crL_len (px : Int) (i : Nat) : (crL px i).length = i := by simp [crL]
theorem crL_snoc (px : Int) (i : Nat) : crL px (i + 1) = crL px i ++ [1 + ((i : Int) + px) % 2] := by simp [crL, List.range_succ]
theorem crL_ok (px : Int) (i : Nat) : ∀ g ∈ crL px i, 1 ≤ g ∧ g ≤ 7 := fun g hg => by
 obtain ⟨j, -, rfl⟩ := List.mem_map.1 hg
 omega
def ItsB (es : List (Int × List Int)) : Prop := ∀ e ∈ es, e.2.length ≤ 1000000 ∧ BytesL e.2
theorem ItsB.ok {es : List (Int × List Int)} (h : ItsB es) : ItsOk es := fun e he => Nat.le_trans (h e he).1 (by decide)
theorem itsB_snoc {es : List (Int × List Int)} {b : Int} {d : List Int} (h : ItsB es) (h1 : d.length ≤ 1000000) (h2 : BytesL d) : ItsB (es ++ [(b, d)]) := fun e he => by
 rcases List.mem_append.1 he with h3 | h3
 · exact h e h3
 simp at h3; subst h3; exact ⟨h1, h2⟩
theorem itpre_app {bl sz : Int} {it : List (Int × List Int)} {b : Int} {d : List Int} (h : ItPre bl sz it it.length) (hb : 0 ≤ b ∧ b < bl) (hs : (d.length : Int) = sz) (hn : ¬ ∃ e ∈ it, e.1 = b) : ItPre bl sz (it ++ [(b, d)]) (it.length + 1) := fun j hj => by
 rcases Nat.lt_or_ge j it.length with h1 | h1
 · have h2 := h j h1
   rw [show (it ++ [(b, d)]).getD j i0 = it.getD j i0 by simp [List.getD, List.getElem?_append, h1], List.take_append_of_le_length (by omega)]
   exact h2
 obtain rfl : j = it.length := by omega
 rw [show (it ++ [(b, d)]).getD it.length i0 = (b, d) by simp [List.getD], List.take_left]
 exact ⟨hb.1, hb.2, hs, hn⟩
theorem there_snoc {it : List (Int × List Int)} {j : Nat} {b yb : Int} {yd : List Int} {tb : Bool} (h : tb = true ↔ ∃ e ∈ it.take j, e.1 = b) (hit : it[j]? = some (yb, yd)) : (tb || decide (yb = b)) = true ↔ ∃ e ∈ it.take (j + 1), e.1 = b := by
 rw [take_snoc hit, Bool.or_eq_true, h, decide_eq_true_eq]
 constructor
 · rintro (⟨e, h1, h2⟩ | h1)
   · exact ⟨e, List.mem_append_left _ h1, h2⟩
   exact ⟨_, List.mem_append_right _ (List.mem_singleton.2 rfl), h1⟩
 rintro ⟨e, h1, h2⟩
 rcases List.mem_append.1 h1 with h3 | h3
 · exact .inl ⟨e, h3, h2⟩
 simp at h3; subst h3; exact .inr h2
set_option maxRecDepth 100000
set_option maxHeartbeats 4000000
theorem rshape_any (kd vo bl sz pe to at0 ix : Int) (place : List Int) (pp pi : Option Addr) (cp ni ci : Nat) (w0 : World) (h0 : Rd (fun _ => True) w0 (.slice pp place.length cp) (.ns .i64 place)) (hn : place.length ≤ 1000000) :
   Calls Tryz.prog 97 #[.agg #[.int .i64 kd, .int .i64 vo, .int .i64 bl, .int .i64 sz, .int .i64 pe, .slice pp place.length cp, .int .i64 to, .int .i64 at0, .int .i64 ix, .slice pi ni ci]] w0 fun e w' => ∃ b : Bool, e = .returned (.bool b) ∧ (b = true ↔ NewOk vo bl sz pe to place) ∧ Below w0.heap.size w0 w' := by
 refine ent1 Tryz.func97 rfl Tryz.ntmps97 fun Az Hz => ?_
 have m0 := MemOk.start (fun _ => False) w0
 refine zsr fun K0 hK0 => ?_
 refine plz (e_box Hz m0 20 (cs := [_, _, _, _, _, _, _, _, _, _]) rfl rfl rfl fun g1 Az w2 Hz m2 _ _ => ?_)
 refine gz hK0 Hz (.assign rfl .nil) fun Az Hz => ?_
 refine wsk fun K1 hK1 => ?_
 refine wsk fun K2 hK2 => ?_
 have m4 := m2.oz [20]
 refine region_p 61 (B := [(20, _)]) (m4.to ⟨il, trivial⟩) m4 (by kernel_rfl) (fun w5 hP5 m5 => ?_); clear m4
 refine goR hP5 [0, 1, 2, 3] [1] 4 0 15 Hz (m5.to ⟨il, trivial⟩) (.fa 1 rfl U38 <| .lb hh 20 U3 rfl rfl rfl <| .lss rfl rfl <| .move rfl .nil) fun Az Hz => ?_
 refine bc Hz 7 ?_ ?_
 ·
  intro hb10 Hz; try simp only [QQ, Qax] at hb10
  refine goA hP5 [4, 5, 6, 7, 8, 9, 10, 11, 12, 13, 14, 15, 16, 17, 18, 19, 20, 21, 22, 23, 24, 25, 26, 27, 28, 29, 30, 31, 32, 33, 34, 35, 36, 37, 38, 39, 40, 41, 42, 43, 44, 45, 46, 47, 48, 49, 50, 51, 52, 53, 54, 55, 56, 57, 58, 59, 60] 57 15 2305843009213693951 Hz (m5.to ⟨il, trivial⟩) (.s <| .s <| .s <| .pickT rfl rfl <| .move rfl <| .s <| .s <| .s <| .pickT rfl rfl <| .move rfl <| .s <| .s <| .s <| .pickT rfl rfl <| .move rfl <| .s <| .s <| .s <| .pickT rfl rfl <| .move rfl <| .s <| .s <| .s <| .pickT rfl rfl <| .move rfl <| .s <| .s <| .s <| .pickT rfl rfl <| .move rfl <| .s <| .s <| .s <| .s <| .s <| .pickT rfl rfl <| .move rfl <| .s <| .s <| .s <| .s <| .s <| .s <| .s <| .s <| .s <| .pickT rfl rfl <| .move rfl <| .s <| .s <| .s <| .pickT rfl rfl <| .move rfl <| .s <| .s <| .s <| .pickT rfl rfl .nil) fun Az Hz => ?_
  refine wpAnyE_done (by kernel_rfl) ?_ _
  refine hK2 _ _ ?_
  refine wct Hz ?_
  replace Hz := Hz.oz [1, 2]
  refine regS Hz (.assign rfl .nil) fun Az Hz => ?_
  refine rt1 Hz ?_
  exact ⟨false, rfl, iff_of_false (by simp) (fun h => by obtain ⟨h1, h2, h3, h4, h5, h6, h7, h8, ⟨h9, h10⟩, h11, h12⟩ := h; first | omega | (have h13 := h9 _ (getD_mem hk); omega)), m5.below⟩
 intro hb10 Hz; try simp only [QQ, Qax] at hb10
 refine goR hP5 [4, 5, 6, 7, 8] [5] 5 15 511 Hz (m5.to ⟨il, trivial⟩) (.fa 1 rfl U38 <| .lb hh 20 U3 rfl rfl rfl <| .geq rfl rfl <| .pickF rfl rfl <| .move rfl .nil) fun Az Hz => ?_
 refine bc Hz 12 ?_ ?_
 ·
  intro hb75 Hz; try simp only [QQ, Qax] at hb75
  refine goA hP5 [9, 10, 11, 12, 13, 14, 15, 16, 17, 18, 19, 20, 21, 22, 23, 24, 25, 26, 27, 28, 29, 30, 31, 32, 33, 34, 35, 36, 37, 38, 39, 40, 41, 42, 43, 44, 45, 46, 47, 48, 49, 50, 51, 52, 53, 54, 55, 56, 57, 58, 59, 60] 52 511 2305843009213693951 Hz (m5.to ⟨il, trivial⟩) (.s <| .s <| .s <| .pickT rfl rfl <| .move rfl <| .s <| .s <| .s <| .pickT rfl rfl <| .move rfl <| .s <| .s <| .s <| .pickT rfl rfl <| .move rfl <| .s <| .s <| .s <| .pickT rfl rfl <| .move rfl <| .s <| .s <| .s <| .pickT rfl rfl <| .move rfl <| .s <| .s <| .s <| .s <| .s <| .pickT rfl rfl <| .move rfl <| .s <| .s <| .s <| .s <| .s <| .s <| .s <| .s <| .s <| .pickT rfl rfl <| .move rfl <| .s <| .s <| .s <| .pickT rfl rfl <| .move rfl <| .s <| .s <| .s <| .pickT rfl rfl .nil) fun Az Hz => ?_
  refine wpAnyE_done (by kernel_rfl) ?_ _
  refine hK2 _ _ ?_
  refine wct Hz ?_
  replace Hz := Hz.oz [1, 2]
  refine regS Hz (.assign rfl .nil) fun Az Hz => ?_
  refine rt1 Hz ?_
  exact ⟨false, rfl, iff_of_false (by simp) (fun h => by obtain ⟨h1, h2, h3, h4, h5, h6, h7, h8, ⟨h9, h10⟩, h11, h12⟩ := h; first | omega | (have h13 := h9 _ (getD_mem hk); omega)), m5.below⟩
 intro hb75 Hz; try simp only [QQ, Qax] at hb75
 refine goR hP5 [9, 10, 11, 12, 13] [10] 5 511 16383 Hz (m5.to ⟨il, trivial⟩) (.fa 2 rfl U38 <| .lb hh 20 U3 rfl rfl rfl <| .lss rfl rfl <| .pickF rfl rfl <| .move rfl .nil) fun Az Hz => ?_
 refine bc Hz 17 ?_ ?_
 ·
  intro hb135 Hz; try simp only [QQ, Qax] at hb135
  refine goA hP5 [14, 15, 16, 17, 18, 19, 20, 21, 22, 23, 24, 25, 26, 27, 28, 29, 30, 31, 32, 33, 34, 35, 36, 37, 38, 39, 40, 41, 42, 43, 44, 45, 46, 47, 48, 49, 50, 51, 52, 53, 54, 55, 56, 57, 58, 59, 60] 47 16383 2305843009213693951 Hz (m5.to ⟨il, trivial⟩) (.s <| .s <| .s <| .pickT rfl rfl <| .move rfl <| .s <| .s <| .s <| .pickT rfl rfl <| .move rfl <| .s <| .s <| .s <| .pickT rfl rfl <| .move rfl <| .s <| .s <| .s <| .pickT rfl rfl <| .move rfl <| .s <| .s <| .s <| .s <| .s <| .pickT rfl rfl <| .move rfl <| .s <| .s <| .s <| .s <| .s <| .s <| .s <| .s <| .s <| .pickT rfl rfl <| .move rfl <| .s <| .s <| .s <| .pickT rfl rfl <| .move rfl <| .s <| .s <| .s <| .pickT rfl rfl .nil) fun Az Hz => ?_
  refine wpAnyE_done (by kernel_rfl) ?_ _
  refine hK2 _ _ ?_
  refine wct Hz ?_
  replace Hz := Hz.oz [1, 2]
  refine regS Hz (.assign rfl .nil) fun Az Hz => ?_
  refine rt1 Hz ?_
  exact ⟨false, rfl, iff_of_false (by simp) (fun h => by obtain ⟨h1, h2, h3, h4, h5, h6, h7, h8, ⟨h9, h10⟩, h11, h12⟩ := h; first | omega | (have h13 := h9 _ (getD_mem hk); omega)), m5.below⟩
 intro hb135 Hz; try simp only [QQ, Qax] at hb135
 refine goR hP5 [14, 15, 16, 17, 18] [15] 5 16383 524287 Hz (m5.to ⟨il, trivial⟩) (.fa 2 rfl U38 <| .lb hh 20 U3 rfl rfl rfl <| .gtr rfl rfl <| .pickF rfl rfl <| .move rfl .nil) fun Az Hz => ?_
 refine bc Hz 22 ?_ ?_
 ·
  intro hb190 Hz; try simp only [QQ, Qax] at hb190
  refine goA hP5 [19, 20, 21, 22, 23, 24, 25, 26, 27, 28, 29, 30, 31, 32, 33, 34, 35, 36, 37, 38, 39, 40, 41, 42, 43, 44, 45, 46, 47, 48, 49, 50, 51, 52, 53, 54, 55, 56, 57, 58, 59, 60] 42 524287 2305843009213693951 Hz (m5.to ⟨il, trivial⟩) (.s <| .s <| .s <| .pickT rfl rfl <| .move rfl <| .s <| .s <| .s <| .pickT rfl rfl <| .move rfl <| .s <| .s <| .s <| .pickT rfl rfl <| .move rfl <| .s <| .s <| .s <| .s <| .s <| .pickT rfl rfl <| .move rfl <| .s <| .s <| .s <| .s <| .s <| .s <| .s <| .s <| .s <| .pickT rfl rfl <| .move rfl <| .s <| .s <| .s <| .pickT rfl rfl <| .move rfl <| .s <| .s <| .s <| .pickT rfl rfl .nil) fun Az Hz => ?_
  refine wpAnyE_done (by kernel_rfl) ?_ _
  refine hK2 _ _ ?_
  refine wct Hz ?_
  replace Hz := Hz.oz [1, 2]
  refine regS Hz (.assign rfl .nil) fun Az Hz => ?_
  refine rt1 Hz ?_
  exact ⟨false, rfl, iff_of_false (by simp) (fun h => by obtain ⟨h1, h2, h3, h4, h5, h6, h7, h8, ⟨h9, h10⟩, h11, h12⟩ := h; first | omega | (have h13 := h9 _ (getD_mem hk); omega)), m5.below⟩
 intro hb190 Hz; try simp only [QQ, Qax] at hb190
 refine goR hP5 [19, 20, 21, 22, 23] [20] 5 524287 16777215 Hz (m5.to ⟨il, trivial⟩) (.fa 3 rfl U38 <| .lb hh 20 U3 rfl rfl rfl <| .lss rfl rfl <| .pickF rfl rfl <| .move rfl .nil) fun Az Hz => ?_
 refine bc Hz 27 ?_ ?_
 ·
  intro hb240 Hz; try simp only [QQ, Qax] at hb240
  refine goA hP5 [24, 25, 26, 27, 28, 29, 30, 31, 32, 33, 34, 35, 36, 37, 38, 39, 40, 41, 42, 43, 44, 45, 46, 47, 48, 49, 50, 51, 52, 53, 54, 55, 56, 57, 58, 59, 60] 37 16777215 2305843009213693951 Hz (m5.to ⟨il, trivial⟩) (.s <| .s <| .s <| .pickT rfl rfl <| .move rfl <| .s <| .s <| .s <| .pickT rfl rfl <| .move rfl <| .s <| .s <| .s <| .s <| .s <| .pickT rfl rfl <| .move rfl <| .s <| .s <| .s <| .s <| .s <| .s <| .s <| .s <| .s <| .pickT rfl rfl <| .move rfl <| .s <| .s <| .s <| .pickT rfl rfl <| .move rfl <| .s <| .s <| .s <| .pickT rfl rfl .nil) fun Az Hz => ?_
  refine wpAnyE_done (by kernel_rfl) ?_ _
  refine hK2 _ _ ?_
  refine wct Hz ?_
  replace Hz := Hz.oz [1, 2]
  refine regS Hz (.assign rfl .nil) fun Az Hz => ?_
  refine rt1 Hz ?_
  exact ⟨false, rfl, iff_of_false (by simp) (fun h => by obtain ⟨h1, h2, h3, h4, h5, h6, h7, h8, ⟨h9, h10⟩, h11, h12⟩ := h; first | omega | (have h13 := h9 _ (getD_mem hk); omega)), m5.below⟩
 intro hb240 Hz; try simp only [QQ, Qax] at hb240
 refine goR hP5 [24, 25, 26, 27, 28] [25] 5 16777215 536870911 Hz (m5.to ⟨il, trivial⟩) (.fa 3 rfl U38 <| .lb hh 20 U3 rfl rfl rfl <| .gtr rfl rfl <| .pickF rfl rfl <| .move rfl .nil) fun Az Hz => ?_
 refine bc Hz 32 ?_ ?_
 ·
  intro hb285 Hz; try simp only [QQ, Qax] at hb285
  refine goA hP5 [29, 30, 31, 32, 33, 34, 35, 36, 37, 38, 39, 40, 41, 42, 43, 44, 45, 46, 47, 48, 49, 50, 51, 52, 53, 54, 55, 56, 57, 58, 59, 60] 32 536870911 2305843009213693951 Hz (m5.to ⟨il, trivial⟩) (.s <| .s <| .s <| .pickT rfl rfl <| .move rfl <| .s <| .s <| .s <| .s <| .s <| .pickT rfl rfl <| .move rfl <| .s <| .s <| .s <| .s <| .s <| .s <| .s <| .s <| .s <| .pickT rfl rfl <| .move rfl <| .s <| .s <| .s <| .pickT rfl rfl <| .move rfl <| .s <| .s <| .s <| .pickT rfl rfl .nil) fun Az Hz => ?_
  refine wpAnyE_done (by kernel_rfl) ?_ _
  refine hK2 _ _ ?_
  refine wct Hz ?_
  replace Hz := Hz.oz [1, 2]
  refine regS Hz (.assign rfl .nil) fun Az Hz => ?_
  refine rt1 Hz ?_
  exact ⟨false, rfl, iff_of_false (by simp) (fun h => by obtain ⟨h1, h2, h3, h4, h5, h6, h7, h8, ⟨h9, h10⟩, h11, h12⟩ := h; first | omega | (have h13 := h9 _ (getD_mem hk); omega)), m5.below⟩
 intro hb285 Hz; try simp only [QQ, Qax] at hb285
 refine goR hP5 [29, 30, 31, 32, 33] [30] 5 536870911 17179869183 Hz (m5.to ⟨il, trivial⟩) (.fa 4 rfl U38 <| .lb hh 20 U3 rfl rfl rfl <| .lss rfl rfl <| .pickF rfl rfl <| .move rfl .nil) fun Az Hz => ?_
 refine bc Hz 37 ?_ ?_
 ·
  intro hb325 Hz; try simp only [QQ, Qax] at hb325
  refine goA hP5 [34, 35, 36, 37, 38, 39, 40, 41, 42, 43, 44, 45, 46, 47, 48, 49, 50, 51, 52, 53, 54, 55, 56, 57, 58, 59, 60] 27 17179869183 2305843009213693951 Hz (m5.to ⟨il, trivial⟩) (.s <| .s <| .s <| .s <| .s <| .pickT rfl rfl <| .move rfl <| .s <| .s <| .s <| .s <| .s <| .s <| .s <| .s <| .s <| .pickT rfl rfl <| .move rfl <| .s <| .s <| .s <| .pickT rfl rfl <| .move rfl <| .s <| .s <| .s <| .pickT rfl rfl .nil) fun Az Hz => ?_
  refine wpAnyE_done (by kernel_rfl) ?_ _
  refine hK2 _ _ ?_
  refine wct Hz ?_
  replace Hz := Hz.oz [1, 2]
  refine regS Hz (.assign rfl .nil) fun Az Hz => ?_
  refine rt1 Hz ?_
  exact ⟨false, rfl, iff_of_false (by simp) (fun h => by obtain ⟨h1, h2, h3, h4, h5, h6, h7, h8, ⟨h9, h10⟩, h11, h12⟩ := h; first | omega | (have h13 := h9 _ (getD_mem hk); omega)), m5.below⟩
 intro hb325 Hz; try simp only [QQ, Qax] at hb325
 refine goR hP5 [34, 35, 36, 37, 38, 39, 40] [35, 37] 7 17179869183 2199023255551 Hz (m5.to ⟨il, trivial⟩) (.fa 4 rfl U38 <| .lb hh 20 U3 rfl rfl rfl <| .fa 2 rfl U38 <| .lb hh 20 U3 rfl rfl rfl <| .gtr rfl rfl <| .pickF rfl rfl <| .move rfl .nil) fun Az Hz => ?_
 refine bc Hz 44 ?_ ?_
 ·
  intro hb362 Hz; try simp only [QQ, Qax] at hb362
  refine goA hP5 [41, 42, 43, 44, 45, 46, 47, 48, 49, 50, 51, 52, 53, 54, 55, 56, 57, 58, 59, 60] 20 2199023255551 2305843009213693951 Hz (m5.to ⟨il, trivial⟩) (.s <| .s <| .s <| .s <| .s <| .s <| .s <| .s <| .s <| .pickT rfl rfl <| .move rfl <| .s <| .s <| .s <| .pickT rfl rfl <| .move rfl <| .s <| .s <| .s <| .pickT rfl rfl .nil) fun Az Hz => ?_
  refine wpAnyE_done (by kernel_rfl) ?_ _
  refine hK2 _ _ ?_
  refine wct Hz ?_
  replace Hz := Hz.oz [1, 2]
  refine regS Hz (.assign rfl .nil) fun Az Hz => ?_
  refine rt1 Hz ?_
  exact ⟨false, rfl, iff_of_false (by simp) (fun h => by obtain ⟨h1, h2, h3, h4, h5, h6, h7, h8, ⟨h9, h10⟩, h11, h12⟩ := h; first | omega | (have h13 := h9 _ (getD_mem hk); omega)), m5.below⟩
 intro hb362 Hz; try simp only [QQ, Qax] at hb362
 refine goR hP5 [41, 42, 43, 44, 45, 46, 47] [42, 45, 47] 7 2199023255551 281474976710655 Hz (m5.to ⟨il, trivial⟩) (.fa 5 rfl U38 <| .lb hh 20 U35 rfl rfl rfl <| .len rfl U35 <| .fa 2 rfl U38 <| .lb hh 20 U3 rfl rfl rfl <| .fa 4 rfl U38 <| .lb hh 20 U3 rfl rfl rfl .nil) fun Az Hz => ?_
 refine stepE_only 48 rfl (by kernel_rfl) (wantedG Hz rfl rfl rfl rfl) (fun K hK => ?_)
 refine e_call Hz Tryz.func91 rfl rfl rfl rfl (chunks_any bl pe _ (by omega) (by omega)) ?_
 rintro e w392 ⟨rfl, hb392⟩
 have m393 := m5.later hb392
 refine ⟨_, rfl, ?_⟩; intro Az Hz
 refine hK _ _ (m393.to ⟨il, trivial⟩) ?_; clear hK K
 refine goA hP5 [49, 50, 51] 3 562949953421311 4503599627370495 Hz (m393.to ⟨il, trivial⟩) (.neq rfl rfl <| .pickF rfl rfl <| .move rfl .nil) fun Az Hz => ?_
 refine bc Hz 55 ?_ ?_
 ·
  intro hb398 Hz; try simp only [QQ, Qax] at hb398
  refine goA hP5 [52, 53, 54, 55, 56, 57, 58, 59, 60] 9 4503599627370495 2305843009213693951 Hz (m393.to ⟨il, trivial⟩) (.s <| .s <| .s <| .pickT rfl rfl <| .move rfl <| .s <| .s <| .s <| .pickT rfl rfl .nil) fun Az Hz => ?_
  refine wpAnyE_done (by kernel_rfl) ?_ _
  refine hK2 _ _ ?_
  refine wct Hz ?_
  replace Hz := Hz.oz [1, 2]
  refine regS Hz (.assign rfl .nil) fun Az Hz => ?_
  refine rt1 Hz ?_
  exact ⟨false, rfl, iff_of_false (by simp) (fun h => by obtain ⟨h1, h2, h3, h4, h5, h6, h7, h8, ⟨h9, h10⟩, h11, h12⟩ := h; first | omega | (have h13 := h9 _ (getD_mem hk); omega)), m393.below⟩
 intro hb398 Hz; try simp only [QQ, Qax] at hb398
 refine goR hP5 [52, 53, 54, 55, 56] [53] 5 4503599627370495 144115188075855871 Hz (m393.to ⟨il, trivial⟩) (.fa 6 rfl U38 <| .lb hh 20 U3 rfl rfl rfl <| .lss rfl rfl <| .pickF rfl rfl <| .move rfl .nil) fun Az Hz => ?_
 refine bc Hz 60 ?_ ?_
 ·
  intro hb415 Hz; try simp only [QQ, Qax] at hb415
  refine goA hP5 [57, 58, 59, 60] 4 144115188075855871 2305843009213693951 Hz (m393.to ⟨il, trivial⟩) (.s <| .s <| .s <| .pickT rfl rfl .nil) fun Az Hz => ?_
  refine wpAnyE_done (by kernel_rfl) ?_ _
  refine hK2 _ _ ?_
  refine wct Hz ?_
  replace Hz := Hz.oz [1, 2]
  refine regS Hz (.assign rfl .nil) fun Az Hz => ?_
  refine rt1 Hz ?_
  exact ⟨false, rfl, iff_of_false (by simp) (fun h => by obtain ⟨h1, h2, h3, h4, h5, h6, h7, h8, ⟨h9, h10⟩, h11, h12⟩ := h; first | omega | (have h13 := h9 _ (getD_mem hk); omega)), m393.below⟩
 intro hb415 Hz; try simp only [QQ, Qax] at hb415
 refine goR hP5 [57, 58, 59, 60] [58] 4 144115188075855871 2305843009213693951 Hz (m393.to ⟨il, trivial⟩) (.fa 6 rfl U38 <| .lb hh 20 U3 rfl rfl rfl <| .gtr rfl rfl <| .pickF rfl rfl .nil) fun Az Hz => ?_
 refine wpAnyE_done (by kernel_rfl) ?_ _
 refine hK2 _ _ ?_
 refine bc Hz 64 ?_ ?_
 ·
  intro hb426 Hz; try simp only [QQ, Qax] at hb426
  refine wct Hz ?_
  replace Hz := Hz.oz [1, 2]
  refine regS Hz (.assign rfl .nil) fun Az Hz => ?_
  refine rt1 Hz ?_
  exact ⟨false, rfl, iff_of_false (by simp) (fun h => by obtain ⟨h1, h2, h3, h4, h5, h6, h7, h8, ⟨h9, h10⟩, h11, h12⟩ := h; first | omega | (have h13 := h9 _ (getD_mem hk); omega)), m393.below⟩
 intro hb426 Hz; try simp only [QQ, Qax] at hb426
 refine wcf Hz ?_
 refine zss (hK1 _ _ ?_)
 refine wsk fun K3 hK3 => ?_
 replace Hz := Hz.oz [1, 2]
 refine regS Hz (.assign rfl .nil) fun Az Hz => ?_
 refine wp_block ?_
 refine wp_loop_ghost (fun g a w => ∃ (k B : Nat), k ≤ place.length ∧ g = place.length - k ∧ (∀ j, j < k → 1 ≤ place.getD j 0 ∧ place.getD j 0 ≤ 7) ∧ Has 86 [(1, .pointer (some ⟨B, 0, none⟩)), (3, .int .i64 k)] a ∧ MemOk (cn w0) w0 [(9, .box B 38 [.int .i64 kd, .int .i64 vo, .int .i64 bl, .int .i64 sz, .int .i64 pe, .slice pp place.length cp, .int .i64 to, .int .i64 at0, .int .i64 ix, .slice pi ni ci])] w) (place.length) ?_ ?_
 · exact ⟨0, _, Nat.zero_le _, rfl, (fun j hj => by omega), Hz.only [1, 3], m393.ren [(9, 20)] (by decide)⟩
 clear Hz m393
 rintro g Az w431 ⟨k, B, hkl, hg, hall, Hz, m431⟩
 refine wsk fun K4 hK4 => ?_
 refine regS Hz (.move rfl <| .fa 5 rfl U38 <| .lb m431 9 U35 rfl rfl rfl <| .len rfl U35 <| .lss rfl rfl .nil) fun Az Hz => ?_
 refine bc Hz 69 ?_ ?_
 ·
  intro hb437 Hz; try simp only [QQ, Qax] at hb437
  have hk : k < place.length := by omega
  refine wct Hz ?_
  refine zss (hK4 _ _ ?_)
  refine wsk fun K5 hK5 => ?_
  refine wp_block ?_
  refine zsr fun K6 hK6 => ?_
  refine goCh Hz (.fa 5 rfl U38 <| .lb m431 9 U35 rfl rfl rfl <| .move rfl .nil) fun Az Hz => ?_
  obtain ⟨gx445, ox445, hp445, hl445, hrg445⟩ := h0.extN (k) hk
  revert Hz
  cases hp445
  intro Hz
  refine goCh Hz (.c rfl (fun _ h_ => y_idx h_ rfl rfl U35 fct15 (k) rfl hk) <| .loadAt1 (hrg445 m431 rfl) (q := 0) rfl rfl rfl U3 rfl <| .lss rfl rfl <| .move rfl .nil) fun Az Hz => ?_
  refine bc Hz 78 ?_ ?_
  ·
   intro hb450 Hz; try simp only [QQ, Qax] at hb450
   refine gz hK6 Hz (.sk <| .sk <| .sk <| .sk <| .sk <| .sk <| .pickT rfl rfl <| .nil) fun Az Hz => ?_
   refine wct Hz ?_
   replace Hz := Hz.oz [1, 3]
   refine regS Hz (.assign rfl .nil) fun Az Hz => ?_
   refine rt1 Hz ?_
   exact ⟨false, rfl, iff_of_false (by simp) (fun h => by obtain ⟨h1, h2, h3, h4, h5, h6, h7, h8, ⟨h9, h10⟩, h11, h12⟩ := h; first | omega | (have h13 := h9 _ (getD_mem hk); omega)), m431.below⟩
  intro hb450 Hz; try simp only [QQ, Qax] at hb450
  refine goCh Hz (.faZ 5 rfl U38 <| .loadB1Z m431 (i := 9) rfl rfl rfl U35 rfl <| .moveZ rfl .nil) fun Az Hz => ?_
  obtain ⟨gx463, ox463, hp463, hl463, hrg463⟩ := h0.extN (k) hk
  revert Hz
  cases hp463
  intro Hz
  refine gz hK6 Hz (.g rfl rfl rfl rfl (fun _ h_ => y_idx h_ rfl rfl U35 fct15 (k) rfl hk) <| .loadAt1Z (hrg463 m431 rfl) (q := 0) rfl rfl rfl U3 rfl <| .geqZ rfl rfl <| .pickF rfl rfl <| .nil) fun Az Hz => ?_
  refine bc Hz 85 ?_ ?_
  ·
   intro hb468 Hz; try simp only [QQ, Qax] at hb468
   refine wct Hz ?_
   replace Hz := Hz.oz [1, 3]
   refine regS Hz (.assign rfl .nil) fun Az Hz => ?_
   refine rt1 Hz ?_
   exact ⟨false, rfl, iff_of_false (by simp) (fun h => by obtain ⟨h1, h2, h3, h4, h5, h6, h7, h8, ⟨h9, h10⟩, h11, h12⟩ := h; first | omega | (have h13 := h9 _ (getD_mem hk); omega)), m431.below⟩
  intro hb468 Hz; try simp only [QQ, Qax] at hb468
  refine wcf Hz ?_
  refine zss (hK5 _ _ ?_)
  replace Hz := Hz.oz [1, 3]
  refine wp_region_lit ?_
  refine goCh Hz (.move rfl <| .inc (k + 1) <| .assign rfl .nil) fun Az Hz => ?_
  refine wpList_nil ?_
  show ∃ n', n' < _ ∧ _
  exact ⟨place.length - (k + 1), by omega, k + 1, _, by omega, rfl, (all_snoc (P := fun x => 1 ≤ x ∧ x ≤ 7) hall (by omega)), Hz.only [1, 3], m431.only [9]⟩
 intro hb437 Hz; try simp only [QQ, Qax] at hb437
 revert Hz
 obtain rfl : k = place.length := by omega
 intro Hz
 refine wcf Hz ?_
 refine wp_exit ?_
 refine hK3 _ _ ?_
 refine regS Hz (.assign rfl .nil) fun Az Hz => ?_
 refine rt1 Hz ?_
 exact ⟨true, rfl, iff_of_true rfl ⟨by omega, by omega, by omega, by omega, by omega, by omega, by omega, by omega, ⟨fun g hg9 => all_mem (P := fun x => 1 ≤ x ∧ x ≤ 7) hall g hg9, by omega⟩, by omega, by omega⟩, m431.below⟩
theorem rnew_any (kd vo bl sz pe to at0 ix : Int) (place : List Int) (pp pi : Option Addr) (cp ni ci : Nat) (w0 : World) (h0 : Rd (fun _ => True) w0 (.slice pp place.length cp) (.ns .i64 place)) (hn : place.length ≤ 1000000) :
   Calls Tryz.prog 50 #[.agg #[.int .i64 kd, .int .i64 vo, .int .i64 bl, .int .i64 sz, .int .i64 pe, .slice pp place.length cp, .int .i64 to, .int .i64 at0, .int .i64 ix, .slice pi ni ci]] w0 fun e w' => (NewOk vo bl sz pe to place ∧ ∃ p c, e = .returned (.tuple #[.agg #[.int .i64 vo, .int .i64 bl, .int .i64 sz, .int .i64 pe, .slice p place.length c, .int .i64 to, .int .i64 0, .bool (decide (0 < to)), .int .i64 0, .slice none 0 0, .slice none 0 0], .int .i64 0]) ∧ Rd (New w0) w' (.slice p place.length c) (.ns .i64 place) ∧ Below w0.heap.size w0 w') ∨ (¬ NewOk vo bl sz pe to place ∧ e = .returned (.tuple #[.agg #[.int .i64 0, .int .i64 0, .int .i64 0, .int .i64 0, .slice none 0 0, .int .i64 0, .int .i64 0, .bool false, .int .i64 0, .slice none 0 0, .slice none 0 0], .int .i64 23]) ∧ Below w0.heap.size w0 w') := by
 refine ent1 Tryz.func50 rfl Tryz.ntmps50 fun Az Hz => ?_
 have m0 := MemOk.start (fun _ => False) w0
 refine zsr fun K0 hK0 => ?_
 refine plz (e_box Hz m0 20 (cs := [_, _, _, _, _, _, _, _, _, _]) rfl rfl rfl fun g1 Az w2 Hz m2 _ _ => ?_)
 refine plz (e_alloc Hz m2 21 fct14 rfl fun g3 Az w4 Hz m4 _ _ => ?_)
 refine gz hK0 Hz (.assign rfl .nil) fun Az Hz => ?_
 refine wsk fun K1 hK1 => ?_
 refine zsr fun K2 hK2 => ?_
 refine goCh Hz (.loadBR m4 (i := 20) rfl rfl U38 rfl fct19 (by simp) (by dsimp only [List.drop, List.take] <;> rfl) .nil) fun Az Hz => ?_
 refine plz (ecl Hz Tryz.func97 rfl (rshape_any _ _ _ _ _ _ _ _ place _ _ _ _ _ _ ((h0.now' m4 rfl).any) hn) ?_)
 rintro e w8 ⟨sb, rfl, hsb, hb8⟩
 have m9 := m4.later hb8
 refine ⟨_, rfl, ?_⟩; intro Az Hz
 refine gz hK2 Hz (.not rfl .nil) fun Az Hz => ?_
 refine bc Hz 6 ?_ ?_
 ·
  intro hb12 Hz; try simp only [QQ, Qax] at hb12
  refine wct Hz ?_
  refine zsr fun K3 hK3 => ?_
  refine goCh Hz (.build rfl fct14 fl51rn rfl (by dsimp only [setL, List.set] <;> rfl) .nil) fun Az Hz => ?_
  refine plz (stw Hz m9 21 fct13 fun w15 m15 _ => ?_)
  refine gz hK3 Hz (.assign rfl .nil) fun Az Hz => ?_
  refine rtd (retCT (fn := Tryz.f50) Hz m15 (i := 21) rfl rfl rfl rfl U51 rfl fct13 ?_)
  exact .inr ⟨fun h => by have h12 := hsb.2 h; simp_all, rfl, m15.below⟩
 intro hb12 Hz; try simp only [QQ, Qax] at hb12
 refine wcf Hz ?_
 refine zss (hK1 _ _ ?_)
 refine wsk fun K4 hK4 => ?_
 have m17 := m9.oz [20, 21]
 refine region_p 19 (B := [(20, _)]) (m17.to ⟨il, trivial⟩) m17 (by kernel_rfl) (fun w18 hP18 m18 => ?_); clear m17
 refine goR hP18 [0, 1, 2, 3, 4, 5, 6, 7, 8, 9, 11, 12, 13, 14, 15] [1, 3, 5, 7, 9, 12, 14] 15 0 64511 Hz (m18.to ⟨il, trivial⟩) (.fa 1 rfl U38 <| .lb hh 20 U3 rfl rfl rfl <| .fa 2 rfl U38 <| .lb hh 20 U3 rfl rfl rfl <| .fa 3 rfl U38 <| .lb hh 20 U3 rfl rfl rfl <| .fa 4 rfl U38 <| .lb hh 20 U3 rfl rfl rfl <| .fa 5 rfl U38 <| .lb hh 20 U35 rfl rfl rfl <| .fa 6 rfl U38 <| .lb hh 20 U3 rfl rfl rfl <| .fa 6 rfl U38 <| .lb hh 20 U3 rfl rfl rfl <| .gtr rfl rfl .nil) fun Az Hz => ?_
 refine so 10 ?_
 refine e_app0N Hz m18 22 rfl rfl (h0.now' m18 rfl).ns_out.nums U35 fct17 (by decide) (by omega) rfl fun p34 c34 Az w35 Hz m35 => ?_
 refine ⟨m35.to ⟨il, trivial⟩, ?_⟩
 refine goA hP18 [16] 1 65535 131071 Hz (m35.to ⟨il, trivial⟩) (.build rfl fct14 fl51rn rfl (by dsimp only [setL, List.set] <;> rfl) .nil) fun Az Hz => ?_
 refine so 17 ?_
 refine stw Hz m35 21 fct13 fun w37 m37 _ => ?_
 refine ⟨m37.to ⟨il, trivial⟩, ?_⟩
 refine goA hP18 [18] 1 262143 524287 Hz (m37.to ⟨il, trivial⟩) (.assign rfl .nil) fun Az Hz => ?_
 refine wpAnyE_done (by kernel_rfl) ?_ _
 refine hK4 _ _ ?_
 refine rtd (retCT (fn := Tryz.f50) Hz m37 (i := 21) rfl rfl rfl rfl U51 rfl fct13 ?_)
 have m39 := m37.freezeN 22 rfl
 exact .inl ⟨hsb.1 (by simp_all), _, _, rfl, m39.outF (i := 22) rfl, m39.below⟩
theorem rnew_yes (kd vo bl sz pe to at0 ix : Int) (place : List Int) (pp pi : Option Addr) (cp ni ci : Nat) (w0 : World) (h0 : Rd (fun _ => True) w0 (.slice pp place.length cp) (.ns .i64 place)) (hn : place.length ≤ 1000000) (hN : NewOk vo bl sz pe to place) :
   Calls Tryz.prog 50 #[.agg #[.int .i64 kd, .int .i64 vo, .int .i64 bl, .int .i64 sz, .int .i64 pe, .slice pp place.length cp, .int .i64 to, .int .i64 at0, .int .i64 ix, .slice pi ni ci]] w0 fun e w' => ∃ p c, e = .returned (.tuple #[.agg #[.int .i64 vo, .int .i64 bl, .int .i64 sz, .int .i64 pe, .slice p place.length c, .int .i64 to, .int .i64 0, .bool (decide (0 < to)), .int .i64 0, .slice none 0 0, .slice none 0 0], .int .i64 0]) ∧ Rd (New w0) w' (.slice p place.length c) (.ns .i64 place) ∧ Below w0.heap.size w0 w' :=
 (rnew_any kd vo bl sz pe to at0 ix place pp pi cp ni ci w0 h0 hn).mono (fun _ _ h => h.elim (fun h => h.2) (fun h => absurd hN h.1))
theorem data_any (n : Nat) (b : Int) (w0 : World) (hn : n ≤ 1000000) (hb : 0 ≤ b ∧ b ≤ 255) :
   Calls Tryz.prog 131 #[.int .i64 (n : Int), .int .u8 b] w0 fun e w' => ∃ (d : List Int) (p : Option Addr) (c : Nat), e = .returned (.slice p n c) ∧ d.length = n ∧ BytesL d ∧ Rd (New w0) w' (.slice p n c) (.ns .u8 d) ∧ Below w0.heap.size w0 w' := by
 refine ent2 Tryz.func131 rfl Tryz.ntmps131 fun Az Hz => ?_
 have m0 := MemOk.start (fun _ => False) w0
 refine regS Hz (.assign rfl .nil) fun Az Hz => ?_
 refine regS Hz (.assign rfl .nil) fun Az Hz => ?_
 refine wsk fun K0 hK0 => ?_
 refine regS Hz (.assign rfl .nil) fun Az Hz => ?_
 refine wp_block ?_
 refine wp_loop_ghost (fun g a w => ∃ (k : Nat) (d : List Int) (p : Option Addr) (c : Nat), k ≤ n ∧ g = n - k ∧ d.length = k ∧ BytesL d ∧ Has 21 [(0, .int .i64 (n : Int)), (1, .int .u8 b), (5, .slice p d.length c), (6, .int .i64 k)] a ∧ MemOk (cn w0) w0 [(9, .num (.slice p d.length c) 5 .u8 d)] w) (n) ?_ ?_
 · have mz := m0.nilN 9 5 .u8
   exact ⟨0, [], _, _, Nat.zero_le _, rfl, rfl, (fun _ h => by cases h), Hz.only [0, 1, 5, 6], mz.only [9]⟩
 clear Hz m0
 rintro g Az w4 ⟨k, d, p, c, hkl, hg, hdl, hdb, Hz, m4⟩
 refine wsk fun K1 hK1 => ?_
 refine regS Hz (.move rfl <| .move rfl <| .lss rfl rfl .nil) fun Az Hz => ?_
 refine bc Hz 9 ?_ ?_
 ·
  intro hb8 Hz; try simp only [QQ, Qax] at hb8
  have hk : k < n := by omega
  obtain ⟨z, hz, hzb⟩ : ∃ z, IntKind.u8.wrap (b + IntKind.u8.wrap (IntKind.u8.wrap (k : Int) * 7)) = z ∧ 0 ≤ z ∧ z ≤ 255 := ⟨_, rfl, wrap_u8 _⟩
  refine wct Hz ?_
  refine zss (hK1 _ _ ?_)
  refine wsk fun K2 hK2 => ?_
  refine wp_block ?_
  refine wp_region_lit ?_
  refine goCh Hz (.move rfl <| .move rfl <| .move rfl <| .conv rfl U3 U5 rfl <| .mul rfl rfl rfl <| .add rfl rfl (r := z) hz .nil) fun Az Hz => ?_
  refine plz (e_litN Hz m4 100 (k := .u8) rfl rfl U22 fct0 rfl rfl rfl rfl fun g15 Az w16 Hz m16 => ?_)
  refine plz (e_appN Hz m16 9 rfl rfl rfl (m16.numsO (i := 100) rfl) U22 fct0 (by decide) (by simp; omega) rfl fun p17 c17 Az w18 Hz m18 => ?_)
  refine gz hK2 Hz (.assign rfl .nil) fun Az Hz => ?_
  replace Hz := Hz.oz [0, 1, 5, 6]
  refine wp_region_lit ?_
  refine goCh Hz (.move rfl <| .inc (k + 1) <| .assign rfl .nil) fun Az Hz => ?_
  refine wpList_nil ?_
  show ∃ n', n' < _ ∧ _
  exact ⟨n - (k + 1), by omega, k + 1, d ++ [z], _, _, by omega, rfl, by simp [hdl], bytes_snoc hdb hzb, Hz.only [0, 1, 5, 6], m18.only [9]⟩
 intro hb8 Hz; try simp only [QQ, Qax] at hb8
 revert Hz
 obtain rfl : k = n := by omega
 intro Hz
 refine wcf Hz ?_
 refine wp_exit ?_
 refine hK0 _ _ ?_
 refine regS Hz (.move rfl <| .assign rfl .nil) fun Az Hz => ?_
 refine rt1 Hz ?_
 have m26 := m4.freezeN 9 rfl
 exact ⟨_, _, _, by rw [hdl], hdl, hdb, by rw [← hdl]; exact m26.outF (i := 9) rfl, m26.below⟩
theorem sitem_any (bl : Int) (z : Nat) (l : List Int) (pl : Option Addr) (cl : Nat) (w0 : World) (h0 : Rd (fun _ => True) w0 (.slice pl l.length cl) (.ns .u8 l)) (hl : l.length ≤ 1000000) (hlb : ∀ j, j < l.length → 0 ≤ l.getD j 0 ∧ l.getD j 0 ≤ 255) (hz : z ≤ 1000) :
   Calls Tryz.prog 90 #[.int .i64 bl, .int .i64 (z : Int), .slice pl l.length cl] w0 fun e w' => ∃ (it : List (Int × List Int)) (p : Option Addr) (c : Nat), e = .returned (.slice p it.length c) ∧ it.length ≤ 8 ∧ ItPre (max bl 1) z it it.length ∧ ItsB it ∧ (l ≠ [] → 1 ≤ it.length) ∧ Rd (New w0) w' (.slice p it.length c) (.l 2 (it.map itD)) ∧ Below w0.heap.size w0 w' := by
 refine ent3 Tryz.func90 rfl Tryz.ntmps90 fun Az Hz => ?_
 have m0 := MemOk.start (fun _ => False) w0
 obtain ⟨bb, hbb⟩ : ∃ x : Int, max bl 1 = x := ⟨_, rfl⟩
 refine regS Hz (.assign rfl .nil) fun Az Hz => ?_
 refine regS Hz (.assign rfl .nil) fun Az Hz => ?_
 refine wsk fun K0 hK0 => ?_
 refine regS Hz (.assign rfl .nil) fun Az Hz => ?_
 refine wp_block ?_
 refine wp_loop_ghost (fun g a w => ∃ (k : Nat) (it : List (Int × List Int)) (p : Option Addr) (c : Nat), k ≤ l.length ∧ g = l.length - k ∧ it.length ≤ 8 ∧ ItPre bb z it it.length ∧ ItsB it ∧ (0 < k → 1 ≤ it.length) ∧ Has 61 [(0, .int .i64 bl), (1, .int .i64 (z : Int)), (2, .slice pl l.length cl), (7, .slice p (it.map itD).length c), (8, .int .i64 k)] a ∧ MemOk (cn w0) w0 [(9, .seg (.slice p (it.map itD).length c) 59 2 (it.map itD))] w) (l.length) ?_ ?_
 · have mz := (m0.nilR 9 59 2).rowS 9 rfl
   exact ⟨0, [], _, _, Nat.zero_le _, rfl, by simp, (fun j hj => by simp at hj), (fun _ h => by cases h), (fun h => by omega), Hz.only [0, 1, 2, 7, 8], mz.only [9]⟩
 clear Hz m0
 rintro g Az w4 ⟨k, it, p, c, hkl, hg, hit8, hpre, hitb, hne, Hz, m4⟩
 refine wsk fun K1 hK1 => ?_
 refine zsr fun K2 hK2 => ?_
 refine goCh Hz (.move rfl <| .move rfl <| .len rfl U22 <| .lss rfl rfl <| .move rfl .nil) fun Az Hz => ?_
 refine bc Hz 16 ?_ ?_
 ·
  intro hb15 Hz; try simp only [QQ, Qax] at hb15
  have hk : k < l.length := by omega
  have hx := hlb k hk
  obtain ⟨b9, hb9e, hb9⟩ : ∃ x : Int, (l.getD k 0).tmod bb = x ∧ (0 ≤ x ∧ x < bb) := ⟨_, rfl, by rw [Int.tmod_eq_emod_of_nonneg (by omega)]; exact Int.emod_nonneg _ (by omega), by rw [Int.tmod_eq_emod_of_nonneg (by omega)]; exact Int.emod_lt_of_pos _ (by omega)⟩
  refine gz hK2 Hz (.moveZ rfl <| .lenZ rfl U36 <| .lssZ rfl rfl <| .pickT rfl rfl <| .nil) fun Az Hz => ?_
  refine bc Hz 20 ?_ ?_
  ·
   intro hb20 Hz; try simp only [QQ, Qax] at hb20
   rw [List.length_map] at hb20
   refine wct Hz ?_
   refine zss (hK1 _ _ ?_)
   refine wsk fun K3 hK3 => ?_
   refine wp_block ?_
   replace Hz := Hz.oz [0, 1, 2, 7, 8]
   refine zsr fun K4 hK4 => ?_
   refine goCh Hz (.move rfl <| .move rfl .nil) fun Az Hz => ?_
   obtain ⟨gx27, ox27, hp27, hl27, hrg27⟩ := h0.extN (k) hk
   revert Hz
   cases hp27
   intro Hz
   refine gz hK4 Hz (.c rfl (fun _ h_ => y_idx h_ rfl rfl U22 fct23 (k) rfl hk) <| .loadAt1 (hrg27 m4 rfl) (q := 0) rfl rfl rfl U5 rfl <| .conv rfl U5 U3 (r := l.getD k 0) (IntWalk.i64_in _ (by omega)) <| .move rfl <| .c rfl (fun _ h_ => y_max h_ rfl rfl (r := bb) hbb) <| .rem rfl rfl (by omega) (r := b9) hb9e <| .assign rfl <| .nil) fun Az Hz => ?_
   replace Hz := Hz.oz [0, 1, 2, 7, 8, 9]
   refine regS Hz (.assign rfl .nil) fun Az Hz => ?_
   refine wsk fun K5 hK5 => ?_
   refine regS Hz (.assign rfl .nil) fun Az Hz => ?_
   refine wp_block ?_
   refine wp_loop_ghost (fun g a w => ∃ (j : Nat) (tb : Bool) (p : Option Addr) (c : Nat), j ≤ it.length ∧ g = it.length - j ∧ (tb = true ↔ ∃ e ∈ it.take j, e.1 = b9) ∧ Has 61 [(0, .int .i64 bl), (1, .int .i64 (z : Int)), (2, .slice (some ⟨gx27, ox27, none⟩) l.length cl), (7, .slice p (it.map itD).length c), (8, .int .i64 k), (9, .int .i64 b9), (10, .bool tb), (11, .int .i64 j)] a ∧ MemOk (cn w0) w0 [(9, .seg (.slice p (it.map itD).length c) 59 2 (it.map itD))] w) (it.length) ?_ ?_
   · exact ⟨0, false, _, _, Nat.zero_le _, rfl, by simp, Hz.only [0, 1, 2, 7, 8, 9, 10, 11], m4.only [9]⟩
   clear Hz m4
   rintro g Az w38 ⟨j, tb, p, c, hjl, hg2, htb, Hz, m38⟩
   refine wsk fun K6 hK6 => ?_
   refine regS Hz (.move rfl <| .move rfl <| .len rfl U36 <| .lss rfl rfl .nil) fun Az Hz => ?_
   refine bc Hz 34 ?_ ?_
   ·
    intro hb43 Hz; try simp only [QQ, Qax] at hb43
    rw [List.length_map] at hb43
    have hj : j < it.length := by omega
    obtain ⟨⟨yb, yd⟩, hit⟩ : ∃ e, it[j]? = some e := ⟨_, List.getElem?_eq_getElem hj⟩
    refine wct Hz ?_
    refine zss (hK6 _ _ ?_)
    refine wsk fun K7 hK7 => ?_
    refine wp_block ?_
    refine wp_region_lit ?_
    refine goCh Hz (.move rfl <| .move rfl .nil) fun Az Hz => ?_
    refine bc Hz 38 ?_ ?_
    ·
     intro hb46 Hz; try simp only [QQ, Qax] at hb46
     refine gz hK7 Hz (.sk <| .sk <| .sk <| .sk <| .sk <| .sk <| .sk <| .pickT rfl rfl <| .assign rfl <| .nil) fun Az Hz => ?_
     replace Hz := Hz.oz [0, 1, 2, 7, 8, 9, 10, 11, 38]
     refine wp_region_lit ?_
     refine goCh Hz (.move rfl <| .inc (j + 1) <| .assign rfl .nil) fun Az Hz => ?_
     refine wpList_nil ?_
     show ∃ n', n' < _ ∧ _
     exact ⟨it.length - (j + 1), by omega, j + 1, _, _, _, by omega, rfl, there_snoc (tb := true) (hb46 ▸ htb) hit, Hz.only [0, 1, 2, 7, 8, 9, 10, 11], m38.only [9]⟩
    intro hb46 Hz; try simp only [QQ, Qax] at hb46
    refine goCh Hz (.moveZ rfl <| .moveZ rfl .nil) fun Az Hz => ?_
    obtain ⟨gs62, os62, vs62, hp62, hl62, hR62, hrg62⟩ := m38.openS (i := 9) rfl (j) (r := [.v (.int .i64 yb), .ns .u8 yd]) (itD_get hit)
    revert Hz
    cases hp62; clear hl62 hR62 hrg62 vs62
    intro Hz
    refine gz hK7 Hz (.g rfl rfl rfl rfl (fun _ h_ => y_idx h_ rfl rfl U36 fct3 (j) rfl (by rw [List.length_map]; exact hj)) <| .fieldAddrQZ 0 rfl U59 rfl (s := 0) (by kernel_rfl) rfl <| .loadSVZ m38 (i := 9) rfl (j) (r := [.v (.int .i64 yb), .ns .u8 yd]) (itD_get hit) (q := 0) rfl rfl rfl U3 rfl <| .moveZ rfl <| .eqlZ rfl rfl <| .pickF rfl rfl <| .assign rfl <| .nil) fun Az Hz => ?_
    replace Hz := Hz.oz [0, 1, 2, 7, 8, 9, 10, 11, 38]
    refine wp_region_lit ?_
    refine goCh Hz (.move rfl <| .inc (j + 1) <| .assign rfl .nil) fun Az Hz => ?_
    refine wpList_nil ?_
    show ∃ n', n' < _ ∧ _
    exact ⟨it.length - (j + 1), by omega, j + 1, _, _, _, by omega, rfl, there_snoc (tb := false) (hb46 ▸ htb) hit, Hz.only [0, 1, 2, 7, 8, 9, 10, 11], m38.only [9]⟩
   intro hb43 Hz; try simp only [QQ, Qax] at hb43
   rw [List.length_map] at hb43
   revert Hz
   obtain rfl : j = it.length := by omega
   intro Hz
   rw [List.take_length] at htb
   refine wcf Hz ?_
   refine wp_exit ?_
   refine hK5 _ _ ?_
   refine regS Hz (.move rfl <| .not rfl .nil) fun Az Hz => ?_
   refine bc Hz 48 ?_ ?_
   ·
    intro hb76 Hz; try simp only [QQ, Qax] at hb76
    have hno : ¬ ∃ e ∈ it, e.1 = b9 := fun h => by have h9 := htb.2 h; simp_all
    refine wct Hz ?_
    refine wp_region_lit ?_
    refine goCh Hz (.move rfl <| .move rfl <| .move rfl <| .move rfl <| .move rfl .nil) fun Az Hz => ?_
    obtain ⟨gx82, ox82, hp82, hl82, hrg82⟩ := h0.extN (k) hk
    revert Hz
    cases hp82
    intro Hz
    refine goCh Hz (.c rfl (fun _ h_ => y_idx h_ rfl rfl U22 fct23 (k) rfl hk) <| .loadAt1 (hrg82 m38 rfl) (q := 0) rfl rfl rfl U5 rfl .nil) fun Az Hz => ?_
    refine plz (ecl Hz Tryz.func131 rfl (data_any z (l.getD k 0) _ (by omega) (by omega)) ?_)
    rintro e w85 ⟨d9, p85, c85, rfl, hd9l, hd9b, hd85, hb85⟩
    have m86 := m38.callF 200 rfl hb85 hd85
    refine ⟨_, rfl, ?_⟩; intro Az Hz
    refine goCh Hz (.build rfl fct4 fl59is2 rfl (by dsimp only [setL, List.set] <;> rfl) .nil) fun Az Hz => ?_
    refine plz (e_litR Hz m86 201 (mm := 2) rfl (.cons rfl rfl (.cons (.v _) (.cons (m86.rd (i := 200) rfl) .nil)) .nil) U36 fct5 rfl rfl rfl rfl rfl fun g89 Az w90 Hz m90 => ?_)
    have m92 := m90.freezeR 201 rfl
    refine plz (e_appSA Hz m92 9 rfl rfl rfl (m92.rd (i := 201) rfl).cells U36 fct5 rfl rfl (by decide) (by simp; omega) rfl fun p91 c91 Az w93 Hz m93 => ?_)
    refine gz hK3 Hz (.assign rfl .nil) fun Az Hz => ?_
    replace Hz := Hz.oz [0, 1, 2, 7, 8, 9, 10, 11, 48]
    refine wp_region_lit ?_
    refine goCh Hz (.move rfl <| .inc (k + 1) <| .assign rfl .nil) fun Az Hz => ?_
    refine wpList_nil ?_
    show ∃ n', n' < _ ∧ _
    have hE : it.map itD ++ [[D.v (.int .i64 b9), .ns .u8 d9]] = (it ++ [(b9, d9)]).map itD := by rw [List.map_append]; rfl
    rw [hE] at m93 Hz
    skip
    exact ⟨l.length - (k + 1), by omega, k + 1, it ++ [(b9, d9)], _, _, by omega, rfl, by simp; omega, by rw [List.length_append]; exact itpre_app hpre hb9 (by omega) hno, itsB_snoc hitb (by omega) hd9b, fun _ => by simp, Hz.only [0, 1, 2, 7, 8], m93.only [9]⟩
   intro hb76 Hz; try simp only [QQ, Qax] at hb76
   have hsome : 1 ≤ it.length := by
     obtain ⟨e9, h9, -⟩ := htb.1 (by simp_all)
     exact List.length_pos_of_mem h9
   refine wcf Hz ?_
   refine zss (hK3 _ _ ?_)
   refine wp_region_lit ?_
   refine goCh Hz (.move rfl <| .inc (k + 1) <| .assign rfl .nil) fun Az Hz => ?_
   refine wpList_nil ?_
   show ∃ n', n' < _ ∧ _
   exact ⟨l.length - (k + 1), by omega, k + 1, it, _, _, by omega, rfl, by omega, hpre, hitb, fun _ => hsome, Hz.only [0, 1, 2, 7, 8], m38.only [9]⟩
  intro hb20 Hz; try simp only [QQ, Qax] at hb20
  rw [List.length_map] at hb20
  refine wcf Hz ?_
  refine wp_exit ?_
  refine hK0 _ _ ?_
  replace Hz := Hz.oz [0, 1, 2, 7, 8]
  refine regS Hz (.move rfl <| .assign rfl .nil) fun Az Hz => ?_
  refine rt1 Hz ?_
  have mf := m4.freezeS 9 rfl (by simp [cx])
  exact ⟨it, _, _, by rw [List.length_map], hit8, (by rw [hbb]; exact hpre), hitb, (fun h => by first | omega | (have h9 := List.length_pos_iff.2 h; exact hne (by omega))), by simpa using mf.outF (i := 9) rfl, m4.below⟩
 intro hb15 Hz; try simp only [QQ, Qax] at hb15
 revert Hz
 obtain rfl : k = l.length := by omega
 intro Hz
 refine gz hK2 Hz (.sk <| .sk <| .sk <| .pickF rfl rfl <| .nil) fun Az Hz => ?_
 refine wcf Hz ?_
 refine wp_exit ?_
 refine hK0 _ _ ?_
 replace Hz := Hz.oz [0, 1, 2, 7, 8]
 refine regS Hz (.move rfl <| .assign rfl .nil) fun Az Hz => ?_
 refine rt1 Hz ?_
 have mf := m4.freezeS 9 rfl (by simp [cx])
 exact ⟨it, _, _, by rw [List.length_map], hit8, (by rw [hbb]; exact hpre), hitb, (fun h => by first | omega | (have h9 := List.length_pos_iff.2 h; exact hne (by omega))), by simpa using mf.outF (i := 9) rfl, m4.below⟩
end
end Go.Proofs.YtkehgingagggaaaGreat.K
