/- intake: one function says what both plans are. -/
import Derived.Test.YtkdnhndjjfjppaaInt13
import Derived.Test.YtkdnhndjjfjppaaInt9
namespace Go.Proofs.Ytkdnhndjjfjppaa.K
open Go.ChangeShapes Go.WideShapes Go.ChangeAt Go.RowKit
set_option linter.unusedVariables false
set_option linter.unusedSimpArgs false
open Classical in
noncomputable def planQ (bl sz fr to : Int) (its : List (Int × List Int)) (vo pe n9 : Int) (pl : List Int) : List RC × Int :=
 if StreamOk bl sz fr to its ∧ 1 ≤ n9 ∧ n9 ≤ 8 then
   if NewOk vo bl sz pe (((bl + n9 - 1) / n9).toNat : Int) pl then
     if fr = -1 then (planL vo pe pl bl sz its n9.toNat ((bl + n9 - 1) / n9).toNat, 0) else ([], 38)
   else ([], 23)
 else ([], 23)
theorem planQ_T {bl n9 : Int} (h1 : 1 ≤ bl) (h2 : 1 ≤ n9) : (bl + ((n9.toNat : Nat) : Int) - 1) / ((n9.toNat : Nat) : Int) = ((((bl + n9 - 1) / n9).toNat : Nat) : Int) := by
 have q0 : 0 ≤ (bl + n9 - 1) / n9 := Int.ediv_nonneg (by omega) (by omega)
 rw [Int.toNat_of_nonneg (show 0 ≤ n9 by omega), Int.toNat_of_nonneg q0]
theorem planL_mem {vo pe : Int} {pl : List Int} {bl sz : Int} {its : List (Int × List Int)} {n T : Nat} {c : RC} (h : c ∈ planL vo pe pl bl sz its n T) : (c.pl = pl ∨ c.pl = []) ∧ ∀ e ∈ c.its, e ∈ its := by
 unfold planL at h
 rcases List.mem_append.1 h with h | h
 · rcases List.mem_cons.1 h with rfl | h
   · exact ⟨.inl rfl, fun e he => by cases he⟩
   obtain ⟨i, _, rfl⟩ := List.mem_map.1 h
   exact ⟨.inr rfl, fun e he => chunkI_mem he⟩
 rw [List.mem_singleton.1 h]
 exact ⟨.inr rfl, fun e he => by cases he⟩
theorem planQ_ok {bl sz fr to : Int} {its : List (Int × List Int)} {vo pe n9 : Int} {pl : List Int} (hio : ItsOk its) (hil : its.length ≤ 256) (hpl : pl.length ≤ 1000000) : (planQ bl sz fr to its vo pe n9 pl).1.length ≤ 1000000 ∧ ∀ c ∈ (planQ bl sz fr to its vo pe n9 pl).1, c.pl.length ≤ 1000000 ∧ c.its.length ≤ 1000000 ∧ ItsOk c.its := by
 unfold planQ
 by_cases h : StreamOk bl sz fr to its ∧ 1 ≤ n9 ∧ n9 ≤ 8
 · rw [if_pos h]
   by_cases hN : NewOk vo bl sz pe (((bl + n9 - 1) / n9).toNat : Int) pl
   · rw [if_pos hN]
     by_cases hf : fr = -1
     · rw [if_pos hf]
       have hb := h.1.b
       have hT := plan_T (n := n9.toNat) (by omega) hb (planQ_T (by omega) h.2.1)
       refine ⟨by simp only; rw [planL_len]; omega, fun c hc => ?_⟩
       have h9 := planL_mem hc
       refine ⟨?_, ?_, fun e he => hio e (h9.2 e he)⟩
       · rcases h9.1 with e | e <;> rw [e]
         · exact hpl
         decide
       simp only [planL] at hc
       rcases List.mem_append.1 hc with hc | hc
       · rcases List.mem_cons.1 hc with rfl | hc
         · exact Nat.zero_le _
         obtain ⟨i, _, rfl⟩ := List.mem_map.1 hc
         exact Nat.le_trans chunkI_len (by omega)
       rw [List.mem_singleton.1 hc]; exact Nat.zero_le _
     rw [if_neg hf]; exact ⟨Nat.zero_le _, fun c hc => by cases hc⟩
   rw [if_neg hN]; exact ⟨Nat.zero_le _, fun c hc => by cases hc⟩
 rw [if_neg h]; exact ⟨Nat.zero_le _, fun c hc => by cases hc⟩
theorem pplan_q (bl sz fr to vo pe n9 : Int) (its : List (Int × List Int)) (pi : Option Addr) (ni ci : Nat) (pl : List Int) (pq : Option Addr) (cq : Nat) (S : Nat → Prop) (w0 : World) (h1 : Rd S w0 (.slice pi ni ci) (.l 2 (its.map itD))) (h2 : Rd (fun _ => True) w0 (.slice pq pl.length cq) (.ns .i64 pl)) (hio : ItsOk its) (hil : its.length ≤ 256) (hpl : pl.length ≤ 1000000) :
   Calls Try.prog 9 #[.agg #[.int .i64 bl, .int .i64 sz, .int .i64 fr, .int .i64 to, .slice pi ni ci], .int .i64 vo, .int .i64 pe, .slice pq pl.length cq, .int .i64 n9] w0 fun e w' => ∃ p c, e = .returned (.tuple #[.slice p (planQ bl sz fr to its vo pe n9 pl).1.length c, .int .i64 (planQ bl sz fr to its vo pe n9 pl).2]) ∧ Rd (Out S w0) w' (.slice p (planQ bl sz fr to its vo pe n9 pl).1.length c) (.l 10 ((planQ bl sz fr to its vo pe n9 pl).1.map cmdD)) ∧ Below w0.heap.size w0 w' := by
 obtain rfl : ni = its.length := by obtain ⟨pq, cq, hv, _⟩ := h1.l_shape; injection hv with _ e2 _; rw [List.length_map] at e2; exact e2
 by_cases h : StreamOk bl sz fr to its ∧ 1 ≤ n9 ∧ n9 ≤ 8
 · obtain ⟨hs, hn1, hn8⟩ := h
   have hb := hs.b
   have hT := planQ_T (bl := bl) (n9 := n9) (by omega) hn1
   have hn : ((n9.toNat : Nat) : Int) = n9 := Int.toNat_of_nonneg (by omega)
   by_cases hN : NewOk vo bl sz pe (((bl + n9 - 1) / n9).toNat : Int) pl
   · by_cases hf : fr = -1
     · have e : planQ bl sz fr to its vo pe n9 pl = (planL vo pe pl bl sz its n9.toNat ((bl + n9 - 1) / n9).toNat, 0) := by unfold planQ; rw [if_pos ⟨hs, hn1, hn8⟩, if_pos hN, if_pos hf]
       have h9 := plan_yes bl sz fr to vo pe its pi its.length ci pl pq cq n9.toNat ((bl + n9 - 1) / n9).toNat S w0 h1 h2 hs hio (by omega) (by omega) hpl hT hf hN
       rw [hn] at h9
       rw [e]
       exact h9
     have e : planQ bl sz fr to its vo pe n9 pl = ([], 38) := by unfold planQ; rw [if_pos ⟨hs, hn1, hn8⟩, if_pos hN, if_neg hf]
     have h9 := plan_chain bl sz fr to vo pe its pi its.length ci pl pq cq n9.toNat ((bl + n9 - 1) / n9).toNat S w0 h1 h2 hs hio (by omega) (by omega) hpl hT hN (by have := hs.f; omega)
     rw [hn] at h9
     rw [e]
     exact h9.mono (fun _ _ h => ⟨none, 0, h.1, .l0 _ _ _, h.2⟩)
   have e : planQ bl sz fr to its vo pe n9 pl = ([], 23) := by unfold planQ; rw [if_pos ⟨hs, hn1, hn8⟩, if_neg hN]
   have h9 := plan_no bl sz fr to vo pe its pi its.length ci pl pq cq n9.toNat ((bl + n9 - 1) / n9).toNat S w0 h1 h2 hs hio (by omega) (by omega) hpl hT hN
   rw [hn] at h9
   rw [e]
   exact h9.mono (fun _ _ h => ⟨none, 0, h.1, .l0 _ _ _, h.2⟩)
 have e : planQ bl sz fr to its vo pe n9 pl = ([], 23) := by unfold planQ; rw [if_neg h]
 rw [e]
 exact (plan_bad bl sz fr to vo pe n9 its pi its.length ci pq pl.length cq w0 h1.any hil h).mono (fun _ _ h => ⟨none, 0, h.1, .l0 _ _ _, h.2⟩)
theorem rplan_q (bl sz fr to vo pe n9 : Int) (its : List (Int × List Int)) (pi : Option Addr) (ni ci : Nat) (pl : List Int) (pq : Option Addr) (cq : Nat) (S : Nat → Prop) (w0 : World) (h1 : Rd S w0 (.slice pi ni ci) (.l 2 (its.map itD))) (h2 : Rd (fun _ => True) w0 (.slice pq pl.length cq) (.ns .i64 pl)) (hio : ItsOk its) (hil : its.length ≤ 256) (hpl : pl.length ≤ 1000000) :
   Calls Try.prog 11 #[.agg #[.int .i64 bl, .int .i64 sz, .int .i64 fr, .int .i64 to, .slice pi ni ci], .int .i64 vo, .int .i64 pe, .slice pq pl.length cq, .int .i64 n9] w0 fun e w' => ∃ p c, e = .returned (.tuple #[.slice p (planQ bl sz fr to its vo pe n9 pl).1.length c, .int .i64 (planQ bl sz fr to its vo pe n9 pl).2]) ∧ Rd (Out S w0) w' (.slice p (planQ bl sz fr to its vo pe n9 pl).1.length c) (.l 10 ((planQ bl sz fr to its vo pe n9 pl).1.map cmdD)) ∧ Below w0.heap.size w0 w' := by
 obtain rfl : ni = its.length := by obtain ⟨pq, cq, hv, _⟩ := h1.l_shape; injection hv with _ e2 _; rw [List.length_map] at e2; exact e2
 by_cases h : StreamOk bl sz fr to its ∧ 1 ≤ n9 ∧ n9 ≤ 8
 · obtain ⟨hs, hn1, hn8⟩ := h
   have hb := hs.b
   have hT := planQ_T (bl := bl) (n9 := n9) (by omega) hn1
   have hn : ((n9.toNat : Nat) : Int) = n9 := Int.toNat_of_nonneg (by omega)
   by_cases hN : NewOk vo bl sz pe (((bl + n9 - 1) / n9).toNat : Int) pl
   · by_cases hf : fr = -1
     · have e : planQ bl sz fr to its vo pe n9 pl = (planL vo pe pl bl sz its n9.toNat ((bl + n9 - 1) / n9).toNat, 0) := by unfold planQ; rw [if_pos ⟨hs, hn1, hn8⟩, if_pos hN, if_pos hf]
       have h9 := rplan_yes bl sz fr to vo pe its pi its.length ci pl pq cq n9.toNat ((bl + n9 - 1) / n9).toNat S w0 h1 h2 hs hio (by omega) (by omega) hpl hT hN hf
       rw [hn] at h9
       rw [e]
       exact h9
     have e : planQ bl sz fr to its vo pe n9 pl = ([], 38) := by unfold planQ; rw [if_pos ⟨hs, hn1, hn8⟩, if_pos hN, if_neg hf]
     have h9 := rplan_chain bl sz fr to vo pe its pi its.length ci pl pq cq n9.toNat ((bl + n9 - 1) / n9).toNat S w0 h1 h2 hs hio (by omega) (by omega) hpl hT hN (by have := hs.f; omega)
     rw [hn] at h9
     rw [e]
     exact h9.mono (fun _ _ h => ⟨none, 0, h.1, .l0 _ _ _, h.2⟩)
   have e : planQ bl sz fr to its vo pe n9 pl = ([], 23) := by unfold planQ; rw [if_pos ⟨hs, hn1, hn8⟩, if_neg hN]
   have h9 := rplan_no bl sz fr to vo pe its pi its.length ci pl pq cq n9.toNat ((bl + n9 - 1) / n9).toNat S w0 h1 h2 hs hio (by omega) (by omega) hpl hT hN
   rw [hn] at h9
   rw [e]
   exact h9.mono (fun _ _ h => ⟨none, 0, h.1, .l0 _ _ _, h.2⟩)
 have e : planQ bl sz fr to its vo pe n9 pl = ([], 23) := by unfold planQ; rw [if_neg h]
 rw [e]
 exact (rplan_bad bl sz fr to vo pe n9 its pi its.length ci pq pl.length cq w0 h1.any hil h).mono (fun _ _ h => ⟨none, 0, h.1, .l0 _ _ _, h.2⟩)
end Go.Proofs.Ytkdnhndjjfjppaa.K
