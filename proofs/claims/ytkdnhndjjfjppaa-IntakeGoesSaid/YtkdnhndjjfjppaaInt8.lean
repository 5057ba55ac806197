/- IntakePlaces: a plan's calls told to the reference's machine, one by one; the walk. -/
import Derived.Test.YtkdnhndjjfjppaaInt6
import Derived.Test.YtkdnhndjjfjppaaInt7
import Derived.Test.YtkdnhndjjfjppaaVol20
namespace Go.Proofs.Ytkdnhndjjfjppaa.K
open Go.ChangeShapes Go.WideShapes Go.ChangeAt Go.RowKit
set_option linter.unusedVariables false
set_option linter.unusedSimpArgs false
set_option maxRecDepth 100000
set_option maxHeartbeats 4000000
theorem rapply_plan (X : Cx) (B : Nat) {vo pe : Int} {pl : List Int} {bl sz : Int} {S : List (List Int)} {n T : Nat} (h : PlanOk vo pe pl bl sz S n T) (j : Nat) (c9 : RC) (hj : (planL vo pe pl bl sz (wholeI S S.length) n T)[j]? = some c9) (p : Option Addr) (c : Nat) (pb : Option Addr) (cb : Nat) (w0 : World) (m0 : MemOk X w0 [(1, .box B 45 [.slice p ((macL vo pe pl bl sz (wholeI S S.length) n T j).map volD).length c]), (2, .dat (.slice p ((macL vo pe pl bl sz (wholeI S S.length) n T j).map volD).length c) (.l 11 ((macL vo pe pl bl sz (wholeI S S.length) n T j).map volD))), (3, .dat (.slice pb (cmdE c9.kd c9.vo c9.bl c9.sz c9.pe c9.to c9.at0 c9.ix c9.pl c9.its).length cb) (.ns .u8 (cmdE c9.kd c9.vo c9.bl c9.sz c9.pe c9.to c9.at0 c9.ix c9.pl c9.its)))] w0) :
   Calls Try.prog 19 #[.pointer (some ⟨B, 0, none⟩), .slice pb (cmdE c9.kd c9.vo c9.bl c9.sz c9.pe c9.to c9.at0 c9.ix c9.pl c9.its).length cb] w0 fun e w' => ∃ (rl rf rn : Int) (p' : Option Addr) (c' : Nat), e = .returned (.agg #[.int .i64 0, .int .i64 rl, .int .i64 rf, .int .i64 rn, .slice none 0 0]) ∧ MemOk X w0 [(1, .box B 45 [.slice p' ((macL vo pe pl bl sz (wholeI S S.length) n T (j + 1)).map volD).length c']), (2, .dat (.slice p' ((macL vo pe pl bl sz (wholeI S S.length) n T (j + 1)).map volD).length c') (.l 11 ((macL vo pe pl bl sz (wholeI S S.length) n T (j + 1)).map volD)))] w' := by
 have hc := h.cmd hj
 have hTb := h.tb
 have hjl := (List.getElem?_eq_some_iff.1 hj).1
 rw [planL_len] at hjl
 rcases Nat.eq_zero_or_pos j with h0 | h0
 · subst h0
   obtain rfl : planH vo pe pl bl sz T = c9 := Option.some.inj hj
   refine (rapply_new X B _ p c vo bl sz pe T 0 0 pl [] pb cb w0 rfl h.nw hc m0).mono ?_
   rintro e w' ⟨p', c', rfl, m⟩
   have h3 : [newV vo bl sz pe T pl] = macL vo pe pl bl sz (wholeI S S.length) n T (0 + 1) := by
     rw [macL, if_neg (by omega), if_pos (by omega), newV, show decide (0 < (T : Int)) = true from by rw [decide_eq_true_eq]; omega]; rfl
   rw [h3] at m
   exact ⟨0, 0, 0, p', c', rfl, m⟩
 obtain ⟨i, rfl⟩ : ∃ i, j = i + 1 := ⟨j - 1, by omega⟩
 have hL : macL vo pe pl bl sz (wholeI S S.length) n T (i + 1) = [planV vo pe pl bl sz (wholeI S S.length) n T i] := by rw [macL, if_neg (by omega), if_pos (by omega), Nat.add_sub_cancel]
 rcases Nat.lt_or_ge i T with h1 | h1
 · rw [planL_imp h1] at hj
   obtain rfl := Option.some.inj hj
   refine (rapply_do X B i _ (planV vo pe pl bl sz (wholeI S S.length) n T i) p c 6 vo 0 0 0 0 0 i [] (chunkI (wholeI S S.length) n i) pb cb w0 hL rfl (h.volS (by omega)) (by omega) (by decide) (by decide) (by decide) hc m0).mono ?_
   rintro e w' ⟨y, e9, rl, rf, rn, p', c', rfl, hy, m⟩
   obtain ⟨rfl, rfl⟩ := hy.uni (planV_do h1 (h.items h1))
   have h3 : macL vo pe pl bl sz (wholeI S S.length) n T (i + 1 + 1) = [planV vo pe pl bl sz (wholeI S S.length) n T (i + 1)] := by rw [macL, if_neg (by omega), if_pos (by omega), Nat.add_sub_cancel]
   rw [h3]
   exact ⟨rl, rf, rn, p', c', rfl, m⟩
 obtain rfl : i = T := by omega
 rw [planL_end] at hj
 obtain rfl := Option.some.inj hj
 refine (rapply_do X B i _ (planV vo pe pl bl sz (wholeI S S.length) n i i) p c 7 vo 0 0 0 0 0 0 [] [] pb cb w0 hL rfl (h.volS (Nat.le_refl _)) (by omega) (by decide) (by decide) (by decide) hc m0).mono ?_
 rintro e w' ⟨y, e9, rl, rf, rn, p', c', rfl, hy, m⟩
 obtain ⟨rfl, rfl⟩ := hy.uni planF_do
 have h3 : macL vo pe pl bl sz (wholeI S S.length) n i (i + 1 + 1) = [planF vo pe pl bl sz (wholeI S S.length) n i] := by rw [macL, if_neg (by omega), if_neg (by omega)]
 rw [h3]
 exact ⟨rl, rf, rn, p', c', rfl, m⟩
theorem rblocks_s (X : Cx) (bl sz fr to : Int) (S : List (List Int)) (pi : Option Addr) (ci : Nat) (w0 : World) (hs : StreamOk bl sz fr to (wholeI S S.length)) (hfr : fr = -1) (m0 : MemOk X w0 [(3, .dat (.slice pi S.length ci) (.l 2 ((wholeI S S.length).map itD)))] w0) :
   Calls Try.prog 23 #[.agg #[.int .i64 bl, .int .i64 sz, .int .i64 fr, .int .i64 to, .slice pi S.length ci]] w0 fun e w' => ∃ (p : Option Addr) (c : Nat), e = .returned (.slice p (S.map bD).length c) ∧ MemOk X w0 [(3, .dat (.slice pi S.length ci) (.l 2 ((wholeI S S.length).map itD))), (9, .dat (.slice p (S.map bD).length c) (.l 1 (S.map bD)))] w' := by
 have h9 : ((wholeI S S.length).map itD).length = S.length := by rw [List.length_map, wholeI_len]
 have h := rblocks_any X bl sz fr to S pi ci w0 hs hfr
 rw [h9] at h
 exact h m0
end Go.Proofs.Ytkdnhndjjfjppaa.K
