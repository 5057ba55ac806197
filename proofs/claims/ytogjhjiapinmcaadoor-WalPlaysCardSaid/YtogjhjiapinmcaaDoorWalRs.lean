/- The reference's Scan. -/
import Derived.Test.YtogjhjiapinmcaaDoorWalRx
namespace Go.Proofs.YtogjhjiapinmcaaDoor.K
open Go.ChangeShapes Go.WideShapes Go.ChangeAt Go.RowKit
set_option linter.unusedVariables false
set_option linter.unusedSimpArgs false

theorem inf24rsn : (Tryd.prog.info? 24).map (fun i => (i.zero, i.size, i.bytes)) = some (some (.slice none 0 0), 1, 24) := by kernel_rfl

set_option maxRecDepth 100000
set_option maxHeartbeats 4000000
theorem one_no (X : Cx) (B : Nat) (secs V : List (List Int)) (wl : List (Int × List Int)) (f : Nat) (t gn : Int) (pS pl : Option Addr) (cS cl : Nat) (w0 : World) (hVl : V.length = secs.length) (hV : ∀ i, i < secs.length → curV secs wl i = V.getD i []) (hVs : ∀ s ∈ V, Sec s) (hwl : wl.length ≤ 1000000) (hsl : secs.length ≤ 100) (hf : f ≤ 1000000) (ht0 : -9223372036854775808 ≤ t) (ht : t ≤ secs.length) (g0 : 0 ≤ gn) (g1 : gn ≤ 18446744073709551615) (hR : readV V (f : Int) t gn = none) (m0 : MemOk X w0 [(1, .box B 60 [.slice pS secs.length cS, .slice pl wl.length cl, .int .i64 (-1)]), (2, .dat (.slice pS secs.length cS) (.l 1 (secs.map bD))), (3, .dat (.slice pl wl.length cl) (.l 2 (wl.map wD)))] w0) :
   Calls Tryd.prog 32 #[.pointer (some ⟨B, 0, none⟩), .int .i64 f, .int .i64 t, .int .u64 gn] w0 fun e w' => e = .returned (.tuple #[.slice none 0 0, .int .i64 0]) ∧ MemOk X w0 [(1, .box B 60 [.slice pS secs.length cS, .slice pl wl.length cl, .int .i64 (-1)]), (2, .dat (.slice pS secs.length cS) (.l 1 (secs.map bD))), (3, .dat (.slice pl wl.length cl) (.l 2 (wl.map wD)))] w' := by
 refine (one_x X B secs V wl f t gn pS pl cS cl w0 hVl hV hVs hwl hsl hf ht0 ht g0 g1 m0).mono fun e w' h => ?_
 rw [hR] at h
 exact h
theorem one_yes (X : Cx) (B : Nat) (secs V : List (List Int)) (wl : List (Int × List Int)) (f : Nat) (t gn : Int) (pS pl : Option Addr) (cS cl : Nat) (w0 : World) (hVl : V.length = secs.length) (hV : ∀ i, i < secs.length → curV secs wl i = V.getD i []) (hVs : ∀ s ∈ V, Sec s) (hwl : wl.length ≤ 1000000) (hsl : secs.length ≤ 100) (hf : f ≤ 1000000) (ht0 : -9223372036854775808 ≤ t) (ht : t ≤ secs.length) (g0 : 0 ≤ gn) (g1 : gn ≤ 18446744073709551615) {x : List Int} {n : Nat} (hR : readV V (f : Int) t gn = some (x, n)) (m0 : MemOk X w0 [(1, .box B 60 [.slice pS secs.length cS, .slice pl wl.length cl, .int .i64 (-1)]), (2, .dat (.slice pS secs.length cS) (.l 1 (secs.map bD))), (3, .dat (.slice pl wl.length cl) (.l 2 (wl.map wD)))] w0) :
   Calls Tryd.prog 32 #[.pointer (some ⟨B, 0, none⟩), .int .i64 f, .int .i64 t, .int .u64 gn] w0 fun e w' => ∃ (p : Option Addr) (c : Nat), e = .returned (.tuple #[.slice p x.length c, .int .i64 (n : Int)]) ∧ MemOk X w0 [(1, .box B 60 [.slice pS secs.length cS, .slice pl wl.length cl, .int .i64 (-1)]), (2, .dat (.slice pS secs.length cS) (.l 1 (secs.map bD))), (3, .dat (.slice pl wl.length cl) (.l 2 (wl.map wD))), (4, .num (.slice p x.length c) 5 .u8 x)] w' := by
 refine (one_x X B secs V wl f t gn pS pl cS cl w0 hVl hV hVs hwl hsl hf ht0 ht g0 g1 m0).mono fun e w' h => ?_
 rw [hR] at h
 exact h
theorem scanF_stop {secs : List (List Int)} {to gn f : Int} {m : Nat} (hR : readV secs f to gn = none) : scanF secs to gn m f = ([], f) := by
 by_cases h : f < to
 · exact scanF_none h hR
 · exact scanF_end h
theorem readV_min {V : List (List Int)} {f to gn : Int} (hs : ∀ s ∈ V, Sec s) : readV V f (min to (V.length : Int)) gn = readV V f to gn := by
 rcases Int.le_total to (V.length : Int) with h | h
 · rw [Int.min_eq_left h]
 · rw [Int.min_eq_right h]
   unfold readV
   cases hP : partV V f gn with
   | none => rfl
   | some b =>
     dsimp only
     split
     · rfl
     · generalize 48 - (numR b 0 65535).2.1.length + (numR b 0 65535).1.toNat + 4 = all
       by_cases h1 : (secN all : Int) > (V.length : Int) - f
       · rw [if_pos h1]
         split
         · rfl
         · have hn : partsK V f gn (secN all) = none := by
             cases hK : partsK V f gn (secN all) with
             | none => rfl
             | some x =>
               have h0 := partV_at hP
               obtain ⟨q, hq⟩ : ∃ q, secN all = q + 1 := ⟨secN all - 1, by omega⟩
               rw [hq] at hK h1
               have := partsK_at hK
               omega
           rw [hn]
       · rw [if_neg h1, if_neg (by omega)]
theorem rscan_x (X : Cx) (B : Nat) (secs V : List (List Int)) (wl : List (Int × List Int)) (f0 : Nat) (to gn : Int) (pS pl : Option Addr) (cS cl : Nat) (w0 : World) (hVl : V.length = secs.length) (hV : ∀ i, i < secs.length → curV secs wl i = V.getD i []) (hVs : ∀ s ∈ V, Sec s) (hwl : wl.length ≤ 1000000) (hsl : secs.length ≤ 100) (hf1 : f0 ≤ 1000) (ht0 : -9223372036854775808 ≤ to) (ht1 : to ≤ 9223372036854775807) (g0 : 0 ≤ gn) (g1 : gn ≤ 18446744073709551615) (m0 : MemOk X w0 [(1, .box B 60 [.slice pS secs.length cS, .slice pl wl.length cl, .int .i64 (-1)]), (2, .dat (.slice pS secs.length cS) (.l 1 (secs.map bD))), (3, .dat (.slice pl wl.length cl) (.l 2 (wl.map wD)))] w0) :
   Calls Tryd.prog 16 #[.pointer (some ⟨B, 0, none⟩), .int .i64 f0, .int .i64 to, .int .u64 gn] w0 fun e w' => ∃ (p : Option Addr) (c : Nat), e = .returned (.tuple #[.slice p (scanF V to gn (to - f0).toNat (f0 : Int)).1.length c, .int .i64 (scanF V to gn (to - f0).toNat (f0 : Int)).2]) ∧ MemOk X w0 [(1, .box B 60 [.slice pS secs.length cS, .slice pl wl.length cl, .int .i64 (-1)]), (2, .dat (.slice pS secs.length cS) (.l 1 (secs.map bD))), (3, .dat (.slice pl wl.length cl) (.l 2 (wl.map wD))), (4, .dat (.slice p (scanF V to gn (to - f0).toNat (f0 : Int)).1.length c) (.l 1 ((scanF V to gn (to - f0).toNat (f0 : Int)).1.map bD)))] w' := by
 refine enter (fn := Tryd.f16) Tryd.func16 rfl Tryd.ntmps16 rfl (fun Az Hz => ?_)
 simp only [List.zipIdx_cons, List.zipIdx_nil, List.map_cons, List.map_nil, Nat.reduceAdd, Nat.zero_add] at Hz
 refine regS Hz (.assign rfl <| .assign rfl <| .nil) ?_
 clear Hz Az; intro Az Hz
 refine regS Hz (.assign rfl <| .nil) ?_
 clear Hz Az; intro Az Hz
 refine wp_seq_k (fun K0 hK0 => ?_)
 refine regS Hz (.move rfl <| .lss rfl rfl <| .nil) ?_
 clear Hz Az; intro Az Hz
 refine bool_cases Hz (t := 14) rfl ?_ ?_
 · intro hb _; exact absurd hb (by rw [decide_eq_true_eq]; omega)
 clear Hz; intro _ Hz
 refine wp_cond_false (Hz.ev (x := .tmp 14) rfl) ?_
 refine wp_skip ?_
 refine hK0 _ _ ?_; clear hK0; try clear K0
 refine wp_block ?_
 refine wp_loop_ghost (fun g a w => ∃ (m f : Nat) (ls : List (List Int)) (p : Option Addr) (c : Nat), g = m ∧ to - f ≤ m ∧ f ≤ 1000000 ∧ (ls = [] ∨ ls.length ≤ f ∧ f ≤ secs.length) ∧ scanF V to gn (to - f0).toNat (f0 : Int) = (ls ++ (scanF V to gn m (f : Int)).1, (scanF V to gn m (f : Int)).2) ∧ Has 41 [(0, .pointer (some ⟨B, 0, none⟩)), (1, .int .i64 (f : Nat)), (2, .int .i64 to), (3, .int .u64 gn), (10, .slice p ls.length c)] a ∧ MemOk X w0 [(1, .box B 60 [.slice pS secs.length cS, .slice pl wl.length cl, .int .i64 (-1)]), (2, .dat (.slice pS secs.length cS) (.l 1 (secs.map bD))), (3, .dat (.slice pl wl.length cl) (.l 2 (wl.map wD))), (9, .row (.slice p ls.length c) 24 1 (ls.map bD))] w) ((to - f0).toNat) ?_ ?_
 · have mz := m0.nilR 9 24 1
   exact ⟨(to - f0).toNat, f0, [], _, _, rfl, by omega, by omega, .inl rfl, rfl, Hz.only [0, 1, 2, 3, 10], mz.only [1, 2, 3, 9]⟩
 ·
  clear Hz m0
  rintro g Az w7 ⟨m, f, ls, p, c, hg, hm, hf9a, hls, hS, Hz, m7⟩
  refine wp_block ?_
  refine wp_seq_k (fun K1 hK1 => ?_)
  rcases hR : readV V (f : Int) (min to (secs.length : Int)) gn with _ | ⟨z, nn⟩
  ·
   have hTot : scanF V to gn (to - f0).toNat (f0 : Int) = (ls, (f : Int)) := by rw [hS, scanF_stop (by rw [← readV_min hVs, hVl]; exact hR), List.append_nil]
   refine wp_region_lit ?_
   refine goCh Hz (.move rfl <| .move rfl <| .move rfl <| .move rfl <| .nilCheck rfl <| .fieldAddr (off := 0) rfl Tryd.underlying60 rfl (s := 0) (by kernel_rfl) rfl <| .loadB1 m7 (i := 1) rfl rfl rfl Tryd.underlying22 rfl <| .len rfl Tryd.underlying22 <| .c rfl (fun _ h => y_min h rfl rfl (r := min to (secs.length : Int)) rfl) <| .move rfl <| .nil) ?_
   clear Hz Az; intro Az Hz
   refine wpList_plain rfl (fun K hK => ?_)
   refine e_call Hz Tryd.func32 rfl rfl rfl rfl (one_no _ _ secs V wl f _ gn _ _ _ _ _ hVl hV hVs hwl hsl (by omega) (by omega) (by omega) g0 g1 hR (m7.into [(1, 1), (2, 2), (3, 3)] (by decide) rfl)) ?_
   rintro e w18 ⟨rfl, hm18⟩
   have mx18 := m7.back hm18 [(1, 1), (2, 2), (3, 3)] (by decide); clear hm18 m7
   have m18 : MemOk _ _ [(1, _), (2, _), (3, _), (9, _)] _ := mx18.only [1, 2, 3, 9]; clear mx18
   refine ⟨_, rfl, ?_⟩; clear Hz Az; intro Az Hz
   refine hK _ _ ?_; clear hK K
   refine goCh Hz (.move rfl <| .extract rfl rfl <| .extract rfl rfl <| .assign rfl <| .assign rfl <| .nil) ?_
   clear Hz Az; intro Az Hz
   refine wpList_nil ?_
   refine hK1 _ _ ?_; clear hK1; try clear K1
   refine wp_seq_k (fun K2 hK2 => ?_)
   replace Hz : Has 41 [(0, _), (1, _), (2, _), (3, _), (10, _), (11, _), (12, _)] Az := Hz.only [0, 1, 2, 3, 10, 11, 12]
   refine regS Hz (.move rfl <| .eql rfl rfl <| .nil) ?_
   clear Hz Az; intro Az Hz
   refine bool_cases Hz (t := 31) rfl ?_ ?_
   rotate_left
   · intro hb _; exact absurd hb (by simp)
   clear Hz; intro _ Hz
   refine wp_cond_true (Hz.ev (x := .tmp 31) rfl) ?_
   refine regS Hz (.move rfl <| .move rfl <| .assign rfl <| .assign rfl <| .nil) ?_
   clear Hz Az; intro Az Hz
   refine wp_ret ?_
   try dsimp only [Exit.then, Exit.inBlock]
   refine (ret2 (fn := Tryd.f16) Hz rfl rfl rfl ?_)
   have m33 := m18.freezeR 9 rfl; clear m18
   rw [hTot]
   exact ⟨_, _, rfl, m33.ren [(1, 1), (2, 2), (3, 3), (4, 9)] (by decide)⟩
  ·
   obtain ⟨hf9, hn1, hn2, hn3⟩ := readV_at hR hVs
   have hR2 : readV V (f : Int) to gn = some (z, nn) := by rw [← readV_min hVs, hVl]; exact hR
   have hft : (f : Int) < to := by omega
   obtain ⟨j, rfl⟩ : ∃ j, m = j + 1 := ⟨m - 1, by omega⟩
   have hll : ls.length ≤ 1000 := hls.elim (fun e => by rw [e]; simp) (fun e => by omega)
   have hS2 := hS.trans (scanF_some ls hft hR2)
   refine wp_region_lit ?_
   refine goCh Hz (.move rfl <| .move rfl <| .move rfl <| .move rfl <| .nilCheck rfl <| .fieldAddr (off := 0) rfl Tryd.underlying60 rfl (s := 0) (by kernel_rfl) rfl <| .loadB1 m7 (i := 1) rfl rfl rfl Tryd.underlying22 rfl <| .len rfl Tryd.underlying22 <| .c rfl (fun _ h => y_min h rfl rfl (r := min to (secs.length : Int)) rfl) <| .move rfl <| .nil) ?_
   clear Hz Az; intro Az Hz
   refine wpList_plain rfl (fun K hK => ?_)
   refine e_call Hz Tryd.func32 rfl rfl rfl rfl (one_yes _ _ secs V wl f _ gn _ _ _ _ _ hVl hV hVs hwl hsl (by omega) (by omega) (by omega) g0 g1 hR (m7.into [(1, 1), (2, 2), (3, 3)] (by decide) rfl)) ?_
   rintro e w44 ⟨p44, c44, rfl, hm44⟩
   have mx44 := m7.back hm44 [(1, 1), (2, 2), (3, 3), (100, 4)] (by decide); clear hm44 m7
   have m44 : MemOk _ _ [(1, _), (2, _), (3, _), (100, _), (9, _)] _ := mx44.only [1, 2, 3, 100, 9]; clear mx44
   refine ⟨_, rfl, ?_⟩; clear Hz Az; intro Az Hz
   refine hK _ _ ?_; clear hK K
   have m46 := m44.freezeN 100 rfl; clear m44
   refine goCh Hz (.move rfl <| .extract rfl rfl <| .extract rfl rfl <| .assign rfl <| .assign rfl <| .nil) ?_
   clear Hz Az; intro Az Hz
   refine wpList_nil ?_
   refine hK1 _ _ ?_; clear hK1; try clear K1
   refine wp_seq_k (fun K3 hK3 => ?_)
   replace Hz : Has 41 [(0, _), (1, _), (2, _), (3, _), (10, _), (11, _), (12, _)] Az := Hz.only [0, 1, 2, 3, 10, 11, 12]
   refine regS Hz (.move rfl <| .eql rfl rfl <| .nil) ?_
   clear Hz Az; intro Az Hz
   refine bool_cases Hz (t := 31) rfl ?_ ?_
   · intro hb _; exact absurd hb (by rw [decide_eq_true_eq]; omega)
   clear Hz; intro _ Hz
   refine wp_cond_false (Hz.ev (x := .tmp 31) rfl) ?_
   refine wp_skip ?_
   refine hK3 _ _ ?_; clear hK3; try clear K3
   refine wp_region_lit ?_
   refine goCh Hz (.move rfl <| .move rfl <| .nil) ?_
   clear Hz Az; intro Az Hz
   refine wpList_plain rfl (fun K hK => ?_)
   refine e_litR Hz m46 101 (mm := 1) rfl (.cons rfl rfl (.cons (m46.rd (i := 100) rfl) .nil) <| .nil) Tryd.underlying22 inf24rsn rfl rfl rfl rfl rfl ?_
   clear Hz Az m46; intro g58 Az w59 Hz m59
   refine hK _ _ ?_; clear hK K
   have m61 := m59.freezeR 101 rfl; clear m59
   refine wpList_plain rfl (fun K hK => ?_)
   refine e_appR Hz m61 9 rfl rfl rfl (m61.rd (i := 101) rfl) Tryd.underlying22 inf24rsn rfl rfl (by decide) (by rw [List.length_map]; simp; omega) rfl ?_
   clear Hz Az m61; intro p60 c60 Az w62 Hz m62
   refine hK _ _ ?_; clear hK K
   refine goCh Hz (.move rfl <| .move rfl <| .add rfl rfl (r := ((f + nn : Nat) : Int)) (by rw [IntWalk.i64_in _ (by omega)]; omega) <| .assign rfl <| .assign rfl <| .nil) ?_
   clear Hz Az; intro Az Hz
   refine wpList_nil ?_
   show ∃ n', n' < _ ∧ _
   have e9 : ls.map bD ++ [[D.ns .u8 z]] = (ls ++ [z]).map bD := by rw [List.map_append]; rfl
   rw [e9, List.length_map] at Hz m62
   exact ⟨j, by omega, j, f + nn, ls ++ [z], _, _, rfl, by omega, by omega, .inr ⟨by rw [List.length_append]; rcases hls with rfl | hls <;> simp <;> omega, by omega⟩, hS2, Hz.only [0, 1, 2, 3, 10], m62.only [1, 2, 3, 9]⟩
end Go.Proofs.YtogjhjiapinmcaaDoor.K
