/- The reference's one. -/
import Derived.Test.YtogjhjiapinmcaaDoorWalR9
namespace Go.Proofs.YtogjhjiapinmcaaDoor.K
open Go.ChangeShapes Go.WideShapes Go.ChangeAt Go.RowKit
set_option linter.unusedVariables false
set_option linter.unusedSimpArgs false

theorem fl95r1e : flatS Tryd.prog 95 [.slice none 0 0, .int .i64 0] = true := by kernel_rfl
theorem inf5r1e : (Tryd.prog.info? 5).map (fun i => (i.zero, i.size, i.bytes)) = some (some (.int .u8 0), 1, 1) := by kernel_rfl
theorem sz5r1e : (Tryd.prog.info? 5).map (·.size) = some 1 := by kernel_rfl
theorem zc95r1e : ((Tryd.prog.info? 95).bind (·.zero)).map (·.cells.toList) = some [.slice none 0 0, .int .i64 0] := by kernel_rfl

set_option maxRecDepth 100000
set_option maxHeartbeats 4000000
theorem one_miss {V : List (List Int)} {f t gn : Int} {k : Nat} (hs : ∀ s ∈ V, Sec s) (hm : (k = 0 ∨ ∃ (b0 : List Int) (n0 : Nat) (y0 : List Int), partV V f gn = some b0 ∧ numR b0 0 65535 = ((n0 : Int), y0, 0) ∧ y0.length ≤ 48 ∧ 48 * k < 48 - y0.length + n0 + 4)) (h : partV V (f + k) gn = none) : readV V f t gn = none := by
 rcases hm with rfl | ⟨b0, n0, y0, h1, h2, h3, h4⟩
 · rw [show f + ((0 : Nat) : Int) = f by omega] at h; exact readV_pnone h
 · exact readV_short hs h1 h2 h3 h4 (.inr h)
theorem one_end {V : List (List Int)} {f t gn : Int} {k : Nat} (hs : ∀ s ∈ V, Sec s) (hm : (k = 0 ∨ ∃ (b0 : List Int) (n0 : Nat) (y0 : List Int), partV V f gn = some b0 ∧ numR b0 0 65535 = ((n0 : Int), y0, 0) ∧ y0.length ≤ 48 ∧ 48 * k < 48 - y0.length + n0 + 4)) (h : t ≤ f + k) : readV V f t gn = none := by
 rcases hm with rfl | ⟨b0, n0, y0, h1, h2, h3, h4⟩
 · cases hR : readV V f t gn with
   | none => rfl
   | some q => obtain ⟨x, n⟩ := q; have := readV_at hR hs; omega
 · exact readV_short hs h1 h2 h3 h4 (.inl h)
def OneR (X : Cx) (w0 w' : World) (e : Ending) (T : TypeId) (B : Nat) (cs : List Value) (M : Mm) : Option (List Int × Nat) → Prop
 | none => e = .returned (.tuple #[.slice none 0 0, .int .i64 0]) ∧ MemOk X w0 ((1, .box B T cs) :: M) w'
 | some (x, n) => ∃ (p : Option Addr) (c : Nat), e = .returned (.tuple #[.slice p x.length c, .int .i64 (n : Int)]) ∧ MemOk X w0 ((1, .box B T cs) :: (M ++ [(4, .num (.slice p x.length c) 5 .u8 x)])) w'
theorem one_x (X : Cx) (B : Nat) (secs V : List (List Int)) (wl : List (Int × List Int)) (f : Nat) (t gn : Int) (pS pl : Option Addr) (cS cl : Nat) (w0 : World) (hVl : V.length = secs.length) (hV : ∀ i, i < secs.length → curV secs wl i = V.getD i []) (hVs : ∀ s ∈ V, Sec s) (hwl : wl.length ≤ 1000000) (hsl : secs.length ≤ 100) (hf : f ≤ 1000000) (ht0 : -9223372036854775808 ≤ t) (ht : t ≤ secs.length) (g0 : 0 ≤ gn) (g1 : gn ≤ 18446744073709551615) (m0 : MemOk X w0 [(1, .box B 60 [.slice pS secs.length cS, .slice pl wl.length cl, .int .i64 (-1)]), (2, .dat (.slice pS secs.length cS) (.l 1 (secs.map bD))), (3, .dat (.slice pl wl.length cl) (.l 2 (wl.map wD)))] w0) :
   Calls Tryd.prog 32 #[.pointer (some ⟨B, 0, none⟩), .int .i64 f, .int .i64 t, .int .u64 gn] w0 fun e w' => OneR X w0 w' e 60 B [.slice pS secs.length cS, .slice pl wl.length cl, .int .i64 (-1)] [(2, .dat (.slice pS secs.length cS) (.l 1 (secs.map bD))), (3, .dat (.slice pl wl.length cl) (.l 2 (wl.map wD)))] (readV V (f : Int) t gn) := by
 refine enter (fn := Tryd.f32) Tryd.func32 rfl Tryd.ntmps32 rfl (fun Az Hz => ?_)
 simp only [List.zipIdx_cons, List.zipIdx_nil, List.map_cons, List.map_nil, Nat.reduceAdd, Nat.zero_add] at Hz
 refine regS Hz (.assign rfl <| .assign rfl <| .nil) ?_
 clear Hz Az; intro Az Hz
 refine regS Hz (.assign rfl <| .nil) ?_
 clear Hz Az; intro Az Hz
 refine wp_seq_k (fun K0 hK0 => ?_)
 refine regS Hz (.move rfl <| .assign rfl <| .nil) ?_
 clear Hz Az; intro Az Hz
 refine wp_block ?_
 refine wp_loop_ghost (fun g a w => ∃ (k : Nat) (xs : List Int) (p : Option Addr) (c : Nat), g = (t - (f + k)).toNat ∧ (k = 0 ∨ (f : Int) + k ≤ t) ∧ partsK V f gn k = some xs ∧ xs.length = 48 * k ∧ BytesL xs ∧ (k = 0 ∨ ∃ (b0 : List Int) (n0 : Nat) (y0 : List Int), partV V f gn = some b0 ∧ numR b0 0 65535 = ((n0 : Int), y0, 0) ∧ y0.length ≤ 48 ∧ 48 * k < 48 - y0.length + n0 + 4) ∧ Has 89 [(0, .pointer (some ⟨B, 0, none⟩)), (1, .int .i64 (f : Nat)), (2, .int .i64 t), (3, .int .u64 gn), (10, .slice p xs.length c), (11, .int .i64 (f + k : Nat))] a ∧ MemOk X w0 [(1, .box B 60 [.slice pS secs.length cS, .slice pl wl.length cl, .int .i64 (-1)]), (2, .dat (.slice pS secs.length cS) (.l 1 (secs.map bD))), (3, .dat (.slice pl wl.length cl) (.l 2 (wl.map wD))), (9, .seg (.slice p xs.length c) 5 1 (xs.map nB))] w) ((t - f).toNat) ?_ ?_
 · have mz := m0.nilR 9 5 1
   exact ⟨0, [], none, 0, by simp, .inl rfl, rfl, rfl, (fun x hx => by cases hx), .inl rfl, Hz.only [0, 1, 2, 3, 10, 11], mz.rowS 9 rfl |>.only [1, 2, 3, 9]⟩
 ·
  clear Hz m0
  rintro g Az w6 ⟨k, xs, p, c, hg, hkf, hK, hxl, hxb, hm, Hz, m6⟩
  refine wp_seq_k (fun K1 hK1 => ?_)
  refine regS Hz (.move rfl <| .move rfl <| .lss rfl rfl <| .nil) ?_
  clear Hz Az; intro Az Hz
  refine bool_cases Hz (t := 21) rfl ?_ ?_
  ·
   clear Hz; intro hb10 Hz
   try simp only [Q1x, Q2x, Q3x, Q4x, Q5x, Q6x, Q7x, Q8x, Q9x, Q0x, Qax, Qbx] at hb10
   have hkt : (f : Int) + k < t := by have := hb10; first | omega | (simp at this; omega)
   have hs9 := sec_get hVs (i := f + k) (by omega)
   have h64 := hs9.1
   have hpn := part_num (V := V) (i := f + k) (gn := gn) (by omega) hs9 g0 g1
   refine wp_cond_true (Hz.ev (x := .tmp 21) rfl) ?_
   refine wp_skip ?_
   refine hK1 _ _ ?_; clear hK1; try clear K1
   refine wp_seq_k (fun K2 hK2 => ?_)
   refine wp_block ?_
   refine wp_seq_k (fun K3 hK3 => ?_)
   refine wp_region_lit ?_
   refine goCh Hz (.move rfl <| .move rfl <| .nil) ?_
   clear Hz Az; intro Az Hz
   refine wpList_plain rfl (fun K hK => ?_)
   refine e_call Hz Tryd.func49 rfl rfl rfl rfl (rread_x _ _ secs wl (f + k) _ _ _ _ _ (by omega) (by omega) (by rw [hV (f + k) (by omega), hs9.1]; omega) (m6.into [(1, 1), (2, 2), (3, 3)] (by decide) rfl)) ?_
   rintro e w15 ⟨p15, c15, rfl, hm15⟩
   have mx15 := m6.back hm15 [(1, 1), (2, 2), (3, 3), (100, 4)] (by decide); clear hm15 m6
   have m15 : MemOk _ _ [(1, _), (2, _), (3, _), (100, _), (9, _)] _ := mx15.only [1, 2, 3, 100, 9]; clear mx15
   refine ⟨_, rfl, ?_⟩; clear Hz Az; intro Az Hz
   refine hK _ _ ?_; clear hK K
   rw [hV (f + k) (by omega)] at m15 Hz
   have m18 := m15.freezeN 100 rfl; clear m15
   refine goCh Hz (.assign rfl .nil) ?_
   clear Hz Az; intro Az Hz
   refine wpList_nil ?_
   refine hK3 _ _ ?_; clear hK3; try clear K3
   refine wp_seq_k (fun K4 hK4 => ?_)
   replace Hz : Has 89 [(0, _), (1, _), (2, _), (3, _), (10, _), (11, _), (12, _)] Az := Hz.only [0, 1, 2, 3, 10, 11, 12]
   refine wp_seq_k (fun K5 hK5 => ?_)
   refine wp_region_lit ?_
   refine goCh Hz (.move rfl .nil) ?_
   clear Hz Az; intro Az Hz
   refine wpList_plain rfl (fun K hK => ?_)
   refine e_call Hz Tryd.func50 rfl rfl rfl rfl (rnum8_x (V.getD (f + k) []) _ _ (m18.rd (i := 100) rfl).ns_out (by omega) hs9.2) ?_
   rintro e w23 ⟨rfl, hb23⟩
   have m24 := m18.later hb23
   clear m18
   clear hb23
   refine ⟨_, rfl, ?_⟩; clear Hz Az; intro Az Hz
   refine hK _ _ ?_; clear hK K
   refine goCh Hz (.move rfl <| .neq rfl rfl <| .move rfl <| .nil) ?_
   clear Hz Az; intro Az Hz
   refine bool_cases Hz (t := 31) rfl ?_ ?_
   ·
    clear Hz; intro hb29 Hz
    try simp only [Q1x, Q2x, Q3x, Q4x, Q5x, Q6x, Q7x, Q8x, Q9x, Q0x, Qax, Qbx] at hb29
    have hA : ¬ ((num8 (V.getD (f + k) []) 8 : Nat) : Int) = gn := by have := hb29; simpa using this
    have hP0 : partV V ((f : Int) + k) gn = none := by rw [(show (f : Int) + (k : Int) = ((f + k : Nat) : Int) by omega), hpn, if_neg (fun h => hA h.1)]
    refine goCh Hz (.sk <| .sk <| .sk <| .sk <| .sk <| .pickT rfl rfl <| .nil) ?_
    clear Hz Az; intro Az Hz
    refine wpList_nil ?_
    refine hK5 _ _ ?_; clear hK5; try clear K5
    refine wp_cond_true (Hz.ev (x := .tmp 37) rfl) ?_
    replace Hz : Has 89 [(0, _), (1, _), (2, _), (3, _), (10, _), (11, _), (12, _)] Az := Hz.only [0, 1, 2, 3, 10, 11, 12]
    refine regS Hz (.assign rfl <| .assign rfl <| .nil) ?_
    clear Hz Az; intro Az Hz
    refine wp_ret ?_
    try dsimp only [Exit.then, Exit.inBlock]
    refine (ret2 (fn := Tryd.f32) Hz rfl rfl rfl ?_)
    have hR : readV V (f : Int) t gn = none := by first | rw [readV_some q1 q2 (partV_ok q1 hVs).1, if_pos hE] | exact one_miss hVs hm hP0 | exact one_end hVs hm hkt | (rw [hRV, hAL, if_neg (by rw [hO]; decide)])
    rw [hR]
    exact ⟨rfl, m24.only [1, 2, 3]⟩
   ·
    clear Hz; intro hb29 Hz
    try simp only [Q1x, Q2x, Q3x, Q4x, Q5x, Q6x, Q7x, Q8x, Q9x, Q0x, Qax, Qbx] at hb29
    have hA : ((num8 (V.getD (f + k) []) 8 : Nat) : Int) = gn := by have := hb29; simpa using this
    refine goCh Hz (.moveZ rfl <| .g rfl rfl rfl rfl (fun _ h => y_sliceLn h (56) rfl rfl Tryd.underlying24 sz5r1e rfl (show 56 ≤ (V.getD (f + k) []).length by omega)) <| .nil) ?_
    clear Hz Az; intro Az Hz
    refine st_ge Hz rfl rfl rfl rfl (fun K hK => ?_)
    refine e_call Hz Tryd.func50 rfl rfl rfl rfl (rnum8_x ((V.getD (f + k) []).drop 56) _ _ ((m24.rd (i := 100) rfl).ns_out.drop 56 (by omega)) (by rw [List.length_drop]; omega) (fun x hx => hs9.2 x (List.mem_of_mem_drop hx))) ?_
    rintro e w41 ⟨rfl, hb41⟩
    have m42 := m24.later hb41
    clear m24
    clear hb41
    refine ⟨_, rfl, ?_⟩; clear Hz Az; intro Az Hz
    refine hK _ _ ?_; clear hK K
    refine goCh Hz (.moveZ rfl <| .neqZ rfl rfl <| .pickF rfl rfl <| .nil) ?_
    clear Hz Az; intro Az Hz
    refine wpList_nil ?_
    refine hK5 _ _ ?_; clear hK5; try clear K5
    refine bool_cases Hz (t := 37) rfl ?_ ?_
    ·
     clear Hz; intro hb47 Hz
     try simp only [Q1x, Q2x, Q3x, Q4x, Q5x, Q6x, Q7x, Q8x, Q9x, Q0x, Qax, Qbx] at hb47
     have hP0 : partV V ((f : Int) + k) gn = none := by
       rw [(show (f : Int) + (k : Int) = ((f + k : Nat) : Int) by omega), hpn, if_neg (fun h => by have h9 := hb47; rw [h.2] at h9; simp at h9)]
     refine wp_cond_true (Hz.ev (x := .tmp 37) rfl) ?_
     replace Hz : Has 89 [(0, _), (1, _), (2, _), (3, _), (10, _), (11, _), (12, _)] Az := Hz.only [0, 1, 2, 3, 10, 11, 12]
     refine regS Hz (.assign rfl <| .assign rfl <| .nil) ?_
     clear Hz Az; intro Az Hz
     refine wp_ret ?_
     try dsimp only [Exit.then, Exit.inBlock]
     refine (ret2 (fn := Tryd.f32) Hz rfl rfl rfl ?_)
     have hR : readV V (f : Int) t gn = none := by first | rw [readV_some q1 q2 (partV_ok q1 hVs).1, if_pos hE] | exact one_miss hVs hm hP0 | exact one_end hVs hm hkt | (rw [hRV, hAL, if_neg (by rw [hO]; decide)])
     rw [hR]
     exact ⟨rfl, m42.only [1, 2, 3]⟩
    ·
     clear Hz; intro hb47 Hz
     try simp only [Q1x, Q2x, Q3x, Q4x, Q5x, Q6x, Q7x, Q8x, Q9x, Q0x, Qax, Qbx] at hb47
     have hC : ((num8 ((V.getD (f + k) []).drop 56) 8 : Nat) : Int) = gn := by have := hb47; simpa using this
     obtain ⟨z, hz⟩ : ∃ z, ((V.getD (f + k) []).take 56).drop 8 = z := ⟨_, rfl⟩
     have hP : partV V ((f : Int) + k) gn = some z := by rw [(show (f : Int) + (k : Int) = ((f + k : Nat) : Int) by omega), hpn, if_pos ⟨hA, hC⟩, hz]
     have hKn := partsK_snoc hK hP
     obtain ⟨hz48, hzb⟩ := partV_ok hP hVs
     have hzl : (((V.getD (f + k) []).take 56).drop 8).length = 48 := by rw [hz]; exact hz48
     have hbb := bytesApp hxb hzb
     have hxl2 : (xs ++ z).length = 48 * (k + 1) := by rw [List.length_append]; omega
     obtain ⟨⟨a1, y, er2⟩, hN⟩ : ∃ q, numR (xs ++ z) 0 65535 = q := ⟨_, rfl⟩
     obtain ⟨⟨ha0, ha1⟩, hyl, -, -, -⟩ := numR_all hN hbb (by omega) (by decide)
     obtain ⟨n, rfl⟩ : ∃ n : Nat, a1 = (n : Int) := ⟨a1.toNat, by omega⟩
     obtain ⟨b0, y0, q1, q2, q3, q4⟩ := one_num hVs hK hP hN (hm.imp id fun ⟨b0, n0, y0, h1, h2, _⟩ => ⟨b0, _, y0, h1, h2⟩)
     refine wp_cond_false (Hz.ev (x := .tmp 37) rfl) ?_
     refine wp_skip ?_
     refine hK4 _ _ ?_; clear hK4; try clear K4
     replace Hz : Has 89 [(0, _), (1, _), (2, _), (3, _), (10, _), (11, _), (12, _)] Az := Hz.only [0, 1, 2, 3, 10, 11, 12]
     refine wp_seq_k (fun K6 hK6 => ?_)
     refine wp_region_lit ?_
     refine goCh Hz (.move rfl <| .move rfl <| .nil) ?_
     clear Hz Az; intro Az Hz
     have hcap57 := (m42.rd (i := 100) rfl).ns_out.cap
     have m57 := m42.partN (i := 100) rfl 8 56 (by omega) (by omega) 101 rfl; clear m42
     refine goCh Hz (.c rfl (fun _ h => y_sliceLHn h 8 56 rfl rfl rfl Tryd.underlying24 sz5r1e rfl rfl (by omega) (by omega)) .nil) ?_
     clear Hz Az; intro Az Hz
     refine wpList_plain rfl (fun K hK => ?_)
     refine e_appSA Hz m57 9 rfl rfl rfl (srcB (m57.rd (i := 101) rfl)) Tryd.underlying24 inf5r1e rfl rfl (by decide) (by simp only [List.length_map]; omega) rfl ?_
     clear Hz Az m57; intro p59 c59 Az w60 Hz m60
     refine hK _ _ ?_; clear hK K
     have e9 : xs.map nB ++ (((V.getD (f + k) []).take 56).drop 8).map nB = (xs ++ z).map nB := by rw [hz, List.map_append]
     rw [e9, List.length_map] at Hz m60
     refine goCh Hz (.assign rfl .nil) ?_
     clear Hz Az; intro Az Hz
     refine wpList_nil ?_
     refine hK6 _ _ ?_; clear hK6; try clear K6
     refine wp_seq_k (fun K7 hK7 => ?_)
     refine wp_region_lit ?_
     refine goCh Hz (.move rfl <| .build rfl zc95r1e fl95r1e rfl (by dsimp only [setL, List.set] <;> rfl) <| .nil) ?_
     clear Hz Az; intro Az Hz
     refine wpList_plain rfl (fun K hK => ?_)
     refine e_box Hz m60 102 (cs := [_, _]) rfl rfl rfl ?_
     clear Hz Az m60; intro g66 Az w67 Hz m67 hB67 hg67
     clear hB67 hg67
     refine hK _ _ ?_; clear hK K
     refine goCh Hz (.assign rfl .nil) ?_
     clear Hz Az; intro Az Hz
     refine wpList_nil ?_
     refine hK7 _ _ ?_; clear hK7; try clear K7
     replace Hz : Has 89 [(0, _), (1, _), (2, _), (3, _), (10, _), (11, _), (13, _)] Az := Hz.only [0, 1, 2, 3, 10, 11, 13]
     refine wp_seq_k (fun K8 hK8 => ?_)
     refine wp_region_lit ?_
     refine goCh Hz (.move rfl .nil) ?_
     clear Hz Az; intro Az Hz
     refine wpList_plain rfl (fun K hK => ?_)
     refine e_call Hz Tryd.func51 rfl rfl rfl rfl (rnum_e (hN := hN) _ _ _ _ _ (by omega) hbb (m67.into [(1, 102), (2, 9)] (by decide) rfl)) ?_
     rintro e w72 ⟨p72, c72, rfl, hm72⟩
     have mx72 := m67.back hm72 [(102, 1), (9, 2)] (by decide); clear hm72 m67
     have m72 : MemOk _ _ [(102, _), (9, _), (1, _), (2, _), (3, _), (100, _), (101, _)] _ := mx72.only [102, 9, 1, 2, 3, 100, 101]; clear mx72
     refine ⟨_, rfl, ?_⟩; clear Hz Az; intro Az Hz
     refine hK _ _ ?_; clear hK K
     refine goCh Hz (.assign rfl .nil) ?_
     clear Hz Az; intro Az Hz
     refine wpList_nil ?_
     refine hK8 _ _ ?_; clear hK8; try clear K8
     refine wp_seq_k (fun K9 hK9 => ?_)
     refine regS Hz (.move rfl <| .nilCheck rfl <| .fieldAddr (off := 1) rfl Tryd.underlying95 rfl (s := 0) (by kernel_rfl) rfl <| .loadB1 m72 (i := 102) rfl rfl rfl Tryd.underlying3 rfl <| .neq rfl rfl <| .nil) ?_
     clear Hz Az; intro Az Hz
     refine bool_cases Hz (t := 51) rfl ?_ ?_
     ·
      clear Hz; intro hb80 Hz
      try simp only [Q1x, Q2x, Q3x, Q4x, Q5x, Q6x, Q7x, Q8x, Q9x, Q0x, Qax, Qbx] at hb80
      have hE : er2 ≠ 0 := by have := hb80; simpa using this
      refine wp_cond_true (Hz.ev (x := .tmp 51) rfl) ?_
      replace Hz : Has 89 [(0, _), (1, _), (2, _), (3, _), (10, _), (11, _), (13, _), (14, _)] Az := Hz.only [0, 1, 2, 3, 10, 11, 13, 14]
      refine regS Hz (.assign rfl <| .assign rfl <| .nil) ?_
      clear Hz Az; intro Az Hz
      refine wp_ret ?_
      try dsimp only [Exit.then, Exit.inBlock]
      refine (ret2 (fn := Tryd.f32) Hz rfl rfl rfl ?_)
      have hR : readV V (f : Int) t gn = none := by first | rw [readV_some q1 q2 (partV_ok q1 hVs).1, if_pos hE] | exact one_miss hVs hm hP0 | exact one_end hVs hm hkt | (rw [hRV, hAL, if_neg (by rw [hO]; decide)])
      rw [hR]
      exact ⟨rfl, m72.only [1, 2, 3]⟩
     ·
      clear Hz; intro hb80 Hz
      try simp only [Q1x, Q2x, Q3x, Q4x, Q5x, Q6x, Q7x, Q8x, Q9x, Q0x, Qax, Qbx] at hb80
      obtain rfl : er2 = 0 := by have := hb80; simpa using this
      have q5 := q4 rfl
      refine wp_cond_false (Hz.ev (x := .tmp 51) rfl) ?_
      refine wp_skip ?_
      refine hK9 _ _ ?_; clear hK9; try clear K9
      replace Hz : Has 89 [(0, _), (1, _), (2, _), (3, _), (10, _), (11, _), (13, _), (14, _)] Az := Hz.only [0, 1, 2, 3, 10, 11, 13, 14]
      refine regS Hz (.move rfl <| .len rfl Tryd.underlying24 <| .move rfl <| .nilCheck rfl <| .fieldAddr (off := 0) rfl Tryd.underlying95 rfl (s := 0) (by kernel_rfl) rfl <| .loadB1 m72 (i := 102) rfl rfl rfl Tryd.underlying24 rfl <| .len rfl Tryd.underlying24 <| .sub rfl rfl (r := (((xs ++ z).length - y.length) : Nat)) (by rw [IntWalk.i64_in _ (by omega)]; omega) <| .move rfl <| .conv rfl Tryd.underlying32 Tryd.underlying3 (r := (n : Int)) (IntWalk.i64_in _ (by omega)) <| .add rfl rfl (r := (((xs ++ z).length - y.length) + n : Nat)) (by rw [IntWalk.i64_in _ (by omega)]; omega) <| .add rfl rfl (r := ((((xs ++ z).length - y.length) + n + 4) : Nat)) (by rw [IntWalk.i64_in _ (by omega)]; omega) <| .assign rfl <| .nil) ?_
      clear Hz Az; intro Az Hz
      refine wp_seq_k (fun K10 hK10 => ?_)
      replace Hz : Has 89 [(0, _), (1, _), (2, _), (3, _), (10, _), (11, _), (14, _), (15, _)] Az := Hz.only [0, 1, 2, 3, 10, 11, 14, 15]
      refine regS Hz (.move rfl <| .len rfl Tryd.underlying24 <| .move rfl <| .lss rfl rfl <| .nil) ?_
      clear Hz Az; intro Az Hz
      refine bool_cases Hz (t := 67) rfl ?_ ?_
      ·
       clear Hz; intro hb103 Hz
       try simp only [Q1x, Q2x, Q3x, Q4x, Q5x, Q6x, Q7x, Q8x, Q9x, Q0x, Qax, Qbx] at hb103
       have hlt : (xs ++ z).length < (((xs ++ z).length - y.length) + n + 4) := by have := hb103; first | omega | (simp at this; omega)
       refine wp_cond_true (Hz.ev (x := .tmp 67) rfl) ?_
       refine wp_exit ?_
       refine hK2 _ _ ?_; clear hK2; try clear K2
       replace Hz : Has 89 [(0, _), (1, _), (2, _), (3, _), (10, _), (11, _)] Az := Hz.only [0, 1, 2, 3, 10, 11]
       refine wp_region_lit ?_
       refine goCh Hz (.move rfl <| .add rfl rfl (r := ((f + (k + 1) : Nat) : Int)) (by rw [IntWalk.i64_in _ (by omega)]; omega) <| .assign rfl <| .nil) ?_
       clear Hz Az; intro Az Hz
       refine wpList_nil ?_
       show ∃ n', n' < _ ∧ _
       clear hm
       exact ⟨(t - (f + (k + 1 : Nat))).toNat, by omega, k + 1, xs ++ z, _, _, rfl, by omega, hKn, hxl2, hbb, .inr ⟨b0, n, y0, q1, q2, q3, by omega⟩, Hz.only [0, 1, 2, 3, 10, 11], m72.only [1, 2, 3, 9]⟩
      ·
       clear Hz; intro hb103 Hz
       try simp only [Q1x, Q2x, Q3x, Q4x, Q5x, Q6x, Q7x, Q8x, Q9x, Q0x, Qax, Qbx] at hb103
       have hall : (((xs ++ z).length - y.length) + n + 4) ≤ (xs ++ z).length := by have := hb103; first | omega | (simp at this; omega)
       have hta : ((xs ++ z).take (((xs ++ z).length - y.length) + n + 4)).length = (((xs ++ z).length - y.length) + n + 4) := by rw [List.length_take]; omega
       refine wp_cond_false (Hz.ev (x := .tmp 67) rfl) ?_
       refine wp_skip ?_
       refine hK10 _ _ ?_; clear hK10; try clear K10
       refine wp_seq_k (fun K11 hK11 => ?_)
       have hAL : 48 - y0.length + n + 4 = (((xs ++ z).length - y.length) + n + 4) := by omega
       have hk48 : 48 * k < 48 - y0.length + n + 4 := by
         rcases hm with hm | ⟨b1, n1, y1, r1, r2, r3, r4⟩
         · omega
         · rw [q1] at r1; injection r1 with r1; subst r1; rw [q2] at r2; injection r2 with r2 r5; injection r5 with r5 _; subst r5; omega
       have hRV := readV_one (to := t) hVs q1 q2 q3 hKn hk48 (by omega) hkt
       rcases hO : openB ((xs ++ z).take (((xs ++ z).length - y.length) + n + 4)) with _ | _
       ·
        refine wp_region_lit ?_
        refine goCh Hz (.move rfl <| .move rfl <| .nil) ?_
        clear Hz Az; intro Az Hz
        have hcap110 := m72.capS (i := 9) rfl; rw [List.length_map] at hcap110
        refine goCh Hz (.c rfl (fun _ h => y_sliceHn h ((xs ++ z).take (((xs ++ z).length - y.length) + n + 4)).length rfl rfl Tryd.underlying24 sz5r1e (by rw [hta]) (by omega)) .nil) ?_
        clear Hz Az; intro Az Hz
        refine wpList_plain rfl (fun K hK => ?_)
        refine e_call Hz Tryd.func52 rfl rfl rfl rfl (ropen_b0 ((xs ++ z).take (((xs ++ z).length - y.length) + n + 4)) _ _ _ (fun x hx => hbb x (List.mem_of_mem_take hx)) (by omega) (by omega) hO (m72.rdTake (i := 9) rfl _ hall)) ?_
        rintro e w112 ⟨rfl, hb112⟩
        have m113 := m72.later hb112
        clear m72
        clear hb112
        refine ⟨_, rfl, ?_⟩; clear Hz Az; intro Az Hz
        refine hK _ _ ?_; clear hK K
        refine goCh Hz (.move rfl <| .extract rfl rfl <| .extract rfl rfl <| .assign rfl <| .assign rfl <| .nil) ?_
        clear Hz Az; intro Az Hz
        refine wpList_nil ?_
        refine hK11 _ _ ?_; clear hK11; try clear K11
        refine wp_seq_k (fun K12 hK12 => ?_)
        replace Hz : Has 89 [(0, _), (1, _), (2, _), (3, _), (10, _), (11, _), (14, _), (16, _), (17, _)] Az := Hz.only [0, 1, 2, 3, 10, 11, 14, 16, 17]
        refine regS Hz (.move rfl <| .not rfl <| .nil) ?_
        clear Hz Az; intro Az Hz
        refine wp_cond_true (Hz.ev (x := .tmp 76) rfl) ?_
        refine regS Hz (.assign rfl <| .assign rfl <| .nil) ?_
        clear Hz Az; intro Az Hz
        refine wp_ret ?_
        try dsimp only [Exit.then, Exit.inBlock]
        refine (ret2 (fn := Tryd.f32) Hz rfl rfl rfl ?_)
        have hR : readV V (f : Int) t gn = none := by first | rw [readV_some q1 q2 (partV_ok q1 hVs).1, if_pos hE] | exact one_miss hVs hm hP0 | exact one_end hVs hm hkt | (rw [hRV, hAL, if_neg (by rw [hO]; decide)])
        rw [hR]
        exact ⟨rfl, m113.only [1, 2, 3]⟩
       ·
        refine wp_region_lit ?_
        refine goCh Hz (.move rfl <| .move rfl <| .nil) ?_
        clear Hz Az; intro Az Hz
        have hcap127 := m72.capS (i := 9) rfl; rw [List.length_map] at hcap127
        refine goCh Hz (.c rfl (fun _ h => y_sliceHn h ((xs ++ z).take (((xs ++ z).length - y.length) + n + 4)).length rfl rfl Tryd.underlying24 sz5r1e (by rw [hta]) (by omega)) .nil) ?_
        clear Hz Az; intro Az Hz
        refine wpList_plain rfl (fun K hK => ?_)
        refine e_call Hz Tryd.func52 rfl rfl rfl rfl (ropen_b1 ((xs ++ z).take (((xs ++ z).length - y.length) + n + 4)) _ _ _ (fun x hx => hbb x (List.mem_of_mem_take hx)) (by omega) (by omega) hO (m72.rdTake (i := 9) rfl _ hall)) ?_
        rintro e w129 ⟨rfl, hb129⟩
        have m130 := m72.later hb129
        clear m72
        clear hb129
        refine ⟨_, rfl, ?_⟩; clear Hz Az; intro Az Hz
        refine hK _ _ ?_; clear hK K
        refine goCh Hz (.move rfl <| .extract rfl rfl <| .extract rfl rfl <| .assign rfl <| .assign rfl <| .nil) ?_
        clear Hz Az; intro Az Hz
        refine wpList_nil ?_
        refine hK11 _ _ ?_; clear hK11; try clear K11
        refine wp_seq_k (fun K13 hK13 => ?_)
        replace Hz : Has 89 [(0, _), (1, _), (2, _), (3, _), (10, _), (11, _), (14, _), (16, _), (17, _)] Az := Hz.only [0, 1, 2, 3, 10, 11, 14, 16, 17]
        refine regS Hz (.move rfl <| .not rfl <| .nil) ?_
        clear Hz Az; intro Az Hz
        refine wp_cond_false (Hz.ev (x := .tmp 76) rfl) ?_
        refine wp_skip ?_
        refine hK13 _ _ ?_; clear hK13; try clear K13
        refine wp_seq_k (fun K14 hK14 => ?_)
        refine wp_region_lit ?_
        refine goCh Hz (.move rfl <| .move rfl <| .len rfl Tryd.underlying24 <| .move rfl <| .conv rfl Tryd.underlying32 Tryd.underlying3 (r := (n : Int)) (IntWalk.i64_in _ (by omega)) <| .sub rfl rfl (r := (((xs ++ z).length - y.length) : Nat)) (by rw [IntWalk.i64_in _ (by omega)]; omega) <| .c rfl (fun _ h => y_sliceLn h ((xs ++ z).length - y.length) rfl rfl Tryd.underlying24 sz5r1e (by omega) (by omega)) <| .nil) ?_
        clear Hz Az; intro Az Hz
        refine wpList_plain rfl (fun K hK => ?_)
        refine e_app0N Hz m130 103 rfl rfl (((m130.rdNB (i := 9) rfl).ns_out.take (((xs ++ z).take (((xs ++ z).length - y.length) + n + 4)).length - 4) (by omega)).drop ((xs ++ z).length - y.length) (by rw [List.length_take]; omega)).nums Tryd.underlying24 inf5r1e (by decide) (by rw [List.length_drop, List.length_take]; omega) rfl ?_
        clear Hz Az m130; intro p154 c154 Az w155 Hz m155
        refine hK _ _ ?_; clear hK K
        refine goCh Hz (.move rfl <| .add rfl rfl (r := ((f + k + 1 : Nat) : Int)) (by rw [IntWalk.i64_in _ (by omega)]; omega) <| .move rfl <| .sub rfl rfl (r := ((k + 1 : Nat) : Int)) (by rw [IntWalk.i64_in _ (by omega)]; omega) <| .assign rfl <| .assign rfl <| .nil) ?_
        clear Hz Az; intro Az Hz
        refine wpList_nil ?_
        refine hK14 _ _ ?_; clear hK14; try clear K14
        refine wp_ret ?_
        try dsimp only [Exit.then, Exit.inBlock]
        refine (ret2 (fn := Tryd.f32) Hz rfl rfl rfl ?_)
        have e9 : ((xs ++ z).take (((xs ++ z).take (((xs ++ z).length - y.length) + n + 4)).length - 4)).drop ((xs ++ z).length - y.length) = (openC ((xs ++ z).take (((xs ++ z).length - y.length) + n + 4))).drop (48 - y0.length) := by
          rw [openC, if_pos hO, List.take_take, Nat.min_eq_left (by omega), q5]
        have hR : readV V (f : Int) t gn = some ((openC ((xs ++ z).take (((xs ++ z).length - y.length) + n + 4))).drop (48 - y0.length), k + 1) := by rw [hRV, hAL, if_pos hO]
        rw [e9] at m155
        rw [hR, e9]
        exact ⟨_, _, rfl, m155.ren [(1, 1), (2, 2), (3, 3), (4, 103)] (by decide)⟩
  ·
   clear Hz; intro hb10 Hz
   try simp only [Q1x, Q2x, Q3x, Q4x, Q5x, Q6x, Q7x, Q8x, Q9x, Q0x, Qax, Qbx] at hb10
   have hkt : t ≤ (f : Int) + k := by have := hb10; first | omega | (simp at this; omega)
   refine wp_cond_false (Hz.ev (x := .tmp 21) rfl) ?_
   refine wp_exit ?_
   refine hK0 _ _ ?_; clear hK0; try clear K0
   refine regS Hz (.assign rfl <| .assign rfl <| .nil) ?_
   clear Hz Az; intro Az Hz
   refine wp_ret ?_
   try dsimp only [Exit.then, Exit.inBlock]
   refine (ret2 (fn := Tryd.f32) Hz rfl rfl rfl ?_)
   have hR : readV V (f : Int) t gn = none := by first | rw [readV_some q1 q2 (partV_ok q1 hVs).1, if_pos hE] | exact one_miss hVs hm hP0 | exact one_end hVs hm hkt | (rw [hRV, hAL, if_neg (by rw [hO]; decide)])
   rw [hR]
   exact ⟨rfl, m6.only [1, 2, 3]⟩
end Go.Proofs.YtogjhjiapinmcaaDoor.K
