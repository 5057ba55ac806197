/- VolumePushes' walk. -/
import Derived.Test.YtocfbocdnklllaaGreatVol39
namespace Go.Proofs.YtocfbocdnklllaaGreat.K
open Go.ChangeShapes Go.WideShapes Go.ChangeAt Go.RowKit
set_option linter.unusedVariables false
set_option linter.unusedSimpArgs false

theorem inf2vpu : (Tryz.prog.info? 2).map (fun i => (i.zero, i.size, i.bytes)) = some (some (.int .i64 0), 1, 8) := by kernel_rfl
theorem sz2vpu : (Tryz.prog.info? 2).map (·.size) = some 1 := by kernel_rfl
theorem sz28vpu : (Tryz.prog.info? 28).map (·.size) = some 11 := by kernel_rfl
theorem sz32vpu : (Tryz.prog.info? 32).map (·.size) = some 8 := by kernel_rfl
theorem zc28vpu : ((Tryz.prog.info? 28).bind (·.zero)).map (·.cells.toList) = some [.int .i64 0, .int .i64 0, .int .i64 0, .int .i64 0, .slice none 0 0, .int .i64 0, .int .i64 0, .bool false, .int .i64 0, .slice none 0 0, .slice none 0 0] := by kernel_rfl
theorem zc32vpu : ((Tryz.prog.info? 32).bind (·.zero)).map (·.cells.toList) = some [.int .i64 0, .int .i64 0, .int .i64 0, .int .i64 0, .int .i64 0, .int .i64 0, .int .i64 0, .slice none 0 0] := by kernel_rfl
theorem chunk_math {bl pe ch : Int} {len : Nat} (h1 : 1 ≤ pe) (h2 : pe ≤ bl) (h3 : bl ≤ 256) (hl : (len : Int) = (bl + pe - 1) / pe) (hc : 0 ≤ ch ∧ ch < len) : 0 ≤ ch * pe ∧ ch * pe ≤ 1000000 ∧ 1 ≤ bl - ch * pe ∧ (ch = len - 1 → bl - ch * pe ≤ pe) ∧ (ch ≠ len - 1 → pe ≤ bl - ch * pe) := by
 have q1 := Int.ediv_mul_le (bl + pe - 1) (show pe ≠ 0 by omega)
 have q2 := Int.lt_ediv_add_one_mul_self (bl + pe - 1) (show 0 < pe by omega)
 rw [← hl] at q1 q2
 rw [Int.add_mul, Int.one_mul] at q2
 have q3 : 0 ≤ ch * pe := Int.mul_nonneg hc.1 (by omega)
 have q4 : ch * pe ≤ ((len : Int) - 1) * pe := Int.mul_le_mul_of_nonneg_right (by omega) (by omega)
 rw [Int.sub_mul, Int.one_mul] at q4
 refine ⟨q3, by omega, by omega, fun h => ?_, fun h => ?_⟩
 · subst h
   have q5 : ((len : Int) - 1) * pe = (len : Int) * pe - pe := by rw [Int.sub_mul, Int.one_mul]
   omega
 · have q6 : ch * pe ≤ ((len : Int) - 2) * pe := Int.mul_le_mul_of_nonneg_right (by omega) (by omega)
   rw [Int.sub_mul] at q6
   omega
theorem VolR.blk {vo bl sz pe to ne fl : Int} {hi : Bool} {place pins : List Int} {ws : List PWr} (h : VolR vo bl sz pe to ne fl hi place pins ws) : ∀ e ∈ ws, ∀ x ∈ e.2, 0 ≤ x.1 ∧ x.1 < bl := fun e he x hx => by
 obtain ⟨h1, h2, h3, h4, h5, h6, h7, h8, h9⟩ := h
 obtain ⟨j, hj, rfl⟩ := List.getElem_of_mem he
 have h10 := (h9 j hj).2
 rw [List.getD, List.getElem?_eq_getElem hj] at h10
 obtain ⟨i, hi, rfl⟩ := List.getElem_of_mem hx
 have h11 := h10.2.2 i hi
 simp only [Option.getD_some] at h11
 rw [List.getD, List.getElem?_eq_getElem hi] at h11
 simp only [Option.getD_some] at h11
 exact ⟨h11.1, h11.2.1⟩
def pshW (y : VolV) (ch mv : Int) : List PWr := pushL (ch * y.pe) (min y.pe (y.bl - ch * y.pe)) ((y.ws.take (min (mv + 4) (y.ws.length : Int)).toNat).drop mv.toNat)
theorem pshW_ok {y : VolV} {n : Nat} (hS : VolS n y) (hn : n ≤ 1000) (ch mv : Int) : (pshW y ch mv).length ≤ 1000000 ∧ ∀ e ∈ pshW y ch mv, e.2.length ≤ 1000000 := by
 obtain ⟨hV, -, -, hw⟩ := hS
 refine ⟨Nat.le_trans (push_len _ _ _) (by rw [List.length_drop, List.length_take]; omega), fun e he => ?_⟩
 unfold pshW pushL at he
 have h1 := (List.mem_filter.1 he).1
 obtain ⟨x, hx, rfl⟩ := List.mem_map.1 h1
 have h2 := hV.its.2 x (List.mem_of_mem_take (List.mem_of_mem_drop hx))
 exact Nat.le_trans (itemsL_len _ _ _) (by omega)
theorem vpush_ok (y : VolV) (n : Nat) (hS : VolS n y) (hn : n ≤ 1000) (pp pn pw : Option Addr) (cp cn9 cw : Nat) (ch mv : Int) (w0 : World) (h2 : Rd (fun _ => True) w0 (.slice pw (y.ws.map wrD).length cw) (.l 2 (y.ws.map wrD))) (hok : ((0 ≤ ch ∧ ch < (y.place.length : Int)) ∧ (0 ≤ mv ∧ mv ≤ (y.ws.length : Int)))) :
   Calls Tryz.prog 8 #[.agg #[.int .i64 y.vo, .int .i64 y.bl, .int .i64 y.sz, .int .i64 y.pe, .slice pp y.place.length cp, .int .i64 y.to, .int .i64 y.ne, .bool y.hi, .int .i64 y.fl, .slice pn y.pins.length cn9, .slice pw (y.ws.map wrD).length cw], .int .i64 ch, .int .i64 mv] w0 fun e w' => ∃ p c, e = .returned (.tuple #[.agg #[.int .i64 y.vo, .int .i64 ch, .int .i64 (min y.pe (y.bl - ch * y.pe)), .int .i64 y.sz, .int .i64 mv, .int .i64 (min (mv + 4) (y.ws.length : Int)), .int .i64 (min y.fl (min (mv + 4) (y.ws.length : Int))), .slice p ((pshW y ch mv).map wrD).length c], .bool true]) ∧ Rd (New w0) w' (.slice p ((pshW y ch mv).map wrD).length c) (.l 2 ((pshW y ch mv).map wrD)) ∧ Below w0.heap.size w0 w' := by
 obtain ⟨mk, rfl⟩ : ∃ m : Nat, mv = (m : Int) := ⟨mv.toNat, by omega⟩
 have hV := hS.1
 obtain ⟨v1, v2, v3, v4, v5, v6, v7, v8, v9⟩ := hV
 obtain ⟨n1, n2, n3, n4, n5, n6, n7, n8, n9, n10, n11⟩ := v1
 obtain ⟨c1, c2, c3, c4, c5⟩ := chunk_math n7 n8 n4 n9.2 hok.1
 have hsm := hS.sm
 have h := push_any y.vo y.bl y.sz y.pe y.to y.ne y.fl y.hi pp pn pw cp y.pins.length cn9 cw y.place y.ws ch (ch * y.pe) (min y.pe (y.bl - ch * y.pe)) mk (min ((mk : Int) + 4) (y.ws.length : Int)).toNat w0 (by rw [List.length_map] at h2; exact h2) (by omega) (by omega) hS.1.its.1 hok.1 (by omega) rfl ⟨c1, c2⟩ ⟨fun h => by have := c4 h; omega, fun h => by have := c5 h; omega⟩ ⟨by omega, by omega⟩ (by omega)
 rw [show ((min ((mk : Int) + 4) (y.ws.length : Int)).toNat : Int) = min ((mk : Int) + 4) (y.ws.length : Int) by omega] at h
 rw [List.length_map]
 exact h
theorem vpush_nok (y : VolV) (n : Nat) (hS : VolS n y) (hn : n ≤ 1000) (pp pn pw : Option Addr) (cp cn9 cw : Nat) (ch mv : Int) (w0 : World) (hok : ¬ ((0 ≤ ch ∧ ch < (y.place.length : Int)) ∧ (0 ≤ mv ∧ mv ≤ (y.ws.length : Int)))) :
   Calls Tryz.prog 8 #[.agg #[.int .i64 y.vo, .int .i64 y.bl, .int .i64 y.sz, .int .i64 y.pe, .slice pp y.place.length cp, .int .i64 y.to, .int .i64 y.ne, .bool y.hi, .int .i64 y.fl, .slice pn y.pins.length cn9, .slice pw (y.ws.map wrD).length cw], .int .i64 ch, .int .i64 mv] w0 fun e w' => e = .returned (.tuple #[.agg #[.int .i64 0, .int .i64 0, .int .i64 0, .int .i64 0, .int .i64 0, .int .i64 0, .int .i64 0, .slice none 0 0], .bool false]) ∧ Below w0.heap.size w0 w' :=
 vpush_no _ _ _ _ _ _ _ _ _ _ _ _ y.place _ _ _ _ ch mv w0 (by rw [List.length_map]; exact hok)
theorem rpush_nok (y : VolV) (n : Nat) (hS : VolS n y) (hn : n ≤ 1000) (pp pn pw : Option Addr) (cp cn9 cw : Nat) (ch mv : Int) (w0 : World) (hok : ¬ ((0 ≤ ch ∧ ch < (y.place.length : Int)) ∧ (0 ≤ mv ∧ mv ≤ (y.ws.length : Int)))) :
   Calls Tryz.prog 9 #[.agg #[.int .i64 y.vo, .int .i64 y.bl, .int .i64 y.sz, .int .i64 y.pe, .slice pp y.place.length cp, .int .i64 y.to, .int .i64 y.ne, .bool y.hi, .int .i64 y.fl, .slice pn y.pins.length cn9, .slice pw (y.ws.map wrD).length cw], .int .i64 ch, .int .i64 mv] w0 fun e w' => e = .returned (.tuple #[.agg #[.int .i64 0, .int .i64 0, .int .i64 0, .int .i64 0, .int .i64 0, .int .i64 0, .int .i64 0, .slice none 0 0], .bool false]) ∧ Below w0.heap.size w0 w' := by
 by_cases hc : 0 ≤ ch ∧ ch < (y.place.length : Int)
 · have hV := hS.1
   obtain ⟨v1, v2, v3, v4, v5, v6, v7, v8, v9⟩ := hV
   obtain ⟨n1, n2, n3, n4, n5, n6, n7, n8, n9, n10, n11⟩ := v1
   obtain ⟨c1, c2, c3, c4, c5⟩ := chunk_math n7 n8 n4 n9.2 hc
   exact rpush_nm _ _ _ _ _ _ _ _ _ _ _ _ y.place _ _ _ _ ch mv (ch * y.pe) (min y.pe (y.bl - ch * y.pe)) w0 hc n7 rfl ⟨c1, c2⟩ ⟨by omega, by omega⟩ rfl (by omega) (by rw [List.length_map]; exact fun h => hok ⟨hc, h⟩)
 · exact rpush_nc _ _ _ _ _ _ _ _ _ _ _ _ y.place _ _ _ _ ch mv w0 hc
theorem rpush_ok (X : Cx) (y : VolV) (n : Nat) (hS : VolS n y) (hn : n ≤ 1000) (pp pn pw : Option Addr) (cp cn9 cw : Nat) (ch mv : Int) (w0 : World) (hok : ((0 ≤ ch ∧ ch < (y.place.length : Int)) ∧ (0 ≤ mv ∧ mv ≤ (y.ws.length : Int)))) (m0 : MemOk X w0 [(3, .dat (.slice pw (y.ws.map wrD).length cw) (.l 2 (y.ws.map wrD)))] w0) :
   Calls Tryz.prog 9 #[.agg #[.int .i64 y.vo, .int .i64 y.bl, .int .i64 y.sz, .int .i64 y.pe, .slice pp y.place.length cp, .int .i64 y.to, .int .i64 y.ne, .bool y.hi, .int .i64 y.fl, .slice pn y.pins.length cn9, .slice pw (y.ws.map wrD).length cw], .int .i64 ch, .int .i64 mv] w0 fun e w' => ∃ p c, e = .returned (.tuple #[.agg #[.int .i64 y.vo, .int .i64 ch, .int .i64 (min y.pe (y.bl - ch * y.pe)), .int .i64 y.sz, .int .i64 mv, .int .i64 (min (mv + 4) (y.ws.length : Int)), .int .i64 (min y.fl (min (mv + 4) (y.ws.length : Int))), .slice p ((pshW y ch mv).map wrD).length c], .bool true]) ∧ MemOk X w0 [(3, .dat (.slice pw (y.ws.map wrD).length cw) (.l 2 (y.ws.map wrD))), (9, .dat (.slice p ((pshW y ch mv).map wrD).length c) (.l 2 ((pshW y ch mv).map wrD)))] w' := by
 obtain ⟨mk, rfl⟩ : ∃ m : Nat, mv = (m : Int) := ⟨mv.toNat, by omega⟩
 have hV := hS.1
 obtain ⟨v1, v2, v3, v4, v5, v6, v7, v8, v9⟩ := hV
 obtain ⟨n1, n2, n3, n4, n5, n6, n7, n8, n9, n10, n11⟩ := v1
 obtain ⟨c1, c2, c3, c4, c5⟩ := chunk_math n7 n8 n4 n9.2 hok.1
 have hsm := hS.sm
 have h := rpush_any X y.vo y.bl y.sz y.pe y.to y.ne y.fl y.hi pp pn pw cp y.pins.length cn9 cw y.place y.ws ch (ch * y.pe) (min y.pe (y.bl - ch * y.pe)) mk (min ((mk : Int) + 4) (y.ws.length : Int)).toNat w0 hok.1 n7 rfl ⟨c1, c2⟩ ⟨by omega, by omega⟩ rfl (by omega) (by omega) hS.1.its.1 hS.1.blk (by omega) (by omega) m0
 rw [show ((min ((mk : Int) + 4) (y.ws.length : Int)).toNat : Int) = min ((mk : Int) + 4) (y.ws.length : Int) by omega] at h
 exact h
theorem rstate_y (X : Cx) (y : VolV) (n : Nat) (hS : VolS n y) (hn : n ≤ 1000) (pp pn pw : Option Addr) (cp cn9 cw : Nat) (tv : Int) (t : Nat) (htt : tv = t) (w0 : World) (hX : ∀ b, b ∉ X.bad) (ht0 : y.fl ≤ tv) (ht1 : t ≤ y.ws.length) (m0 : MemOk X w0 [(3, .dat (.slice pw (y.ws.map wrD).length cw) (.l 2 (y.ws.map wrD)))] w0) :
   Calls Tryz.prog 12 #[.agg #[.int .i64 y.vo, .int .i64 y.bl, .int .i64 y.sz, .int .i64 y.pe, .slice pp y.place.length cp, .int .i64 y.to, .int .i64 y.ne, .bool y.hi, .int .i64 y.fl, .slice pn y.pins.length cn9, .slice pw (y.ws.map wrD).length cw], .int .i64 tv] w0 fun e w' => ∃ p c, e = .returned (.tuple #[.slice p ((stL y.bl y.sz y.ws t).map bD).length c, .int .i64 0]) ∧ MemOk X w0 [(3, .dat (.slice pw (y.ws.map wrD).length cw) (.l 2 (y.ws.map wrD))), (9, .dat (.slice p ((stL y.bl y.sz y.ws t).map bD).length c) (.l 1 ((stL y.bl y.sz y.ws t).map bD)))] w' := by
 subst htt
 have hV := hS.1
 obtain ⟨v1, v2, v3, v4, v5, v6, v7, v8, v9⟩ := hV
 obtain ⟨n1, n2, n3, n4, n5, n6, n7, n8, n9, n10, n11⟩ := v1
 have hsm := hS.sm
 have hb := hS.1.blk
 have h := rstate_any X y.vo y.bl y.sz y.pe y.to y.ne y.fl y.hi pp pn pw y.place.length cp y.pins.length cn9 cw y.ws t y.bl.toNat y.sz.toNat w0 hX (by omega) hS.1.its.1 (fun e he x hx => by have := hb e he x hx; omega) (by omega) (by omega) ht0 ht1 m0
 rw [show ((y.bl.toNat : Nat) : Int) = y.bl by omega, show ((y.sz.toNat : Nat) : Int) = y.sz by omega] at h
 exact h
theorem st3 (tv fl : Int) (n : Nat) (h : 0 ≤ fl) : tv < fl ∨ (fl ≤ tv ∧ ∃ tn : Nat, tv = tn ∧ tn ≤ n) ∨ (fl ≤ tv ∧ (n : Int) < tv) := by
 by_cases h1 : tv < fl
 · exact .inl h1
 · by_cases h2 : tv ≤ n
   · exact .inr (.inl ⟨by omega, tv.toNat, by omega, by omega⟩)
   · exact .inr (.inr ⟨by omega, by omega⟩)
theorem state_pruned9 (vo bl sz pe to ne fl : Int) (hi : Bool) (pp pn pw : Option Addr) (np cp nn9 cn9 nw cw : Nat) (tt : Int) (w0 : World) (ht : tt < fl) :
   Calls Tryz.prog 11 #[.agg #[.int .i64 vo, .int .i64 bl, .int .i64 sz, .int .i64 pe, .slice pp np cp, .int .i64 to, .int .i64 ne, .bool hi, .int .i64 fl, .slice pn nn9 cn9, .slice pw nw cw], .int .i64 tt] w0 fun e w' => e = .returned (.tuple #[.slice none 0 0, .int .i64 30]) ∧ Below w0.heap.size w0 w' := by
 have h := state_pruned vo bl sz pe to ne fl hi pp pn pw np cp nn9 cn9 cw (List.replicate nw (0, [])) tt w0 ht
 rwa [List.length_replicate] at h
theorem state_future9 (vo bl sz pe to ne fl : Int) (hi : Bool) (pp pn pw : Option Addr) (np cp nn9 cn9 nw cw : Nat) (tt : Int) (w0 : World) (ht0 : fl ≤ tt) (ht : nw < tt) :
   Calls Tryz.prog 11 #[.agg #[.int .i64 vo, .int .i64 bl, .int .i64 sz, .int .i64 pe, .slice pp np cp, .int .i64 to, .int .i64 ne, .bool hi, .int .i64 fl, .slice pn nn9 cn9, .slice pw nw cw], .int .i64 tt] w0 fun e w' => e = .returned (.tuple #[.slice none 0 0, .int .i64 31]) ∧ Below w0.heap.size w0 w' := by
 have h := state_future vo bl sz pe to ne fl hi pp pn pw np cp nn9 cn9 cw (List.replicate nw (0, [])) tt w0 ht0 (by rw [List.length_replicate]; exact ht)
 rwa [List.length_replicate] at h
set_option maxRecDepth 100000
set_option maxHeartbeats 4000000
theorem pushes_walk (l : List Int) (pl : Option Addr) (cl : Nat) (kk9 mark t9 : Int) (w0 : World) (h1 : Rd (fun _ => True) w0 (.slice pl l.length cl) (.ns .u8 l)) (hlb : ∀ j, j < l.length → 0 ≤ l.getD j 0 ∧ l.getD j 0 ≤ 255) :
   Calls Tryz.prog 3 #[.slice pl l.length cl, .int .i64 kk9, .int .i64 mark, .int .i64 t9] w0 fun e w' => e = .returned (.bool true) ∧ Below w0.heap.size w0 w' := by
 refine enter (fn := Tryz.f3) Tryz.func3 rfl Tryz.ntmps3 rfl (fun Az Hz => ?_)
 simp only [List.zipIdx_cons, List.zipIdx_nil, List.map_cons, List.map_nil, Nat.reduceAdd, Nat.zero_add] at Hz
 have m0 := MemOk.start (fun _ => False) w0
 refine regS Hz (.assign rfl <| .nil) ?_
 clear Hz Az; intro Az Hz
 refine wp_seq_k (fun K0 hK0 => ?_)
 refine wp_seq_k (fun K1 hK1 => ?_)
 refine wp_region_lit ?_
 refine wpList_plain rfl (fun K hK => ?_)
 refine e_call Hz Tryz.func5 rfl rfl rfl rfl (vknown_any _) ?_
 rintro e w2 ⟨rfl, hb2⟩
 have m3 := m0.later hb2
 clear m0
 clear hb2
 refine ⟨_, rfl, ?_⟩; clear Hz Az; intro Az Hz
 refine hK _ _ ?_; clear hK K
 refine goCh Hz (.not rfl .nil) ?_
 clear Hz Az; intro Az Hz
 refine wpList_nil ?_
 refine hK1 _ _ ?_; clear hK1; try clear K1
 refine wp_cond_false (Hz.ev (x := .tmp 28) rfl) ?_
 refine wp_skip ?_
 refine hK0 _ _ ?_; clear hK0; try clear K0
 refine wp_seq_k (fun K2 hK2 => ?_)
 refine regS Hz (.move rfl <| .len rfl Tryz.underlying22 <| .gtr rfl rfl <| .nil) ?_
 clear Hz Az; intro Az Hz
 refine bool_cases Hz (t := 31) rfl ?_ ?_
 ·
  clear Hz; intro hb9 Hz
  try simp only [Q1x, Q2x, Q3x, Q4x, Q5x, Q6x, Q7x, Q8x, Q9x, Q0x, Qax, Qbx] at hb9
  refine wp_cond_true (Hz.ev (x := .tmp 31) rfl) ?_
  refine regS Hz (.assign rfl <| .nil) ?_
  clear Hz Az; intro Az Hz
  refine wp_ret ?_
  try dsimp only [Exit.then, Exit.inBlock]
  refine (ret1 (fn := Tryz.f3) Hz rfl rfl ?_)
  exact ⟨by first | rfl | simp, m3.below⟩
 ·
  clear Hz; intro hb9 Hz
  try simp only [Q1x, Q2x, Q3x, Q4x, Q5x, Q6x, Q7x, Q8x, Q9x, Q0x, Qax, Qbx] at hb9
  have hl60 : l.length ≤ 80 := by have := hb9; first | omega | (simp at this; omega)
  refine wp_cond_false (Hz.ev (x := .tmp 31) rfl) ?_
  refine wp_skip ?_
  refine hK2 _ _ ?_; clear hK2; try clear K2
  refine wp_seq_k (fun K3 hK3 => ?_)
  refine wp_region_lit ?_
  refine goCh Hz (.move rfl .nil) ?_
  clear Hz Az; intro Az Hz
  refine wpList_plain rfl (fun K hK => ?_)
  refine e_call Hz Tryz.func6 rfl rfl rfl rfl (svol_any l _ _ _ ((h1.now' m3 rfl).any) (by omega) hlb) ?_
  rintro e w13 ⟨y, p113, p213, p313, d113, d213, d313, rfl, hS, hd13, he13, hf13, hb13⟩
  have m14 := m3.callF3 70 71 72 rfl rfl rfl hb13 hd13 he13 hf13
  clear m3
  clear hb13 hd13 he13 hf13
  have hS0 := hS
  obtain ⟨hpl, hpn, hws, hwi⟩ := hS.sm
  obtain ⟨hV, hh0, hpn9, hws9⟩ := hS0
  have hV9 := hV
  obtain ⟨v1, v2, v3, v4, v5, v6, v7, v8, v9⟩ := hV9
  have v0 := v1
  obtain ⟨n1, n2, n3, n4, n5, n6, n7, n8, n9, n10, n11⟩ := v0
  have hwo := hV.its
  refine ⟨_, rfl, ?_⟩; clear Hz Az; intro Az Hz
  refine hK _ _ ?_; clear hK K
  refine wpList_plain rfl (fun K hK => ?_)
  refine e_alloc Hz m14 73 zc28vpu rfl ?_
  clear Hz Az m14; intro g16 Az w17 Hz m17 hB17 hg17
  clear hB17 hg17
  refine hK _ _ ?_; clear hK K
  refine wpList_plain rfl (fun K hK => ?_)
  refine e_storeW Hz m17 73 rfl rfl rfl rfl rfl sz28vpu ?_
  clear m17; intro w18 m18 hB18
  clear hB18
  refine hK _ _ ?_; clear hK K
  refine wpList_nil ?_
  refine hK3 _ _ ?_; clear hK3; try clear K3
  refine wp_seq_k (fun K4 hK4 => ?_)
  replace Hz : Has 126 [(1, _), (2, _), (3, _), (8, _), (9, _)] Az := Hz.only [1, 2, 3, 8, 9]
  refine regS Hz (.assign rfl <| .nil) ?_
  clear Hz Az; intro Az Hz
  refine wp_block ?_
  refine wp_loop_ghost (fun g a w => ∃ (k B9 : Nat) (p1 p2 p3 : Option Addr) (d1 d2 d3 : Nat), k ≤ y.place.length + 2 ∧ g = y.place.length + 2 - k ∧ Has 126 [(1, .int .i64 kk9), (2, .int .i64 mark), (3, .int .i64 t9), (9, .pointer (some ⟨B9, 0, none⟩)), (10, .int .i64 ((k : Int) - 1))] a ∧ MemOk (cn w0) w0 [(9, .box B9 28 [.int .i64 y.vo, .int .i64 y.bl, .int .i64 y.sz, .int .i64 y.pe, .slice p1 y.place.length d1, .int .i64 y.to, .int .i64 y.ne, .bool y.hi, .int .i64 y.fl, .slice p2 y.pins.length d2, .slice p3 (y.ws.map wrD).length d3]), (10, .dat (.slice p1 y.place.length d1) (.ns .i64 y.place)), (11, .dat (.slice p2 y.pins.length d2) (.ns .i64 y.pins)), (12, .dat (.slice p3 (y.ws.map wrD).length d3) (.l 2 (y.ws.map wrD)))] w) (y.place.length + 2) ?_ ?_
  · exact ⟨0, _, _, _, _, _, _, _, Nat.zero_le _, rfl, Hz.only [1, 2, 3, 9, 10], m18.ren [(9, 73), (10, 70), (11, 71), (12, 72)] (by decide)⟩
  ·
   clear Hz m18
   rintro g Az w21 ⟨k, B9, p1, p2, p3, d1, d2, d3, hkl, hg, Hz, m21⟩
   refine wp_seq_k (fun K5 hK5 => ?_)
   refine regS Hz (.move rfl <| .fieldAddr (off := 4) rfl Tryz.underlying28 rfl (s := 0) (by kernel_rfl) rfl <| .loadB1 m21 (i := 9) rfl rfl rfl Tryz.underlying24 rfl <| .len rfl Tryz.underlying24 <| .leq rfl rfl <| .nil) ?_
   clear Hz Az; intro Az Hz
   refine bool_cases Hz (t := 38) rfl ?_ ?_
   ·
    clear Hz; intro hb27 Hz
    try simp only [Q1x, Q2x, Q3x, Q4x, Q5x, Q6x, Q7x, Q8x, Q9x, Q0x, Qax, Qbx] at hb27
    have hk9 : k ≤ y.place.length + 1 := by have := hb27; first | omega | (simp at this; omega)
    refine wp_cond_true (Hz.ev (x := .tmp 38) rfl) ?_
    refine wp_skip ?_
    refine hK5 _ _ ?_; clear hK5; try clear K5
    refine wp_seq_k (fun K6 hK6 => ?_)
    refine wp_block ?_
    refine wp_seq_k (fun K7 hK7 => ?_)
    have hC7 : ∀ (a : Act) (w : World), (∃ (ml : List Int) (B9 : Nat) (p1 p2 p3 : Option Addr) (d1 d2 d3 : Nat) (pm : Option Addr) (cm : Nat), ml.length ≤ 10 ∧ Has 126 [(1, .int .i64 kk9), (2, .int .i64 mark), (3, .int .i64 t9), (9, .pointer (some ⟨B9, 0, none⟩)), (10, .int .i64 ((k : Int) - 1)), (47, .slice pm ml.length cm), (48, .int .i64 ml.length), (49, .int .i64 0)] a ∧ MemOk (cn w0) w0 [(9, .box B9 28 [.int .i64 y.vo, .int .i64 y.bl, .int .i64 y.sz, .int .i64 y.pe, .slice p1 y.place.length d1, .int .i64 y.to, .int .i64 y.ne, .bool y.hi, .int .i64 y.fl, .slice p2 y.pins.length d2, .slice p3 (y.ws.map wrD).length d3]), (10, .dat (.slice p1 y.place.length d1) (.ns .i64 y.place)), (11, .dat (.slice p2 y.pins.length d2) (.ns .i64 y.pins)), (12, .dat (.slice p3 (y.ws.map wrD).length d3) (.l 2 (y.ws.map wrD))), (20, .num (.slice pm ml.length cm) 2 .i64 ml)] w) → K7 a w := by
      clear Hz m21
      rintro Az w28 ⟨ml, B9, p1, p2, p3, d1, d2, d3, pm, cm, hml, Hz, m28⟩
      refine hK7 _ _ ?_; clear hK7; try clear K7
      refine wp_block ?_
      refine wp_loop_ghost (fun g a w => ∃ (j B9 : Nat) (p1 p2 p3 : Option Addr) (d1 d2 d3 : Nat) (pm : Option Addr) (cm : Nat), j ≤ ml.length ∧ g = ml.length - j ∧ Has 126 [(1, .int .i64 kk9), (2, .int .i64 mark), (3, .int .i64 t9), (9, .pointer (some ⟨B9, 0, none⟩)), (10, .int .i64 ((k : Int) - 1)), (47, .slice pm ml.length cm), (48, .int .i64 ml.length), (49, .int .i64 j)] a ∧ MemOk (cn w0) w0 [(9, .box B9 28 [.int .i64 y.vo, .int .i64 y.bl, .int .i64 y.sz, .int .i64 y.pe, .slice p1 y.place.length d1, .int .i64 y.to, .int .i64 y.ne, .bool y.hi, .int .i64 y.fl, .slice p2 y.pins.length d2, .slice p3 (y.ws.map wrD).length d3]), (10, .dat (.slice p1 y.place.length d1) (.ns .i64 y.place)), (11, .dat (.slice p2 y.pins.length d2) (.ns .i64 y.pins)), (12, .dat (.slice p3 (y.ws.map wrD).length d3) (.l 2 (y.ws.map wrD))), (20, .num (.slice pm ml.length cm) 2 .i64 ml)] w) (ml.length) ?_ ?_
      · exact ⟨0, _, _, _, _, _, _, _, _, _, Nat.zero_le _, rfl, Hz.only [1, 2, 3, 9, 10, 47, 48, 49], m28.ren [(9, 9), (10, 10), (11, 11), (12, 12), (20, 20)] (by decide)⟩
      ·
       clear Hz m28
       rintro g Az w29 ⟨j, B9, p1, p2, p3, d1, d2, d3, pm, cm, hjl, hg2, Hz, m29⟩
       refine regS Hz (.lss rfl rfl <| .nil) ?_
       clear Hz Az; intro Az Hz
       refine wp_seq_k (fun K8 hK8 => ?_)
       refine bool_cases Hz (t := 50) rfl ?_ ?_
       ·
        clear Hz; intro hb31 Hz
        try simp only [Q1x, Q2x, Q3x, Q4x, Q5x, Q6x, Q7x, Q8x, Q9x, Q0x, Qax, Qbx] at hb31
        have hj : j < ml.length := by have := hb31; first | omega | (simp at this; omega)
        refine wp_cond_true (Hz.ev (x := .tmp 50) rfl) ?_
        refine wp_skip ?_
        refine hK8 _ _ ?_; clear hK8; try clear K8
        refine wp_seq_k (fun K9 hK9 => ?_)
        refine wp_block ?_
        refine wp_seq_k (fun K10 hK10 => ?_)
        refine wp_region_lit ?_
        obtain ⟨g33, hpg33⟩ := m29.openO (i := 20) rfl (Nat.lt_of_le_of_lt (Nat.zero_le _) hj)
        cases hpg33
        refine goCh Hz (.c rfl (fun _ h => y_idxO h rfl rfl Tryz.underlying25 sz2vpu (j) rfl hj) <| .c rfl (fun _ h => y_loadO h m29 (i := 20) rfl rfl rfl hj Tryz.underlying2 rfl) <| .assign rfl <| .nil) ?_
        clear Hz Az; intro Az Hz
        refine wpList_nil ?_
        refine hK10 _ _ ?_; clear hK10; try clear K10
        refine wp_seq_k (fun K11 hK11 => ?_)
        by_cases hok : ((0 ≤ ((k : Int) - 1) ∧ ((k : Int) - 1) < (y.place.length : Int)) ∧ (0 ≤ (ml.getD j 0) ∧ (ml.getD j 0) ≤ (y.ws.length : Int)))
        ·
         refine wp_region_lit ?_
         refine goCh Hz (.loadBR m29 (i := 9) rfl rfl Tryz.underlying28 rfl sz28vpu (by simp) (by dsimp only [List.drop, List.take] <;> rfl) <| .move rfl <| .move rfl <| .nil) ?_
         clear Hz Az; intro Az Hz
         refine wpList_plain rfl (fun K hK => ?_)
         refine e_call Hz Tryz.func8 rfl rfl rfl rfl (vpush_ok y _ hS (by omega) _ _ _ _ _ _ ((k : Int) - 1) (ml.getD j 0) _ ((m29.rd (i := 12) rfl).any) hok) ?_
         rintro e w40 ⟨p40, c40, rfl, hd40, hb40⟩
         have m41 := m29.callF 300 rfl hb40 hd40
         clear m29
         clear hb40 hd40
         refine ⟨_, rfl, ?_⟩; clear Hz Az; intro Az Hz
         refine hK _ _ ?_; clear hK K
         refine goCh Hz (.move rfl <| .extract rfl rfl <| .extract rfl rfl <| .nil) ?_
         clear Hz Az; intro Az Hz
         refine wpList_plain rfl (fun K hK => ?_)
         refine e_alloc Hz m41 301 zc32vpu rfl ?_
         clear Hz Az m41; intro g46 Az w47 Hz m47 hB47 hg47
         clear hB47 hg47
         refine hK _ _ ?_; clear hK K
         refine wpList_plain rfl (fun K hK => ?_)
         refine e_storeW Hz m47 301 rfl rfl rfl rfl rfl sz32vpu ?_
         clear m47; intro w48 m48 hB48
         clear hB48
         refine hK _ _ ?_; clear hK K
         refine goCh Hz (.assign rfl .nil) ?_
         clear Hz Az; intro Az Hz
         refine wpList_nil ?_
         refine hK11 _ _ ?_; clear hK11; try clear K11
         replace Hz : Has 126 [(1, _), (2, _), (3, _), (9, _), (10, _), (47, _), (48, _), (49, _), (12, _), (13, _), (14, _)] Az := Hz.only [1, 2, 3, 9, 10, 47, 48, 49, 12, 13, 14]
         refine wp_seq_k (fun K12 hK12 => ?_)
         refine wp_region_lit ?_
         refine goCh Hz (.loadBR m48 (i := 9) rfl rfl Tryz.underlying28 rfl sz28vpu (by simp) (by dsimp only [List.drop, List.take] <;> rfl) <| .move rfl <| .move rfl <| .nil) ?_
         clear Hz Az; intro Az Hz
         refine wpList_plain rfl (fun K hK => ?_)
         refine e_call Hz Tryz.func9 rfl rfl rfl rfl (rpush_ok _ y _ hS (by omega) _ _ _ _ _ _ ((k : Int) - 1) (ml.getD j 0) _ hok (m48.into [(3, 12)] (by decide) rfl)) ?_
         rintro e w57 ⟨p57, c57, rfl, hm57⟩
         have mx57 := m48.back hm57 [(12, 3), (302, 9)] (by decide); clear hm57 m48
         have m57 : MemOk _ _ [(12, _), (302, _), (9, _), (10, _), (11, _), (20, _), (300, _), (301, _)] _ := mx57.only [12, 302, 9, 10, 11, 20, 300, 301]; clear mx57
         refine ⟨_, rfl, ?_⟩; clear Hz Az; intro Az Hz
         refine hK _ _ ?_; clear hK K
         refine goCh Hz (.move rfl <| .extract rfl rfl <| .extract rfl rfl <| .nil) ?_
         clear Hz Az; intro Az Hz
         refine wpList_plain rfl (fun K hK => ?_)
         refine e_alloc Hz m57 303 zc32vpu rfl ?_
         clear Hz Az m57; intro g62 Az w63 Hz m63 hB63 hg63
         clear hB63 hg63
         refine hK _ _ ?_; clear hK K
         refine wpList_plain rfl (fun K hK => ?_)
         refine e_storeW Hz m63 303 rfl rfl rfl rfl rfl sz32vpu ?_
         clear m63; intro w64 m64 hB64
         clear hB64
         refine hK _ _ ?_; clear hK K
         refine goCh Hz (.assign rfl .nil) ?_
         clear Hz Az; intro Az Hz
         refine wpList_nil ?_
         refine hK12 _ _ ?_; clear hK12; try clear K12
         replace Hz : Has 126 [(1, _), (2, _), (3, _), (9, _), (10, _), (47, _), (48, _), (49, _), (13, _), (14, _), (15, _), (16, _)] Az := Hz.only [1, 2, 3, 9, 10, 47, 48, 49, 13, 14, 15, 16]
         refine wp_seq_k (fun K13 hK13 => ?_)
         refine wp_region_lit ?_
         refine goCh Hz (.move rfl <| .move rfl <| .neqB rfl rfl Tryz.underlying4 <| .move rfl <| .nil) ?_
         clear Hz Az; intro Az Hz
         refine bool_cases Hz (t := 70) rfl ?_ ?_
         · intro hb _; exact absurd hb (by simp)
         clear Hz; intro _ Hz
         refine goCh Hz (.loadBRZ m64 (i := 301) rfl rfl Tryz.underlying32 rfl sz32vpu (by simp) (by dsimp only [List.drop, List.take] <;> rfl) <| .loadBRZ m64 (i := 303) rfl rfl Tryz.underlying32 rfl sz32vpu (by simp) (by dsimp only [List.drop, List.take] <;> rfl) <| .nil) ?_
         clear Hz Az; intro Az Hz
         refine st_ge Hz rfl rfl rfl rfl (fun K hK => ?_)
         refine e_call Hz Tryz.func10 rfl rfl rfl rfl (rspush_any _ _ _ _ _ _ _ (pshW y ((k : Int) - 1) (ml.getD j 0)) _ _ _ _ _ _ _ ((m64.rd (i := 300) rfl).any) ((m64.rd (i := 302) rfl).any) (pshW_ok hS (by omega) _ _).1 (pshW_ok hS (by omega) _ _).2) ?_
         rintro e w78 ⟨rfl, hb78⟩
         have m79 := m64.later hb78
         clear m64
         clear hb78
         refine ⟨_, rfl, ?_⟩; clear Hz Az; intro Az Hz
         refine hK _ _ ?_; clear hK K
         refine goCh Hz (.notZ rfl <| .pickF rfl rfl <| .nil) ?_
         clear Hz Az; intro Az Hz
         refine wpList_nil ?_
         refine hK13 _ _ ?_; clear hK13; try clear K13
         refine wp_cond_false (Hz.ev (x := .tmp 75) rfl) ?_
         refine wp_skip ?_
         refine hK9 _ _ ?_; clear hK9; try clear K9
         replace Hz : Has 126 [(1, _), (2, _), (3, _), (9, _), (10, _), (47, _), (48, _), (49, _)] Az := Hz.only [1, 2, 3, 9, 10, 47, 48, 49]
         refine wp_region_lit ?_
         refine goCh Hz (.add rfl rfl (r := ((j + 1 : Nat) : Int)) (by rw [IntWalk.i64_in _ (by omega)]; omega) <| .move rfl <| .nil) ?_
         clear Hz Az; intro Az Hz
         refine wpList_nil ?_
         show ∃ n', n' < _ ∧ _
         exact ⟨ml.length - (j + 1), by omega, j + 1, _, _, _, _, _, _, _, _, _, by omega, rfl, Hz.only [1, 2, 3, 9, 10, 47, 48, 49], m79.ren [(9, 9), (10, 10), (11, 11), (12, 12), (20, 20)] (by decide)⟩
        ·
         refine wp_region_lit ?_
         refine goCh Hz (.loadBR m29 (i := 9) rfl rfl Tryz.underlying28 rfl sz28vpu (by simp) (by dsimp only [List.drop, List.take] <;> rfl) <| .move rfl <| .move rfl <| .nil) ?_
         clear Hz Az; intro Az Hz
         refine wpList_plain rfl (fun K hK => ?_)
         refine e_call Hz Tryz.func8 rfl rfl rfl rfl (vpush_nok y _ hS (by omega) _ _ _ _ _ _ ((k : Int) - 1) (ml.getD j 0) _ hok) ?_
         rintro e w89 ⟨rfl, hb89⟩
         have m90 := m29.later hb89
         clear m29
         clear hb89
         refine ⟨_, rfl, ?_⟩; clear Hz Az; intro Az Hz
         refine hK _ _ ?_; clear hK K
         refine goCh Hz (.move rfl <| .extract rfl rfl <| .extract rfl rfl <| .nil) ?_
         clear Hz Az; intro Az Hz
         refine wpList_plain rfl (fun K hK => ?_)
         refine e_alloc Hz m90 300 zc32vpu rfl ?_
         clear Hz Az m90; intro g95 Az w96 Hz m96 hB96 hg96
         clear hB96 hg96
         refine hK _ _ ?_; clear hK K
         refine wpList_plain rfl (fun K hK => ?_)
         refine e_storeW Hz m96 300 rfl rfl rfl rfl rfl sz32vpu ?_
         clear m96; intro w97 m97 hB97
         clear hB97
         refine hK _ _ ?_; clear hK K
         refine goCh Hz (.assign rfl .nil) ?_
         clear Hz Az; intro Az Hz
         refine wpList_nil ?_
         refine hK11 _ _ ?_; clear hK11; try clear K11
         replace Hz : Has 126 [(1, _), (2, _), (3, _), (9, _), (10, _), (47, _), (48, _), (49, _), (12, _), (13, _), (14, _)] Az := Hz.only [1, 2, 3, 9, 10, 47, 48, 49, 12, 13, 14]
         refine wp_seq_k (fun K14 hK14 => ?_)
         refine wp_region_lit ?_
         refine goCh Hz (.loadBR m97 (i := 9) rfl rfl Tryz.underlying28 rfl sz28vpu (by simp) (by dsimp only [List.drop, List.take] <;> rfl) <| .move rfl <| .move rfl <| .nil) ?_
         clear Hz Az; intro Az Hz
         refine wpList_plain rfl (fun K hK => ?_)
         refine e_call Hz Tryz.func9 rfl rfl rfl rfl (rpush_nok y _ hS (by omega) _ _ _ _ _ _ ((k : Int) - 1) (ml.getD j 0) _ hok) ?_
         rintro e w106 ⟨rfl, hb106⟩
         have m107 := m97.later hb106
         clear m97
         clear hb106
         refine ⟨_, rfl, ?_⟩; clear Hz Az; intro Az Hz
         refine hK _ _ ?_; clear hK K
         refine goCh Hz (.move rfl <| .extract rfl rfl <| .extract rfl rfl <| .nil) ?_
         clear Hz Az; intro Az Hz
         refine wpList_plain rfl (fun K hK => ?_)
         refine e_alloc Hz m107 301 zc32vpu rfl ?_
         clear Hz Az m107; intro g112 Az w113 Hz m113 hB113 hg113
         clear hB113 hg113
         refine hK _ _ ?_; clear hK K
         refine wpList_plain rfl (fun K hK => ?_)
         refine e_storeW Hz m113 301 rfl rfl rfl rfl rfl sz32vpu ?_
         clear m113; intro w114 m114 hB114
         clear hB114
         refine hK _ _ ?_; clear hK K
         refine goCh Hz (.assign rfl .nil) ?_
         clear Hz Az; intro Az Hz
         refine wpList_nil ?_
         refine hK14 _ _ ?_; clear hK14; try clear K14
         replace Hz : Has 126 [(1, _), (2, _), (3, _), (9, _), (10, _), (47, _), (48, _), (49, _), (13, _), (14, _), (15, _), (16, _)] Az := Hz.only [1, 2, 3, 9, 10, 47, 48, 49, 13, 14, 15, 16]
         refine wp_seq_k (fun K15 hK15 => ?_)
         refine wp_region_lit ?_
         refine goCh Hz (.move rfl <| .move rfl <| .neqB rfl rfl Tryz.underlying4 <| .move rfl <| .nil) ?_
         clear Hz Az; intro Az Hz
         refine bool_cases Hz (t := 70) rfl ?_ ?_
         · intro hb _; exact absurd hb (by simp)
         clear Hz; intro _ Hz
         refine goCh Hz (.loadBRZ m114 (i := 300) rfl rfl Tryz.underlying32 rfl sz32vpu (by simp) (by dsimp only [List.drop, List.take] <;> rfl) <| .loadBRZ m114 (i := 301) rfl rfl Tryz.underlying32 rfl sz32vpu (by simp) (by dsimp only [List.drop, List.take] <;> rfl) <| .nil) ?_
         clear Hz Az; intro Az Hz
         refine st_ge Hz rfl rfl rfl rfl (fun K hK => ?_)
         refine e_call Hz Tryz.func10 rfl rfl rfl rfl (rspush_any _ _ _ _ _ _ _ [] _ _ _ _ _ _ _ (Rd.l0 none 0 2) (Rd.l0 none 0 2) (by simp) (fun _ h => by cases h)) ?_
         rintro e w128 ⟨rfl, hb128⟩
         have m129 := m114.later hb128
         clear m114
         clear hb128
         refine ⟨_, rfl, ?_⟩; clear Hz Az; intro Az Hz
         refine hK _ _ ?_; clear hK K
         refine goCh Hz (.notZ rfl <| .pickF rfl rfl <| .nil) ?_
         clear Hz Az; intro Az Hz
         refine wpList_nil ?_
         refine hK15 _ _ ?_; clear hK15; try clear K15
         refine wp_cond_false (Hz.ev (x := .tmp 75) rfl) ?_
         refine wp_skip ?_
         refine hK9 _ _ ?_; clear hK9; try clear K9
         replace Hz : Has 126 [(1, _), (2, _), (3, _), (9, _), (10, _), (47, _), (48, _), (49, _)] Az := Hz.only [1, 2, 3, 9, 10, 47, 48, 49]
         refine wp_region_lit ?_
         refine goCh Hz (.add rfl rfl (r := ((j + 1 : Nat) : Int)) (by rw [IntWalk.i64_in _ (by omega)]; omega) <| .move rfl <| .nil) ?_
         clear Hz Az; intro Az Hz
         refine wpList_nil ?_
         show ∃ n', n' < _ ∧ _
         exact ⟨ml.length - (j + 1), by omega, j + 1, _, _, _, _, _, _, _, _, _, by omega, rfl, Hz.only [1, 2, 3, 9, 10, 47, 48, 49], m129.ren [(9, 9), (10, 10), (11, 11), (12, 12), (20, 20)] (by decide)⟩
       ·
        clear Hz; intro hb31 Hz
        try simp only [Q1x, Q2x, Q3x, Q4x, Q5x, Q6x, Q7x, Q8x, Q9x, Q0x, Qax, Qbx] at hb31
        refine wp_cond_false (Hz.ev (x := .tmp 50) rfl) ?_
        refine wp_exit ?_
        refine hK6 _ _ ?_; clear hK6; try clear K6
        refine wp_region_lit ?_
        refine goCh Hz (.move rfl <| .add rfl rfl (r := ((k + 1 : Nat) : Int) - 1) (by rw [IntWalk.i64_in _ (by omega)]; omega) <| .assign rfl <| .nil) ?_
        clear Hz Az; intro Az Hz
        refine wpList_nil ?_
        show ∃ n', n' < _ ∧ _
        exact ⟨y.place.length + 2 - (k + 1), by omega, k + 1, _, _, _, _, _, _, _, by omega, rfl, Hz.only [1, 2, 3, 9, 10], m29.ren [(9, 9), (10, 10), (11, 11), (12, 12)] (by decide)⟩
    have m139 : MemOk _ _ [(9, _), (10, _), (11, _), (12, _)] _ := m21.only [9, 10, 11, 12]; clear m21
    refine region_p 9 (B := [(9, _), (10, _), (11, _), (12, _)]) (m139.to ⟨il, il, il, il, trivial⟩) m139 (by kernel_rfl) (fun w140 hP140 m140 => ?_); clear m139
    refine goR hP140 [0, 1, 3, 8] [1, 3] 4 0 267 Hz (m140.to ⟨il, il, il, il, trivial⟩) (.move rfl <| .loadBR hh (i := 9) rfl rfl Tryz.underlying28 rfl sz28vpu (by simp) (by dsimp only [List.drop, List.take] <;> rfl) <| .loadBR hh (i := 9) rfl rfl Tryz.underlying28 rfl sz28vpu (by simp) (by dsimp only [List.drop, List.take] <;> rfl) <| .move rfl <| .nil) ?_
    clear Hz Az; intro Az Hz
    refine stepE_only 2 rfl (by kernel_rfl) rfl (fun K hK => ?_)
    refine e_call Hz Tryz.func7 rfl rfl rfl rfl (rlen_any _ _ _ _ _ _ _ _ _ _ _ _ _ _ _ _ _ _) ?_
    rintro e w145 ⟨rfl, hb145⟩
    try rw [List.length_map]
    have m146 := m140.later hb145
    clear m140
    clear hb145
    refine ⟨_, rfl, ?_⟩; clear Hz Az; intro Az Hz
    refine hK _ _ (m146.to ⟨il, il, il, il, trivial⟩) ?_; clear hK K
    refine stepE_only 4 rfl (by kernel_rfl) rfl (fun K hK => ?_)
    refine e_call Hz Tryz.func7 rfl rfl rfl rfl (rlen_any _ _ _ _ _ _ _ _ _ _ _ _ _ _ _ _ _ _) ?_
    rintro e w148 ⟨rfl, hb148⟩
    try rw [List.length_map]
    have m149 := m146.later hb148
    clear m146
    clear hb148
    refine ⟨_, rfl, ?_⟩; clear Hz Az; intro Az Hz
    refine hK _ _ (m149.to ⟨il, il, il, il, trivial⟩) ?_; clear hK K
    refine goA hP140 [5] 1 287 319 Hz (m149.to ⟨il, il, il, il, trivial⟩) (.add rfl rfl (IntWalk.i64_in _ (by omega)) <| .nil) ?_
    clear Hz Az; intro Az Hz
    refine stepE_only 6 rfl (by kernel_rfl) rfl (fun K hK => ?_)
    refine e_litN Hz m149 100 (k := .i64) rfl rfl Tryz.underlying25 inf2vpu rfl rfl rfl rfl ?_
    clear Hz Az m149; intro g152 Az w153 Hz m153
    refine hK _ _ (m153.to ⟨il, il, il, il, trivial⟩) ?_; clear hK K
    refine goA hP140 [7] 1 383 511 Hz (m153.to ⟨il, il, il, il, trivial⟩) (.len rfl Tryz.underlying25 <| .nil) ?_
    clear Hz Az; intro Az Hz
    refine wpAnyE_done (by kernel_rfl) ?_ _
    show K7 _ _
    exact hC7 _ _ ⟨[mark, 0, 1, 3, (y.ws.length : Int), (y.ws.length : Int) + 1], _, _, _, _, _, _, _, _, _, by simp, Hz.only [1, 2, 3, 9, 10, 47, 48, 49], m153.ren [(9, 9), (10, 10), (11, 11), (12, 12), (20, 100)] (by decide)⟩
   ·
    clear Hz; intro hb27 Hz
    try simp only [Q1x, Q2x, Q3x, Q4x, Q5x, Q6x, Q7x, Q8x, Q9x, Q0x, Qax, Qbx] at hb27
    refine wp_cond_false (Hz.ev (x := .tmp 38) rfl) ?_
    refine wp_exit ?_
    refine hK4 _ _ ?_; clear hK4; try clear K4
    refine wp_seq_k (fun K16 hK16 => ?_)
    by_cases hok : ((0 ≤ kk9 ∧ kk9 < (y.place.length : Int)) ∧ (0 ≤ (0 : Int) ∧ (0 : Int) ≤ (y.ws.length : Int)))
    ·
     refine wp_region_lit ?_
     refine goCh Hz (.loadBR m21 (i := 9) rfl rfl Tryz.underlying28 rfl sz28vpu (by simp) (by dsimp only [List.drop, List.take] <;> rfl) <| .move rfl <| .nil) ?_
     clear Hz Az; intro Az Hz
     refine wpList_plain rfl (fun K hK => ?_)
     refine e_call Hz Tryz.func8 rfl rfl rfl rfl (vpush_ok y _ hS (by omega) _ _ _ _ _ _ kk9 0 _ ((m21.rd (i := 12) rfl).any) hok) ?_
     rintro e w157 ⟨p157, c157, rfl, hd157, hb157⟩
     have m158 := m21.callF 100 rfl hb157 hd157
     clear m21
     clear hb157 hd157
     refine ⟨_, rfl, ?_⟩; clear Hz Az; intro Az Hz
     refine hK _ _ ?_; clear hK K
     refine goCh Hz (.move rfl <| .extract rfl rfl <| .extract rfl rfl <| .nil) ?_
     clear Hz Az; intro Az Hz
     refine wpList_plain rfl (fun K hK => ?_)
     refine e_alloc Hz m158 101 zc32vpu rfl ?_
     clear Hz Az m158; intro g163 Az w164 Hz m164 hB164 hg164
     clear hB164 hg164
     refine hK _ _ ?_; clear hK K
     refine wpList_plain rfl (fun K hK => ?_)
     refine e_storeW Hz m164 101 rfl rfl rfl rfl rfl sz32vpu ?_
     clear m164; intro w165 m165 hB165
     clear hB165
     refine hK _ _ ?_; clear hK K
     refine goCh Hz (.assign rfl .nil) ?_
     clear Hz Az; intro Az Hz
     refine wpList_nil ?_
     refine hK16 _ _ ?_; clear hK16; try clear K16
     replace Hz : Has 126 [(1, _), (2, _), (3, _), (9, _), (10, _), (18, _)] Az := Hz.only [1, 2, 3, 9, 10, 18]
     refine wp_seq_k (fun K17 hK17 => ?_)
     refine wp_region_lit ?_
     refine goCh Hz (.loadBR m165 (i := 9) rfl rfl Tryz.underlying28 rfl sz28vpu (by simp) (by dsimp only [List.drop, List.take] <;> rfl) <| .move rfl <| .nil) ?_
     clear Hz Az; intro Az Hz
     refine wpList_plain rfl (fun K hK => ?_)
     refine e_call Hz Tryz.func9 rfl rfl rfl rfl (rpush_ok _ y _ hS (by omega) _ _ _ _ _ _ kk9 0 _ hok (m165.into [(3, 12)] (by decide) rfl)) ?_
     rintro e w172 ⟨p172, c172, rfl, hm172⟩
     have mx172 := m165.back hm172 [(12, 3), (102, 9)] (by decide); clear hm172 m165
     have m172 : MemOk _ _ [(12, _), (102, _), (9, _), (10, _), (11, _), (100, _), (101, _)] _ := mx172.only [12, 102, 9, 10, 11, 100, 101]; clear mx172
     refine ⟨_, rfl, ?_⟩; clear Hz Az; intro Az Hz
     refine hK _ _ ?_; clear hK K
     refine goCh Hz (.move rfl <| .extract rfl rfl <| .extract rfl rfl <| .nil) ?_
     clear Hz Az; intro Az Hz
     refine wpList_plain rfl (fun K hK => ?_)
     refine e_alloc Hz m172 103 zc32vpu rfl ?_
     clear Hz Az m172; intro g177 Az w178 Hz m178 hB178 hg178
     clear hB178 hg178
     refine hK _ _ ?_; clear hK K
     refine wpList_plain rfl (fun K hK => ?_)
     refine e_storeW Hz m178 103 rfl rfl rfl rfl rfl sz32vpu ?_
     clear m178; intro w179 m179 hB179
     clear hB179
     refine hK _ _ ?_; clear hK K
     refine goCh Hz (.assign rfl .nil) ?_
     clear Hz Az; intro Az Hz
     refine wpList_nil ?_
     refine hK17 _ _ ?_; clear hK17; try clear K17
     refine wp_seq_k (fun K18 hK18 => ?_)
     refine wp_seq_k (fun K19 hK19 => ?_)
     have hC19 : ∀ (a : Act) (w : World), (∃ (bq : Bool) (ml : List Int) (B9 : Nat) (p1 p2 p3 : Option Addr) (d1 d2 d3 : Nat) (pm : Option Addr) (cm : Nat), ml.length ≤ 10 ∧ Has 126 [(9, .pointer (some ⟨B9, 0, none⟩)), (18, .bool bq), (20, .bool bq), (95, .slice pm ml.length cm), (96, .int .i64 ml.length), (97, .int .i64 0)] a ∧ MemOk (cn w0) w0 [(9, .box B9 28 [.int .i64 y.vo, .int .i64 y.bl, .int .i64 y.sz, .int .i64 y.pe, .slice p1 y.place.length d1, .int .i64 y.to, .int .i64 y.ne, .bool y.hi, .int .i64 y.fl, .slice p2 y.pins.length d2, .slice p3 (y.ws.map wrD).length d3]), (10, .dat (.slice p1 y.place.length d1) (.ns .i64 y.place)), (11, .dat (.slice p2 y.pins.length d2) (.ns .i64 y.pins)), (12, .dat (.slice p3 (y.ws.map wrD).length d3) (.l 2 (y.ws.map wrD))), (20, .num (.slice pm ml.length cm) 2 .i64 ml)] w) → K19 a w := by
       clear Hz m179
       rintro Az w181 ⟨bq, ml, B9, p1, p2, p3, d1, d2, d3, pm, cm, hml, Hz, m181⟩
       refine hK19 _ _ ?_; clear hK19; try clear K19
       refine wp_block ?_
       refine wp_loop_ghost (fun g a w => ∃ (j B9 : Nat) (p1 p2 p3 : Option Addr) (d1 d2 d3 : Nat) (pm : Option Addr) (cm : Nat), j ≤ ml.length ∧ g = ml.length - j ∧ Has 126 [(9, .pointer (some ⟨B9, 0, none⟩)), (18, .bool bq), (20, .bool bq), (95, .slice pm ml.length cm), (96, .int .i64 ml.length), (97, .int .i64 j)] a ∧ MemOk (cn w0) w0 [(9, .box B9 28 [.int .i64 y.vo, .int .i64 y.bl, .int .i64 y.sz, .int .i64 y.pe, .slice p1 y.place.length d1, .int .i64 y.to, .int .i64 y.ne, .bool y.hi, .int .i64 y.fl, .slice p2 y.pins.length d2, .slice p3 (y.ws.map wrD).length d3]), (10, .dat (.slice p1 y.place.length d1) (.ns .i64 y.place)), (11, .dat (.slice p2 y.pins.length d2) (.ns .i64 y.pins)), (12, .dat (.slice p3 (y.ws.map wrD).length d3) (.l 2 (y.ws.map wrD))), (20, .num (.slice pm ml.length cm) 2 .i64 ml)] w) (ml.length) ?_ ?_
       · exact ⟨0, _, _, _, _, _, _, _, _, _, Nat.zero_le _, rfl, Hz.only [9, 18, 20, 95, 96, 97], m181.ren [(9, 9), (10, 10), (11, 11), (12, 12), (20, 20)] (by decide)⟩
       ·
        clear Hz m181
        rintro g Az w182 ⟨j, B9, p1, p2, p3, d1, d2, d3, pm, cm, hjl, hg2, Hz, m182⟩
        refine regS Hz (.lss rfl rfl <| .nil) ?_
        clear Hz Az; intro Az Hz
        refine wp_seq_k (fun K20 hK20 => ?_)
        refine bool_cases Hz (t := 98) rfl ?_ ?_
        ·
         clear Hz; intro hb184 Hz
         try simp only [Q1x, Q2x, Q3x, Q4x, Q5x, Q6x, Q7x, Q8x, Q9x, Q0x, Qax, Qbx] at hb184
         have hj : j < ml.length := by have := hb184; first | omega | (simp at this; omega)
         refine wp_cond_true (Hz.ev (x := .tmp 98) rfl) ?_
         refine wp_skip ?_
         refine hK20 _ _ ?_; clear hK20; try clear K20
         refine wp_seq_k (fun K21 hK21 => ?_)
         refine wp_block ?_
         refine wp_seq_k (fun K22 hK22 => ?_)
         refine wp_region_lit ?_
         obtain ⟨g186, hpg186⟩ := m182.openO (i := 20) rfl (Nat.lt_of_le_of_lt (Nat.zero_le _) hj)
         cases hpg186
         refine goCh Hz (.c rfl (fun _ h => y_idxO h rfl rfl Tryz.underlying25 sz2vpu (j) rfl hj) <| .c rfl (fun _ h => y_loadO h m182 (i := 20) rfl rfl rfl hj Tryz.underlying2 rfl) <| .assign rfl <| .nil) ?_
         clear Hz Az; intro Az Hz
         refine wpList_nil ?_
         refine hK22 _ _ ?_; clear hK22; try clear K22
         refine wp_seq_k (fun K23 hK23 => ?_)
         rcases st3 (ml.getD j 0) y.fl y.ws.length v6 with hs1 | ⟨hs1, tn, htn, hs2⟩ | ⟨hs1, hs2⟩
         ·
          refine wp_region_lit ?_
          refine goCh Hz (.loadBR m182 (i := 9) rfl rfl Tryz.underlying28 rfl sz28vpu (by simp) (by dsimp only [List.drop, List.take] <;> rfl) <| .move rfl <| .nil) ?_
          clear Hz Az; intro Az Hz
          refine wpList_plain rfl (fun K hK => ?_)
          refine e_call Hz Tryz.func11 rfl rfl rfl rfl (state_pruned9 _ _ _ _ _ _ _ _ _ _ _ _ _ _ _ _ _ _ _ hs1) ?_
          rintro e w192 ⟨rfl, hb192⟩
          have m193 := m182.later hb192
          clear m182
          clear hb192
          refine ⟨_, rfl, ?_⟩; clear Hz Az; intro Az Hz
          refine hK _ _ ?_; clear hK K
          refine goCh Hz (.move rfl <| .extract rfl rfl <| .extract rfl rfl <| .assign rfl <| .assign rfl <| .nil) ?_
          clear Hz Az; intro Az Hz
          refine wpList_nil ?_
          refine hK23 _ _ ?_; clear hK23; try clear K23
          replace Hz : Has 126 [(9, _), (18, _), (20, _), (95, _), (96, _), (97, _), (22, _), (23, _), (24, _)] Az := Hz.only [9, 18, 20, 95, 96, 97, 22, 23, 24]
          refine wp_seq_k (fun K24 hK24 => ?_)
          refine wp_region_lit ?_
          refine goCh Hz (.loadBR m193 (i := 9) rfl rfl Tryz.underlying28 rfl sz28vpu (by simp) (by dsimp only [List.drop, List.take] <;> rfl) <| .move rfl <| .nil) ?_
          clear Hz Az; intro Az Hz
          refine wpList_plain rfl (fun K hK => ?_)
          refine e_call Hz Tryz.func12 rfl rfl rfl rfl (rstate_pruned _ _ _ _ _ _ _ _ _ _ _ _ _ _ _ _ _ _ _ hs1) ?_
          rintro e w205 ⟨rfl, hb205⟩
          have m206 := m193.later hb205
          clear m193
          clear hb205
          refine ⟨_, rfl, ?_⟩; clear Hz Az; intro Az Hz
          refine hK _ _ ?_; clear hK K
          refine goCh Hz (.move rfl <| .extract rfl rfl <| .extract rfl rfl <| .assign rfl <| .assign rfl <| .nil) ?_
          clear Hz Az; intro Az Hz
          refine wpList_nil ?_
          refine hK24 _ _ ?_; clear hK24; try clear K24
          replace Hz : Has 126 [(9, _), (18, _), (20, _), (95, _), (96, _), (97, _), (23, _), (24, _), (25, _), (26, _)] Az := Hz.only [9, 18, 20, 95, 96, 97, 23, 24, 25, 26]
          refine wp_seq_k (fun K25 hK25 => ?_)
          refine wp_region_lit ?_
          refine goCh Hz (.move rfl <| .move rfl <| .neq rfl rfl <| .move rfl <| .nil) ?_
          clear Hz Az; intro Az Hz
          refine bool_cases Hz (t := 116) rfl ?_ ?_
          · intro hb _; exact absurd hb (by simp)
          clear Hz; intro _ Hz
          refine goCh Hz (.moveZ rfl <| .moveZ rfl <| .nil) ?_
          clear Hz Az; intro Az Hz
          refine st_ge Hz rfl rfl rfl rfl (fun K hK => ?_)
          refine e_call Hz Tryz.func13 rfl rfl rfl rfl (bodies_any [] _ _ _ _ _ _ _ (Rd.l0 none 0 1) (Rd.l0 none 0 1) (by simp)) ?_
          rintro e w225 ⟨rfl, hb225⟩
          have m226 := m206.later hb225
          clear m206
          clear hb225
          refine ⟨_, rfl, ?_⟩; clear Hz Az; intro Az Hz
          refine hK _ _ ?_; clear hK K
          refine goCh Hz (.notZ rfl <| .pickF rfl rfl <| .nil) ?_
          clear Hz Az; intro Az Hz
          refine wpList_nil ?_
          refine hK25 _ _ ?_; clear hK25; try clear K25
          refine wp_cond_false (Hz.ev (x := .tmp 121) rfl) ?_
          refine wp_skip ?_
          refine hK21 _ _ ?_; clear hK21; try clear K21
          replace Hz : Has 126 [(9, _), (18, _), (20, _), (95, _), (96, _), (97, _)] Az := Hz.only [9, 18, 20, 95, 96, 97]
          refine wp_region_lit ?_
          refine goCh Hz (.add rfl rfl (r := ((j + 1 : Nat) : Int)) (by rw [IntWalk.i64_in _ (by omega)]; omega) <| .move rfl <| .nil) ?_
          clear Hz Az; intro Az Hz
          refine wpList_nil ?_
          show ∃ n', n' < _ ∧ _
          exact ⟨ml.length - (j + 1), by omega, j + 1, _, _, _, _, _, _, _, _, _, by omega, rfl, Hz.only [9, 18, 20, 95, 96, 97], m226.ren [(9, 9), (10, 10), (11, 11), (12, 12), (20, 20)] (by decide)⟩
         ·
          refine wp_region_lit ?_
          refine goCh Hz (.loadBR m182 (i := 9) rfl rfl Tryz.underlying28 rfl sz28vpu (by simp) (by dsimp only [List.drop, List.take] <;> rfl) <| .move rfl <| .nil) ?_
          clear Hz Az; intro Az Hz
          refine wpList_plain rfl (fun K hK => ?_)
          refine e_call Hz Tryz.func11 rfl rfl rfl rfl (state_q _ y.bl y.sz _ _ _ y.fl _ _ _ _ _ _ _ _ _ _ y.ws _ tn _ _ ((m182.rd (i := 12) rfl).any) (by omega) hwo.1 htn hs1 hs2 (by omega) (by omega) rfl) ?_
          rintro e w235 ⟨p235, c235, rfl, hd235, hb235⟩
          have m236 := m182.callF 300 rfl hb235 hd235
          clear m182
          clear hb235 hd235
          refine ⟨_, rfl, ?_⟩; clear Hz Az; intro Az Hz
          refine hK _ _ ?_; clear hK K
          refine goCh Hz (.move rfl <| .extract rfl rfl <| .extract rfl rfl <| .assign rfl <| .assign rfl <| .nil) ?_
          clear Hz Az; intro Az Hz
          refine wpList_nil ?_
          refine hK23 _ _ ?_; clear hK23; try clear K23
          replace Hz : Has 126 [(9, _), (18, _), (20, _), (95, _), (96, _), (97, _), (22, _), (23, _), (24, _)] Az := Hz.only [9, 18, 20, 95, 96, 97, 22, 23, 24]
          refine wp_seq_k (fun K26 hK26 => ?_)
          refine wp_region_lit ?_
          refine goCh Hz (.loadBR m236 (i := 9) rfl rfl Tryz.underlying28 rfl sz28vpu (by simp) (by dsimp only [List.drop, List.take] <;> rfl) <| .move rfl <| .nil) ?_
          clear Hz Az; intro Az Hz
          refine wpList_plain rfl (fun K hK => ?_)
          refine e_call Hz Tryz.func12 rfl rfl rfl rfl (rstate_y _ y _ hS (by omega) _ _ _ _ _ _ _ tn htn _ (fun b hb => (List.not_mem_nil (a := b)) hb) hs1 hs2 (m236.into [(3, 12)] (by decide) rfl)) ?_
          rintro e w248 ⟨p248, c248, rfl, hm248⟩
          have mx248 := m236.back hm248 [(12, 3), (301, 9)] (by decide); clear hm248 m236
          have m248 : MemOk _ _ [(12, _), (301, _), (9, _), (10, _), (11, _), (20, _), (300, _)] _ := mx248.only [12, 301, 9, 10, 11, 20, 300]; clear mx248
          refine ⟨_, rfl, ?_⟩; clear Hz Az; intro Az Hz
          refine hK _ _ ?_; clear hK K
          refine goCh Hz (.move rfl <| .extract rfl rfl <| .extract rfl rfl <| .assign rfl <| .assign rfl <| .nil) ?_
          clear Hz Az; intro Az Hz
          refine wpList_nil ?_
          refine hK26 _ _ ?_; clear hK26; try clear K26
          replace Hz : Has 126 [(9, _), (18, _), (20, _), (95, _), (96, _), (97, _), (23, _), (24, _), (25, _), (26, _)] Az := Hz.only [9, 18, 20, 95, 96, 97, 23, 24, 25, 26]
          refine wp_seq_k (fun K27 hK27 => ?_)
          refine wp_region_lit ?_
          refine goCh Hz (.move rfl <| .move rfl <| .neq rfl rfl <| .move rfl <| .nil) ?_
          clear Hz Az; intro Az Hz
          refine bool_cases Hz (t := 116) rfl ?_ ?_
          · intro hb _; exact absurd hb (by simp)
          clear Hz; intro _ Hz
          refine goCh Hz (.moveZ rfl <| .moveZ rfl <| .nil) ?_
          clear Hz Az; intro Az Hz
          refine st_ge Hz rfl rfl rfl rfl (fun K hK => ?_)
          refine e_call Hz Tryz.func13 rfl rfl rfl rfl (bodies_any (stL y.bl y.sz y.ws tn) _ _ _ _ _ _ _ ((m248.rd (i := 300) rfl).any) ((m248.rd (i := 301) rfl).any) (by rw [stL_len]; omega)) ?_
          rintro e w267 ⟨rfl, hb267⟩
          have m268 := m248.later hb267
          clear m248
          clear hb267
          refine ⟨_, rfl, ?_⟩; clear Hz Az; intro Az Hz
          refine hK _ _ ?_; clear hK K
          refine goCh Hz (.notZ rfl <| .pickF rfl rfl <| .nil) ?_
          clear Hz Az; intro Az Hz
          refine wpList_nil ?_
          refine hK27 _ _ ?_; clear hK27; try clear K27
          refine wp_cond_false (Hz.ev (x := .tmp 121) rfl) ?_
          refine wp_skip ?_
          refine hK21 _ _ ?_; clear hK21; try clear K21
          replace Hz : Has 126 [(9, _), (18, _), (20, _), (95, _), (96, _), (97, _)] Az := Hz.only [9, 18, 20, 95, 96, 97]
          refine wp_region_lit ?_
          refine goCh Hz (.add rfl rfl (r := ((j + 1 : Nat) : Int)) (by rw [IntWalk.i64_in _ (by omega)]; omega) <| .move rfl <| .nil) ?_
          clear Hz Az; intro Az Hz
          refine wpList_nil ?_
          show ∃ n', n' < _ ∧ _
          exact ⟨ml.length - (j + 1), by omega, j + 1, _, _, _, _, _, _, _, _, _, by omega, rfl, Hz.only [9, 18, 20, 95, 96, 97], m268.ren [(9, 9), (10, 10), (11, 11), (12, 12), (20, 20)] (by decide)⟩
         ·
          refine wp_region_lit ?_
          refine goCh Hz (.loadBR m182 (i := 9) rfl rfl Tryz.underlying28 rfl sz28vpu (by simp) (by dsimp only [List.drop, List.take] <;> rfl) <| .move rfl <| .nil) ?_
          clear Hz Az; intro Az Hz
          refine wpList_plain rfl (fun K hK => ?_)
          refine e_call Hz Tryz.func11 rfl rfl rfl rfl (state_future9 _ _ _ _ _ _ _ _ _ _ _ _ _ _ _ _ _ _ _ hs1 (by rw [List.length_map]; exact hs2)) ?_
          rintro e w277 ⟨rfl, hb277⟩
          have m278 := m182.later hb277
          clear m182
          clear hb277
          refine ⟨_, rfl, ?_⟩; clear Hz Az; intro Az Hz
          refine hK _ _ ?_; clear hK K
          refine goCh Hz (.move rfl <| .extract rfl rfl <| .extract rfl rfl <| .assign rfl <| .assign rfl <| .nil) ?_
          clear Hz Az; intro Az Hz
          refine wpList_nil ?_
          refine hK23 _ _ ?_; clear hK23; try clear K23
          replace Hz : Has 126 [(9, _), (18, _), (20, _), (95, _), (96, _), (97, _), (22, _), (23, _), (24, _)] Az := Hz.only [9, 18, 20, 95, 96, 97, 22, 23, 24]
          refine wp_seq_k (fun K28 hK28 => ?_)
          refine wp_region_lit ?_
          refine goCh Hz (.loadBR m278 (i := 9) rfl rfl Tryz.underlying28 rfl sz28vpu (by simp) (by dsimp only [List.drop, List.take] <;> rfl) <| .move rfl <| .nil) ?_
          clear Hz Az; intro Az Hz
          refine wpList_plain rfl (fun K hK => ?_)
          refine e_call Hz Tryz.func12 rfl rfl rfl rfl (rstate_future _ _ _ _ _ _ _ _ _ _ _ _ _ _ _ _ _ _ _ hs1 (by rw [List.length_map]; exact hs2)) ?_
          rintro e w290 ⟨rfl, hb290⟩
          have m291 := m278.later hb290
          clear m278
          clear hb290
          refine ⟨_, rfl, ?_⟩; clear Hz Az; intro Az Hz
          refine hK _ _ ?_; clear hK K
          refine goCh Hz (.move rfl <| .extract rfl rfl <| .extract rfl rfl <| .assign rfl <| .assign rfl <| .nil) ?_
          clear Hz Az; intro Az Hz
          refine wpList_nil ?_
          refine hK28 _ _ ?_; clear hK28; try clear K28
          replace Hz : Has 126 [(9, _), (18, _), (20, _), (95, _), (96, _), (97, _), (23, _), (24, _), (25, _), (26, _)] Az := Hz.only [9, 18, 20, 95, 96, 97, 23, 24, 25, 26]
          refine wp_seq_k (fun K29 hK29 => ?_)
          refine wp_region_lit ?_
          refine goCh Hz (.move rfl <| .move rfl <| .neq rfl rfl <| .move rfl <| .nil) ?_
          clear Hz Az; intro Az Hz
          refine bool_cases Hz (t := 116) rfl ?_ ?_
          · intro hb _; exact absurd hb (by simp)
          clear Hz; intro _ Hz
          refine goCh Hz (.moveZ rfl <| .moveZ rfl <| .nil) ?_
          clear Hz Az; intro Az Hz
          refine st_ge Hz rfl rfl rfl rfl (fun K hK => ?_)
          refine e_call Hz Tryz.func13 rfl rfl rfl rfl (bodies_any [] _ _ _ _ _ _ _ (Rd.l0 none 0 1) (Rd.l0 none 0 1) (by simp)) ?_
          rintro e w310 ⟨rfl, hb310⟩
          have m311 := m291.later hb310
          clear m291
          clear hb310
          refine ⟨_, rfl, ?_⟩; clear Hz Az; intro Az Hz
          refine hK _ _ ?_; clear hK K
          refine goCh Hz (.notZ rfl <| .pickF rfl rfl <| .nil) ?_
          clear Hz Az; intro Az Hz
          refine wpList_nil ?_
          refine hK29 _ _ ?_; clear hK29; try clear K29
          refine wp_cond_false (Hz.ev (x := .tmp 121) rfl) ?_
          refine wp_skip ?_
          refine hK21 _ _ ?_; clear hK21; try clear K21
          replace Hz : Has 126 [(9, _), (18, _), (20, _), (95, _), (96, _), (97, _)] Az := Hz.only [9, 18, 20, 95, 96, 97]
          refine wp_region_lit ?_
          refine goCh Hz (.add rfl rfl (r := ((j + 1 : Nat) : Int)) (by rw [IntWalk.i64_in _ (by omega)]; omega) <| .move rfl <| .nil) ?_
          clear Hz Az; intro Az Hz
          refine wpList_nil ?_
          show ∃ n', n' < _ ∧ _
          exact ⟨ml.length - (j + 1), by omega, j + 1, _, _, _, _, _, _, _, _, _, by omega, rfl, Hz.only [9, 18, 20, 95, 96, 97], m311.ren [(9, 9), (10, 10), (11, 11), (12, 12), (20, 20)] (by decide)⟩
        ·
         clear Hz; intro hb184 Hz
         try simp only [Q1x, Q2x, Q3x, Q4x, Q5x, Q6x, Q7x, Q8x, Q9x, Q0x, Qax, Qbx] at hb184
         refine wp_cond_false (Hz.ev (x := .tmp 98) rfl) ?_
         refine wp_exit ?_
         refine hK18 _ _ ?_; clear hK18; try clear K18
         refine regS Hz (.move rfl <| .move rfl <| .eqlB rfl rfl Tryz.underlying4 <| .assign rfl <| .nil) ?_
         clear Hz Az; intro Az Hz
         refine wp_ret ?_
         try dsimp only [Exit.then, Exit.inBlock]
         refine (ret1 (fn := Tryz.f3) Hz rfl rfl ?_)
         exact ⟨by first | rfl | simp, m182.below⟩
     replace Hz : Has 126 [(1, _), (2, _), (3, _), (9, _), (10, _), (18, _), (20, _)] Az := Hz.only [1, 2, 3, 9, 10, 18, 20]
     have m323 : MemOk _ _ [(9, _), (10, _), (11, _), (12, _), (100, _), (101, _), (102, _), (103, _)] _ := m179.only [9, 10, 11, 12, 100, 101, 102, 103]; clear m179
     refine region_p 9 (B := [(9, _), (10, _), (11, _), (12, _), (100, _), (101, _), (102, _), (103, _)]) (m323.to ⟨il, il, il, il, il, il, il, il, trivial⟩) m323 (by kernel_rfl) (fun w324 hP324 m324 => ?_); clear m323
     refine goR hP324 [0, 1, 3, 8] [1, 3] 4 0 267 Hz (m324.to ⟨il, il, il, il, il, il, il, il, trivial⟩) (.move rfl <| .loadBR hh (i := 9) rfl rfl Tryz.underlying28 rfl sz28vpu (by simp) (by dsimp only [List.drop, List.take] <;> rfl) <| .loadBR hh (i := 9) rfl rfl Tryz.underlying28 rfl sz28vpu (by simp) (by dsimp only [List.drop, List.take] <;> rfl) <| .move rfl <| .nil) ?_
     clear Hz Az; intro Az Hz
     refine stepE_only 2 rfl (by kernel_rfl) rfl (fun K hK => ?_)
     refine e_call Hz Tryz.func7 rfl rfl rfl rfl (rlen_any _ _ _ _ _ _ _ _ _ _ _ _ _ _ _ _ _ _) ?_
     rintro e w329 ⟨rfl, hb329⟩
     try rw [List.length_map]
     have m330 := m324.later hb329
     clear m324
     clear hb329
     refine ⟨_, rfl, ?_⟩; clear Hz Az; intro Az Hz
     refine hK _ _ (m330.to ⟨il, il, il, il, il, il, il, il, trivial⟩) ?_; clear hK K
     refine stepE_only 4 rfl (by kernel_rfl) rfl (fun K hK => ?_)
     refine e_call Hz Tryz.func7 rfl rfl rfl rfl (rlen_any _ _ _ _ _ _ _ _ _ _ _ _ _ _ _ _ _ _) ?_
     rintro e w332 ⟨rfl, hb332⟩
     try rw [List.length_map]
     have m333 := m330.later hb332
     clear m330
     clear hb332
     refine ⟨_, rfl, ?_⟩; clear Hz Az; intro Az Hz
     refine hK _ _ (m333.to ⟨il, il, il, il, il, il, il, il, trivial⟩) ?_; clear hK K
     refine goA hP324 [5] 1 287 319 Hz (m333.to ⟨il, il, il, il, il, il, il, il, trivial⟩) (.add rfl rfl (IntWalk.i64_in _ (by omega)) <| .nil) ?_
     clear Hz Az; intro Az Hz
     refine stepE_only 6 rfl (by kernel_rfl) rfl (fun K hK => ?_)
     refine e_litN Hz m333 104 (k := .i64) rfl rfl Tryz.underlying25 inf2vpu rfl rfl rfl rfl ?_
     clear Hz Az m333; intro g336 Az w337 Hz m337
     refine hK _ _ (m337.to ⟨il, il, il, il, il, il, il, il, trivial⟩) ?_; clear hK K
     refine goA hP324 [7] 1 383 511 Hz (m337.to ⟨il, il, il, il, il, il, il, il, trivial⟩) (.len rfl Tryz.underlying25 <| .nil) ?_
     clear Hz Az; intro Az Hz
     refine wpAnyE_done (by kernel_rfl) ?_ _
     show K19 _ _
     exact hC19 _ _ ⟨_, [t9, -1, 0, 1, 2, (y.ws.length : Int), (y.ws.length : Int) + 1], _, _, _, _, _, _, _, _, _, by simp, Hz.only [9, 18, 20, 95, 96, 97], m337.ren [(9, 9), (10, 10), (11, 11), (12, 12), (20, 104)] (by decide)⟩
    ·
     refine wp_region_lit ?_
     refine goCh Hz (.loadBR m21 (i := 9) rfl rfl Tryz.underlying28 rfl sz28vpu (by simp) (by dsimp only [List.drop, List.take] <;> rfl) <| .move rfl <| .nil) ?_
     clear Hz Az; intro Az Hz
     refine wpList_plain rfl (fun K hK => ?_)
     refine e_call Hz Tryz.func8 rfl rfl rfl rfl (vpush_nok y _ hS (by omega) _ _ _ _ _ _ kk9 0 _ hok) ?_
     rintro e w341 ⟨rfl, hb341⟩
     have m342 := m21.later hb341
     clear m21
     clear hb341
     refine ⟨_, rfl, ?_⟩; clear Hz Az; intro Az Hz
     refine hK _ _ ?_; clear hK K
     refine goCh Hz (.move rfl <| .extract rfl rfl <| .extract rfl rfl <| .nil) ?_
     clear Hz Az; intro Az Hz
     refine wpList_plain rfl (fun K hK => ?_)
     refine e_alloc Hz m342 100 zc32vpu rfl ?_
     clear Hz Az m342; intro g347 Az w348 Hz m348 hB348 hg348
     clear hB348 hg348
     refine hK _ _ ?_; clear hK K
     refine wpList_plain rfl (fun K hK => ?_)
     refine e_storeW Hz m348 100 rfl rfl rfl rfl rfl sz32vpu ?_
     clear m348; intro w349 m349 hB349
     clear hB349
     refine hK _ _ ?_; clear hK K
     refine goCh Hz (.assign rfl .nil) ?_
     clear Hz Az; intro Az Hz
     refine wpList_nil ?_
     refine hK16 _ _ ?_; clear hK16; try clear K16
     replace Hz : Has 126 [(1, _), (2, _), (3, _), (9, _), (10, _), (18, _)] Az := Hz.only [1, 2, 3, 9, 10, 18]
     refine wp_seq_k (fun K30 hK30 => ?_)
     refine wp_region_lit ?_
     refine goCh Hz (.loadBR m349 (i := 9) rfl rfl Tryz.underlying28 rfl sz28vpu (by simp) (by dsimp only [List.drop, List.take] <;> rfl) <| .move rfl <| .nil) ?_
     clear Hz Az; intro Az Hz
     refine wpList_plain rfl (fun K hK => ?_)
     refine e_call Hz Tryz.func9 rfl rfl rfl rfl (rpush_nok y _ hS (by omega) _ _ _ _ _ _ kk9 0 _ hok) ?_
     rintro e w356 ⟨rfl, hb356⟩
     have m357 := m349.later hb356
     clear m349
     clear hb356
     refine ⟨_, rfl, ?_⟩; clear Hz Az; intro Az Hz
     refine hK _ _ ?_; clear hK K
     refine goCh Hz (.move rfl <| .extract rfl rfl <| .extract rfl rfl <| .nil) ?_
     clear Hz Az; intro Az Hz
     refine wpList_plain rfl (fun K hK => ?_)
     refine e_alloc Hz m357 101 zc32vpu rfl ?_
     clear Hz Az m357; intro g362 Az w363 Hz m363 hB363 hg363
     clear hB363 hg363
     refine hK _ _ ?_; clear hK K
     refine wpList_plain rfl (fun K hK => ?_)
     refine e_storeW Hz m363 101 rfl rfl rfl rfl rfl sz32vpu ?_
     clear m363; intro w364 m364 hB364
     clear hB364
     refine hK _ _ ?_; clear hK K
     refine goCh Hz (.assign rfl .nil) ?_
     clear Hz Az; intro Az Hz
     refine wpList_nil ?_
     refine hK30 _ _ ?_; clear hK30; try clear K30
     refine wp_seq_k (fun K31 hK31 => ?_)
     refine wp_seq_k (fun K32 hK32 => ?_)
     have hC32 : ∀ (a : Act) (w : World), (∃ (bq : Bool) (ml : List Int) (B9 : Nat) (p1 p2 p3 : Option Addr) (d1 d2 d3 : Nat) (pm : Option Addr) (cm : Nat), ml.length ≤ 10 ∧ Has 126 [(9, .pointer (some ⟨B9, 0, none⟩)), (18, .bool bq), (20, .bool bq), (95, .slice pm ml.length cm), (96, .int .i64 ml.length), (97, .int .i64 0)] a ∧ MemOk (cn w0) w0 [(9, .box B9 28 [.int .i64 y.vo, .int .i64 y.bl, .int .i64 y.sz, .int .i64 y.pe, .slice p1 y.place.length d1, .int .i64 y.to, .int .i64 y.ne, .bool y.hi, .int .i64 y.fl, .slice p2 y.pins.length d2, .slice p3 (y.ws.map wrD).length d3]), (10, .dat (.slice p1 y.place.length d1) (.ns .i64 y.place)), (11, .dat (.slice p2 y.pins.length d2) (.ns .i64 y.pins)), (12, .dat (.slice p3 (y.ws.map wrD).length d3) (.l 2 (y.ws.map wrD))), (20, .num (.slice pm ml.length cm) 2 .i64 ml)] w) → K32 a w := by
       clear Hz m364
       rintro Az w366 ⟨bq, ml, B9, p1, p2, p3, d1, d2, d3, pm, cm, hml, Hz, m366⟩
       refine hK32 _ _ ?_; clear hK32; try clear K32
       refine wp_block ?_
       refine wp_loop_ghost (fun g a w => ∃ (j B9 : Nat) (p1 p2 p3 : Option Addr) (d1 d2 d3 : Nat) (pm : Option Addr) (cm : Nat), j ≤ ml.length ∧ g = ml.length - j ∧ Has 126 [(9, .pointer (some ⟨B9, 0, none⟩)), (18, .bool bq), (20, .bool bq), (95, .slice pm ml.length cm), (96, .int .i64 ml.length), (97, .int .i64 j)] a ∧ MemOk (cn w0) w0 [(9, .box B9 28 [.int .i64 y.vo, .int .i64 y.bl, .int .i64 y.sz, .int .i64 y.pe, .slice p1 y.place.length d1, .int .i64 y.to, .int .i64 y.ne, .bool y.hi, .int .i64 y.fl, .slice p2 y.pins.length d2, .slice p3 (y.ws.map wrD).length d3]), (10, .dat (.slice p1 y.place.length d1) (.ns .i64 y.place)), (11, .dat (.slice p2 y.pins.length d2) (.ns .i64 y.pins)), (12, .dat (.slice p3 (y.ws.map wrD).length d3) (.l 2 (y.ws.map wrD))), (20, .num (.slice pm ml.length cm) 2 .i64 ml)] w) (ml.length) ?_ ?_
       · exact ⟨0, _, _, _, _, _, _, _, _, _, Nat.zero_le _, rfl, Hz.only [9, 18, 20, 95, 96, 97], m366.ren [(9, 9), (10, 10), (11, 11), (12, 12), (20, 20)] (by decide)⟩
       ·
        clear Hz m366
        rintro g Az w367 ⟨j, B9, p1, p2, p3, d1, d2, d3, pm, cm, hjl, hg2, Hz, m367⟩
        refine regS Hz (.lss rfl rfl <| .nil) ?_
        clear Hz Az; intro Az Hz
        refine wp_seq_k (fun K33 hK33 => ?_)
        refine bool_cases Hz (t := 98) rfl ?_ ?_
        ·
         clear Hz; intro hb369 Hz
         try simp only [Q1x, Q2x, Q3x, Q4x, Q5x, Q6x, Q7x, Q8x, Q9x, Q0x, Qax, Qbx] at hb369
         have hj : j < ml.length := by have := hb369; first | omega | (simp at this; omega)
         refine wp_cond_true (Hz.ev (x := .tmp 98) rfl) ?_
         refine wp_skip ?_
         refine hK33 _ _ ?_; clear hK33; try clear K33
         refine wp_seq_k (fun K34 hK34 => ?_)
         refine wp_block ?_
         refine wp_seq_k (fun K35 hK35 => ?_)
         refine wp_region_lit ?_
         obtain ⟨g371, hpg371⟩ := m367.openO (i := 20) rfl (Nat.lt_of_le_of_lt (Nat.zero_le _) hj)
         cases hpg371
         refine goCh Hz (.c rfl (fun _ h => y_idxO h rfl rfl Tryz.underlying25 sz2vpu (j) rfl hj) <| .c rfl (fun _ h => y_loadO h m367 (i := 20) rfl rfl rfl hj Tryz.underlying2 rfl) <| .assign rfl <| .nil) ?_
         clear Hz Az; intro Az Hz
         refine wpList_nil ?_
         refine hK35 _ _ ?_; clear hK35; try clear K35
         refine wp_seq_k (fun K36 hK36 => ?_)
         rcases st3 (ml.getD j 0) y.fl y.ws.length v6 with hs1 | ⟨hs1, tn, htn, hs2⟩ | ⟨hs1, hs2⟩
         ·
          refine wp_region_lit ?_
          refine goCh Hz (.loadBR m367 (i := 9) rfl rfl Tryz.underlying28 rfl sz28vpu (by simp) (by dsimp only [List.drop, List.take] <;> rfl) <| .move rfl <| .nil) ?_
          clear Hz Az; intro Az Hz
          refine wpList_plain rfl (fun K hK => ?_)
          refine e_call Hz Tryz.func11 rfl rfl rfl rfl (state_pruned9 _ _ _ _ _ _ _ _ _ _ _ _ _ _ _ _ _ _ _ hs1) ?_
          rintro e w377 ⟨rfl, hb377⟩
          have m378 := m367.later hb377
          clear m367
          clear hb377
          refine ⟨_, rfl, ?_⟩; clear Hz Az; intro Az Hz
          refine hK _ _ ?_; clear hK K
          refine goCh Hz (.move rfl <| .extract rfl rfl <| .extract rfl rfl <| .assign rfl <| .assign rfl <| .nil) ?_
          clear Hz Az; intro Az Hz
          refine wpList_nil ?_
          refine hK36 _ _ ?_; clear hK36; try clear K36
          replace Hz : Has 126 [(9, _), (18, _), (20, _), (95, _), (96, _), (97, _), (22, _), (23, _), (24, _)] Az := Hz.only [9, 18, 20, 95, 96, 97, 22, 23, 24]
          refine wp_seq_k (fun K37 hK37 => ?_)
          refine wp_region_lit ?_
          refine goCh Hz (.loadBR m378 (i := 9) rfl rfl Tryz.underlying28 rfl sz28vpu (by simp) (by dsimp only [List.drop, List.take] <;> rfl) <| .move rfl <| .nil) ?_
          clear Hz Az; intro Az Hz
          refine wpList_plain rfl (fun K hK => ?_)
          refine e_call Hz Tryz.func12 rfl rfl rfl rfl (rstate_pruned _ _ _ _ _ _ _ _ _ _ _ _ _ _ _ _ _ _ _ hs1) ?_
          rintro e w390 ⟨rfl, hb390⟩
          have m391 := m378.later hb390
          clear m378
          clear hb390
          refine ⟨_, rfl, ?_⟩; clear Hz Az; intro Az Hz
          refine hK _ _ ?_; clear hK K
          refine goCh Hz (.move rfl <| .extract rfl rfl <| .extract rfl rfl <| .assign rfl <| .assign rfl <| .nil) ?_
          clear Hz Az; intro Az Hz
          refine wpList_nil ?_
          refine hK37 _ _ ?_; clear hK37; try clear K37
          replace Hz : Has 126 [(9, _), (18, _), (20, _), (95, _), (96, _), (97, _), (23, _), (24, _), (25, _), (26, _)] Az := Hz.only [9, 18, 20, 95, 96, 97, 23, 24, 25, 26]
          refine wp_seq_k (fun K38 hK38 => ?_)
          refine wp_region_lit ?_
          refine goCh Hz (.move rfl <| .move rfl <| .neq rfl rfl <| .move rfl <| .nil) ?_
          clear Hz Az; intro Az Hz
          refine bool_cases Hz (t := 116) rfl ?_ ?_
          · intro hb _; exact absurd hb (by simp)
          clear Hz; intro _ Hz
          refine goCh Hz (.moveZ rfl <| .moveZ rfl <| .nil) ?_
          clear Hz Az; intro Az Hz
          refine st_ge Hz rfl rfl rfl rfl (fun K hK => ?_)
          refine e_call Hz Tryz.func13 rfl rfl rfl rfl (bodies_any [] _ _ _ _ _ _ _ (Rd.l0 none 0 1) (Rd.l0 none 0 1) (by simp)) ?_
          rintro e w410 ⟨rfl, hb410⟩
          have m411 := m391.later hb410
          clear m391
          clear hb410
          refine ⟨_, rfl, ?_⟩; clear Hz Az; intro Az Hz
          refine hK _ _ ?_; clear hK K
          refine goCh Hz (.notZ rfl <| .pickF rfl rfl <| .nil) ?_
          clear Hz Az; intro Az Hz
          refine wpList_nil ?_
          refine hK38 _ _ ?_; clear hK38; try clear K38
          refine wp_cond_false (Hz.ev (x := .tmp 121) rfl) ?_
          refine wp_skip ?_
          refine hK34 _ _ ?_; clear hK34; try clear K34
          replace Hz : Has 126 [(9, _), (18, _), (20, _), (95, _), (96, _), (97, _)] Az := Hz.only [9, 18, 20, 95, 96, 97]
          refine wp_region_lit ?_
          refine goCh Hz (.add rfl rfl (r := ((j + 1 : Nat) : Int)) (by rw [IntWalk.i64_in _ (by omega)]; omega) <| .move rfl <| .nil) ?_
          clear Hz Az; intro Az Hz
          refine wpList_nil ?_
          show ∃ n', n' < _ ∧ _
          exact ⟨ml.length - (j + 1), by omega, j + 1, _, _, _, _, _, _, _, _, _, by omega, rfl, Hz.only [9, 18, 20, 95, 96, 97], m411.ren [(9, 9), (10, 10), (11, 11), (12, 12), (20, 20)] (by decide)⟩
         ·
          refine wp_region_lit ?_
          refine goCh Hz (.loadBR m367 (i := 9) rfl rfl Tryz.underlying28 rfl sz28vpu (by simp) (by dsimp only [List.drop, List.take] <;> rfl) <| .move rfl <| .nil) ?_
          clear Hz Az; intro Az Hz
          refine wpList_plain rfl (fun K hK => ?_)
          refine e_call Hz Tryz.func11 rfl rfl rfl rfl (state_q _ y.bl y.sz _ _ _ y.fl _ _ _ _ _ _ _ _ _ _ y.ws _ tn _ _ ((m367.rd (i := 12) rfl).any) (by omega) hwo.1 htn hs1 hs2 (by omega) (by omega) rfl) ?_
          rintro e w420 ⟨p420, c420, rfl, hd420, hb420⟩
          have m421 := m367.callF 300 rfl hb420 hd420
          clear m367
          clear hb420 hd420
          refine ⟨_, rfl, ?_⟩; clear Hz Az; intro Az Hz
          refine hK _ _ ?_; clear hK K
          refine goCh Hz (.move rfl <| .extract rfl rfl <| .extract rfl rfl <| .assign rfl <| .assign rfl <| .nil) ?_
          clear Hz Az; intro Az Hz
          refine wpList_nil ?_
          refine hK36 _ _ ?_; clear hK36; try clear K36
          replace Hz : Has 126 [(9, _), (18, _), (20, _), (95, _), (96, _), (97, _), (22, _), (23, _), (24, _)] Az := Hz.only [9, 18, 20, 95, 96, 97, 22, 23, 24]
          refine wp_seq_k (fun K39 hK39 => ?_)
          refine wp_region_lit ?_
          refine goCh Hz (.loadBR m421 (i := 9) rfl rfl Tryz.underlying28 rfl sz28vpu (by simp) (by dsimp only [List.drop, List.take] <;> rfl) <| .move rfl <| .nil) ?_
          clear Hz Az; intro Az Hz
          refine wpList_plain rfl (fun K hK => ?_)
          refine e_call Hz Tryz.func12 rfl rfl rfl rfl (rstate_y _ y _ hS (by omega) _ _ _ _ _ _ _ tn htn _ (fun b hb => (List.not_mem_nil (a := b)) hb) hs1 hs2 (m421.into [(3, 12)] (by decide) rfl)) ?_
          rintro e w433 ⟨p433, c433, rfl, hm433⟩
          have mx433 := m421.back hm433 [(12, 3), (301, 9)] (by decide); clear hm433 m421
          have m433 : MemOk _ _ [(12, _), (301, _), (9, _), (10, _), (11, _), (20, _), (300, _)] _ := mx433.only [12, 301, 9, 10, 11, 20, 300]; clear mx433
          refine ⟨_, rfl, ?_⟩; clear Hz Az; intro Az Hz
          refine hK _ _ ?_; clear hK K
          refine goCh Hz (.move rfl <| .extract rfl rfl <| .extract rfl rfl <| .assign rfl <| .assign rfl <| .nil) ?_
          clear Hz Az; intro Az Hz
          refine wpList_nil ?_
          refine hK39 _ _ ?_; clear hK39; try clear K39
          replace Hz : Has 126 [(9, _), (18, _), (20, _), (95, _), (96, _), (97, _), (23, _), (24, _), (25, _), (26, _)] Az := Hz.only [9, 18, 20, 95, 96, 97, 23, 24, 25, 26]
          refine wp_seq_k (fun K40 hK40 => ?_)
          refine wp_region_lit ?_
          refine goCh Hz (.move rfl <| .move rfl <| .neq rfl rfl <| .move rfl <| .nil) ?_
          clear Hz Az; intro Az Hz
          refine bool_cases Hz (t := 116) rfl ?_ ?_
          · intro hb _; exact absurd hb (by simp)
          clear Hz; intro _ Hz
          refine goCh Hz (.moveZ rfl <| .moveZ rfl <| .nil) ?_
          clear Hz Az; intro Az Hz
          refine st_ge Hz rfl rfl rfl rfl (fun K hK => ?_)
          refine e_call Hz Tryz.func13 rfl rfl rfl rfl (bodies_any (stL y.bl y.sz y.ws tn) _ _ _ _ _ _ _ ((m433.rd (i := 300) rfl).any) ((m433.rd (i := 301) rfl).any) (by rw [stL_len]; omega)) ?_
          rintro e w452 ⟨rfl, hb452⟩
          have m453 := m433.later hb452
          clear m433
          clear hb452
          refine ⟨_, rfl, ?_⟩; clear Hz Az; intro Az Hz
          refine hK _ _ ?_; clear hK K
          refine goCh Hz (.notZ rfl <| .pickF rfl rfl <| .nil) ?_
          clear Hz Az; intro Az Hz
          refine wpList_nil ?_
          refine hK40 _ _ ?_; clear hK40; try clear K40
          refine wp_cond_false (Hz.ev (x := .tmp 121) rfl) ?_
          refine wp_skip ?_
          refine hK34 _ _ ?_; clear hK34; try clear K34
          replace Hz : Has 126 [(9, _), (18, _), (20, _), (95, _), (96, _), (97, _)] Az := Hz.only [9, 18, 20, 95, 96, 97]
          refine wp_region_lit ?_
          refine goCh Hz (.add rfl rfl (r := ((j + 1 : Nat) : Int)) (by rw [IntWalk.i64_in _ (by omega)]; omega) <| .move rfl <| .nil) ?_
          clear Hz Az; intro Az Hz
          refine wpList_nil ?_
          show ∃ n', n' < _ ∧ _
          exact ⟨ml.length - (j + 1), by omega, j + 1, _, _, _, _, _, _, _, _, _, by omega, rfl, Hz.only [9, 18, 20, 95, 96, 97], m453.ren [(9, 9), (10, 10), (11, 11), (12, 12), (20, 20)] (by decide)⟩
         ·
          refine wp_region_lit ?_
          refine goCh Hz (.loadBR m367 (i := 9) rfl rfl Tryz.underlying28 rfl sz28vpu (by simp) (by dsimp only [List.drop, List.take] <;> rfl) <| .move rfl <| .nil) ?_
          clear Hz Az; intro Az Hz
          refine wpList_plain rfl (fun K hK => ?_)
          refine e_call Hz Tryz.func11 rfl rfl rfl rfl (state_future9 _ _ _ _ _ _ _ _ _ _ _ _ _ _ _ _ _ _ _ hs1 (by rw [List.length_map]; exact hs2)) ?_
          rintro e w462 ⟨rfl, hb462⟩
          have m463 := m367.later hb462
          clear m367
          clear hb462
          refine ⟨_, rfl, ?_⟩; clear Hz Az; intro Az Hz
          refine hK _ _ ?_; clear hK K
          refine goCh Hz (.move rfl <| .extract rfl rfl <| .extract rfl rfl <| .assign rfl <| .assign rfl <| .nil) ?_
          clear Hz Az; intro Az Hz
          refine wpList_nil ?_
          refine hK36 _ _ ?_; clear hK36; try clear K36
          replace Hz : Has 126 [(9, _), (18, _), (20, _), (95, _), (96, _), (97, _), (22, _), (23, _), (24, _)] Az := Hz.only [9, 18, 20, 95, 96, 97, 22, 23, 24]
          refine wp_seq_k (fun K41 hK41 => ?_)
          refine wp_region_lit ?_
          refine goCh Hz (.loadBR m463 (i := 9) rfl rfl Tryz.underlying28 rfl sz28vpu (by simp) (by dsimp only [List.drop, List.take] <;> rfl) <| .move rfl <| .nil) ?_
          clear Hz Az; intro Az Hz
          refine wpList_plain rfl (fun K hK => ?_)
          refine e_call Hz Tryz.func12 rfl rfl rfl rfl (rstate_future _ _ _ _ _ _ _ _ _ _ _ _ _ _ _ _ _ _ _ hs1 (by rw [List.length_map]; exact hs2)) ?_
          rintro e w475 ⟨rfl, hb475⟩
          have m476 := m463.later hb475
          clear m463
          clear hb475
          refine ⟨_, rfl, ?_⟩; clear Hz Az; intro Az Hz
          refine hK _ _ ?_; clear hK K
          refine goCh Hz (.move rfl <| .extract rfl rfl <| .extract rfl rfl <| .assign rfl <| .assign rfl <| .nil) ?_
          clear Hz Az; intro Az Hz
          refine wpList_nil ?_
          refine hK41 _ _ ?_; clear hK41; try clear K41
          replace Hz : Has 126 [(9, _), (18, _), (20, _), (95, _), (96, _), (97, _), (23, _), (24, _), (25, _), (26, _)] Az := Hz.only [9, 18, 20, 95, 96, 97, 23, 24, 25, 26]
          refine wp_seq_k (fun K42 hK42 => ?_)
          refine wp_region_lit ?_
          refine goCh Hz (.move rfl <| .move rfl <| .neq rfl rfl <| .move rfl <| .nil) ?_
          clear Hz Az; intro Az Hz
          refine bool_cases Hz (t := 116) rfl ?_ ?_
          · intro hb _; exact absurd hb (by simp)
          clear Hz; intro _ Hz
          refine goCh Hz (.moveZ rfl <| .moveZ rfl <| .nil) ?_
          clear Hz Az; intro Az Hz
          refine st_ge Hz rfl rfl rfl rfl (fun K hK => ?_)
          refine e_call Hz Tryz.func13 rfl rfl rfl rfl (bodies_any [] _ _ _ _ _ _ _ (Rd.l0 none 0 1) (Rd.l0 none 0 1) (by simp)) ?_
          rintro e w495 ⟨rfl, hb495⟩
          have m496 := m476.later hb495
          clear m476
          clear hb495
          refine ⟨_, rfl, ?_⟩; clear Hz Az; intro Az Hz
          refine hK _ _ ?_; clear hK K
          refine goCh Hz (.notZ rfl <| .pickF rfl rfl <| .nil) ?_
          clear Hz Az; intro Az Hz
          refine wpList_nil ?_
          refine hK42 _ _ ?_; clear hK42; try clear K42
          refine wp_cond_false (Hz.ev (x := .tmp 121) rfl) ?_
          refine wp_skip ?_
          refine hK34 _ _ ?_; clear hK34; try clear K34
          replace Hz : Has 126 [(9, _), (18, _), (20, _), (95, _), (96, _), (97, _)] Az := Hz.only [9, 18, 20, 95, 96, 97]
          refine wp_region_lit ?_
          refine goCh Hz (.add rfl rfl (r := ((j + 1 : Nat) : Int)) (by rw [IntWalk.i64_in _ (by omega)]; omega) <| .move rfl <| .nil) ?_
          clear Hz Az; intro Az Hz
          refine wpList_nil ?_
          show ∃ n', n' < _ ∧ _
          exact ⟨ml.length - (j + 1), by omega, j + 1, _, _, _, _, _, _, _, _, _, by omega, rfl, Hz.only [9, 18, 20, 95, 96, 97], m496.ren [(9, 9), (10, 10), (11, 11), (12, 12), (20, 20)] (by decide)⟩
        ·
         clear Hz; intro hb369 Hz
         try simp only [Q1x, Q2x, Q3x, Q4x, Q5x, Q6x, Q7x, Q8x, Q9x, Q0x, Qax, Qbx] at hb369
         refine wp_cond_false (Hz.ev (x := .tmp 98) rfl) ?_
         refine wp_exit ?_
         refine hK31 _ _ ?_; clear hK31; try clear K31
         refine regS Hz (.move rfl <| .move rfl <| .eqlB rfl rfl Tryz.underlying4 <| .assign rfl <| .nil) ?_
         clear Hz Az; intro Az Hz
         refine wp_ret ?_
         try dsimp only [Exit.then, Exit.inBlock]
         refine (ret1 (fn := Tryz.f3) Hz rfl rfl ?_)
         exact ⟨by first | rfl | simp, m367.below⟩
     replace Hz : Has 126 [(1, _), (2, _), (3, _), (9, _), (10, _), (18, _), (20, _)] Az := Hz.only [1, 2, 3, 9, 10, 18, 20]
     have m508 : MemOk _ _ [(9, _), (10, _), (11, _), (12, _), (100, _), (101, _)] _ := m364.only [9, 10, 11, 12, 100, 101]; clear m364
     refine region_p 9 (B := [(9, _), (10, _), (11, _), (12, _), (100, _), (101, _)]) (m508.to ⟨il, il, il, il, il, il, trivial⟩) m508 (by kernel_rfl) (fun w509 hP509 m509 => ?_); clear m508
     refine goR hP509 [0, 1, 3, 8] [1, 3] 4 0 267 Hz (m509.to ⟨il, il, il, il, il, il, trivial⟩) (.move rfl <| .loadBR hh (i := 9) rfl rfl Tryz.underlying28 rfl sz28vpu (by simp) (by dsimp only [List.drop, List.take] <;> rfl) <| .loadBR hh (i := 9) rfl rfl Tryz.underlying28 rfl sz28vpu (by simp) (by dsimp only [List.drop, List.take] <;> rfl) <| .move rfl <| .nil) ?_
     clear Hz Az; intro Az Hz
     refine stepE_only 2 rfl (by kernel_rfl) rfl (fun K hK => ?_)
     refine e_call Hz Tryz.func7 rfl rfl rfl rfl (rlen_any _ _ _ _ _ _ _ _ _ _ _ _ _ _ _ _ _ _) ?_
     rintro e w514 ⟨rfl, hb514⟩
     try rw [List.length_map]
     have m515 := m509.later hb514
     clear m509
     clear hb514
     refine ⟨_, rfl, ?_⟩; clear Hz Az; intro Az Hz
     refine hK _ _ (m515.to ⟨il, il, il, il, il, il, trivial⟩) ?_; clear hK K
     refine stepE_only 4 rfl (by kernel_rfl) rfl (fun K hK => ?_)
     refine e_call Hz Tryz.func7 rfl rfl rfl rfl (rlen_any _ _ _ _ _ _ _ _ _ _ _ _ _ _ _ _ _ _) ?_
     rintro e w517 ⟨rfl, hb517⟩
     try rw [List.length_map]
     have m518 := m515.later hb517
     clear m515
     clear hb517
     refine ⟨_, rfl, ?_⟩; clear Hz Az; intro Az Hz
     refine hK _ _ (m518.to ⟨il, il, il, il, il, il, trivial⟩) ?_; clear hK K
     refine goA hP509 [5] 1 287 319 Hz (m518.to ⟨il, il, il, il, il, il, trivial⟩) (.add rfl rfl (IntWalk.i64_in _ (by omega)) <| .nil) ?_
     clear Hz Az; intro Az Hz
     refine stepE_only 6 rfl (by kernel_rfl) rfl (fun K hK => ?_)
     refine e_litN Hz m518 102 (k := .i64) rfl rfl Tryz.underlying25 inf2vpu rfl rfl rfl rfl ?_
     clear Hz Az m518; intro g521 Az w522 Hz m522
     refine hK _ _ (m522.to ⟨il, il, il, il, il, il, trivial⟩) ?_; clear hK K
     refine goA hP509 [7] 1 383 511 Hz (m522.to ⟨il, il, il, il, il, il, trivial⟩) (.len rfl Tryz.underlying25 <| .nil) ?_
     clear Hz Az; intro Az Hz
     refine wpAnyE_done (by kernel_rfl) ?_ _
     show K32 _ _
     exact hC32 _ _ ⟨_, [t9, -1, 0, 1, 2, (y.ws.length : Int), (y.ws.length : Int) + 1], _, _, _, _, _, _, _, _, _, by simp, Hz.only [9, 18, 20, 95, 96, 97], m522.ren [(9, 9), (10, 10), (11, 11), (12, 12), (20, 102)] (by decide)⟩
end Go.Proofs.YtocfbocdnklllaaGreat.K
