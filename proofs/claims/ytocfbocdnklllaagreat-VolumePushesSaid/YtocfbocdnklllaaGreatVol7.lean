/- volume: State. -/
import Derived.Test.YtocfbocdnklllaaGreatVol6
namespace Go.Proofs.YtocfbocdnklllaaGreat.K
open Go.ChangeShapes Go.WideShapes Go.ChangeAt Go.RowKit
set_option linter.unusedVariables false
set_option linter.unusedSimpArgs false


theorem sz28sf : (Tryz.prog.info? 28).map (·.size) = some 11 := by kernel_rfl
theorem sz22st : (Tryz.prog.info? 22).map (·.size) = some 1 := by kernel_rfl
theorem sz28st : (Tryz.prog.info? 28).map (·.size) = some 11 := by kernel_rfl
theorem sz56st : (Tryz.prog.info? 56).map (·.size) = some 2 := by kernel_rfl
theorem sz58st : (Tryz.prog.info? 58).map (·.size) = some 2 := by kernel_rfl
theorem zc56st : ((Tryz.prog.info? 56).bind (·.zero)).map (·.cells.toList) = some [.int .i64 0, .slice none 0 0] := by kernel_rfl
theorem zc58st : ((Tryz.prog.info? 58).bind (·.zero)).map (·.cells.toList) = some [.int .i64 0, .slice none 0 0] := by kernel_rfl

def stStep (L : List (List Int)) (x : Int × List Int) : List (List Int) := if 0 ≤ x.1 ∧ x.1 ≤ (L.length : Int) - 1 then L.set x.1.toNat x.2 else L
def stW (L : List (List Int)) (x : Int × List (Int × List Int)) : List (List Int) := x.2.foldl stStep L
theorem bD_get {L : List (List Int)} {k : Nat} (h : k < L.length) : (L.map bD)[k]? = some [.ns .u8 (L.getD k [])] := by simp [bD, List.getD, h]
theorem stx_yes {L L2 : List (List Int)} {xl : List (Int × List Int)} {j : Nat} {xb : Int} {xd : List Int} (h : xl[j]? = some (xb, xd)) (hL : L2 = (xl.take j).foldl stStep L) (hb : 0 ≤ xb ∧ xb ≤ (L2.length : Int) - 1) : L2.set xb.toNat xd = (xl.take (j + 1)).foldl stStep L := by
 rw [take_snoc h, List.foldl_append, ← hL]; simp only [List.foldl_cons, List.foldl_nil, stStep]; rw [if_pos hb]
theorem stx_no {L L2 : List (List Int)} {xl : List (Int × List Int)} {j : Nat} {xb : Int} {xd : List Int} (h : xl[j]? = some (xb, xd)) (hL : L2 = (xl.take j).foldl stStep L) (hb : ¬ (0 ≤ xb ∧ xb ≤ (L2.length : Int) - 1)) : L2 = (xl.take (j + 1)).foldl stStep L := by
 rw [take_snoc h, List.foldl_append, ← hL]; simp only [List.foldl_cons, List.foldl_nil, stStep]; rw [if_neg hb]
theorem st_snoc {L0 L L2 : List (List Int)} {ws : List (Int × List (Int × List Int))} {k : Nat} {xs : Int} {xl : List (Int × List Int)} (h : ws[k]? = some (xs, xl)) (hL : L = (ws.take k).foldl stW L0) (h2 : L2 = xl.foldl stStep L) : L2 = (ws.take (k + 1)).foldl stW L0 := by
 rw [take_snoc h, List.foldl_append, ← hL]; exact h2
set_option maxRecDepth 100000
set_option maxHeartbeats 4000000
theorem state_pruned (vo bl sz pe to ne fl : Int) (hi : Bool) (pp pn pw : Option Addr) (np cp nn9 cn9 cw : Nat) (ws : List (Int × List (Int × List Int))) (tt : Int) (w0 : World) (ht : tt < fl) :
   Calls Tryz.prog 11 #[.agg #[.int .i64 vo, .int .i64 bl, .int .i64 sz, .int .i64 pe, .slice pp np cp, .int .i64 to, .int .i64 ne, .bool hi, .int .i64 fl, .slice pn nn9 cn9, .slice pw ws.length cw], .int .i64 tt] w0 fun e w' => e = .returned (.tuple #[.slice none 0 0, .int .i64 30]) ∧ Below w0.heap.size w0 w' := by
 refine enter (fn := Tryz.f11) Tryz.func11 rfl Tryz.ntmps11 rfl (fun Az Hz => ?_)
 simp only [List.zipIdx_cons, List.zipIdx_nil, List.map_cons, List.map_nil, Nat.reduceAdd, Nat.zero_add] at Hz
 have m0 := MemOk.start (fun _ => False) w0
 refine wp_seq_k (fun K0 hK0 => ?_)
 refine wp_region_lit ?_
 refine wpList_plain rfl (fun K hK => ?_)
 refine e_box Hz m0 20 (cs := [_, _, _, _, _, _, _, _, _, _, _]) rfl rfl rfl ?_
 clear Hz Az m0; intro g1 Az w2 Hz m2 hB2 hg2
 clear hB2 hg2
 refine hK _ _ ?_; clear hK K
 refine goCh Hz (.assign rfl <| .assign rfl <| .nil) ?_
 clear Hz Az; intro Az Hz
 refine wpList_nil ?_
 refine hK0 _ _ ?_; clear hK0; try clear K0
 refine wp_seq_k (fun K1 hK1 => ?_)
 refine regS Hz (.move rfl <| .fieldAddr (off := 8) rfl Tryz.underlying28 rfl (s := 0) (by kernel_rfl) rfl <| .loadB1 m2 (i := 20) rfl rfl rfl Tryz.underlying2 rfl <| .lss rfl rfl <| .nil) ?_
 clear Hz Az; intro Az Hz
 refine bool_cases Hz (t := 14) rfl ?_ ?_
 rotate_left
 · intro hb _; exact absurd hb (by simp; omega)
 clear Hz; intro _ Hz
 refine wp_cond_true (Hz.ev (x := .tmp 14) rfl) ?_
 refine regS Hz (.assign rfl <| .assign rfl <| .nil) ?_
 clear Hz Az; intro Az Hz
 refine wp_ret ?_
 try dsimp only [Exit.then, Exit.inBlock]
 refine (ret2 (fn := Tryz.f11) Hz rfl rfl rfl ?_)
 exact ⟨rfl, m2.below⟩
theorem state_future (vo bl sz pe to ne fl : Int) (hi : Bool) (pp pn pw : Option Addr) (np cp nn9 cn9 cw : Nat) (ws : List (Int × List (Int × List Int))) (tt : Int) (w0 : World) (ht0 : fl ≤ tt) (ht : ws.length < tt) :
   Calls Tryz.prog 11 #[.agg #[.int .i64 vo, .int .i64 bl, .int .i64 sz, .int .i64 pe, .slice pp np cp, .int .i64 to, .int .i64 ne, .bool hi, .int .i64 fl, .slice pn nn9 cn9, .slice pw ws.length cw], .int .i64 tt] w0 fun e w' => e = .returned (.tuple #[.slice none 0 0, .int .i64 31]) ∧ Below w0.heap.size w0 w' := by
 refine enter (fn := Tryz.f11) Tryz.func11 rfl Tryz.ntmps11 rfl (fun Az Hz => ?_)
 simp only [List.zipIdx_cons, List.zipIdx_nil, List.map_cons, List.map_nil, Nat.reduceAdd, Nat.zero_add] at Hz
 have m0 := MemOk.start (fun _ => False) w0
 refine wp_seq_k (fun K0 hK0 => ?_)
 refine wp_region_lit ?_
 refine wpList_plain rfl (fun K hK => ?_)
 refine e_box Hz m0 20 (cs := [_, _, _, _, _, _, _, _, _, _, _]) rfl rfl rfl ?_
 clear Hz Az m0; intro g1 Az w2 Hz m2 hB2 hg2
 clear hB2 hg2
 refine hK _ _ ?_; clear hK K
 refine goCh Hz (.assign rfl <| .assign rfl <| .nil) ?_
 clear Hz Az; intro Az Hz
 refine wpList_nil ?_
 refine hK0 _ _ ?_; clear hK0; try clear K0
 refine wp_seq_k (fun K1 hK1 => ?_)
 refine regS Hz (.move rfl <| .fieldAddr (off := 8) rfl Tryz.underlying28 rfl (s := 0) (by kernel_rfl) rfl <| .loadB1 m2 (i := 20) rfl rfl rfl Tryz.underlying2 rfl <| .lss rfl rfl <| .nil) ?_
 clear Hz Az; intro Az Hz
 refine bool_cases Hz (t := 14) rfl ?_ ?_
 · intro hb _; exact absurd hb (by simp; omega)
 clear Hz; intro _ Hz
 refine wp_cond_false (Hz.ev (x := .tmp 14) rfl) ?_
 refine wp_skip ?_
 refine hK1 _ _ ?_; clear hK1; try clear K1
 refine wp_seq_k (fun K2 hK2 => ?_)
 refine wp_seq_k (fun K3 hK3 => ?_)
 refine wp_region_lit ?_
 refine goCh Hz (.move rfl <| .loadBR m2 (i := 20) rfl rfl Tryz.underlying28 rfl sz28sf (by simp) (by dsimp only [List.drop, List.take] <;> rfl) <| .nil) ?_
 clear Hz Az; intro Az Hz
 refine wpList_plain rfl (fun K hK => ?_)
 refine e_call Hz Tryz.func18 rfl rfl rfl rfl (vlen_any _ _ _ _ _ _ _ _ _ _ _ _ _ _ _ _ _ _) ?_
 rintro e w14 ⟨rfl, hb14⟩
 have m15 := m2.later hb14
 clear m2
 clear hb14
 refine ⟨_, rfl, ?_⟩; clear Hz Az; intro Az Hz
 refine hK _ _ ?_; clear hK K
 refine goCh Hz (.gtr rfl rfl .nil) ?_
 clear Hz Az; intro Az Hz
 refine wpList_nil ?_
 refine hK3 _ _ ?_; clear hK3; try clear K3
 refine bool_cases Hz (t := 18) rfl ?_ ?_
 rotate_left
 · intro hb _; exact absurd hb (by simp; omega)
 clear Hz; intro _ Hz
 refine wp_cond_true (Hz.ev (x := .tmp 18) rfl) ?_
 replace Hz : Has 57 [(1, _), (2, _), (4, _), (5, _)] Az := Hz.only [1, 2, 4, 5]
 refine regS Hz (.assign rfl <| .assign rfl <| .nil) ?_
 clear Hz Az; intro Az Hz
 refine wp_ret ?_
 try dsimp only [Exit.then, Exit.inBlock]
 refine (ret2 (fn := Tryz.f11) Hz rfl rfl rfl ?_)
 exact ⟨rfl, m15.below⟩
theorem state_any (vo bl sz pe to ne fl : Int) (hi : Bool) (pp pn pw : Option Addr) (np cp nn9 cn9 cw : Nat) (ws : List (Int × List (Int × List Int))) (tt : Int) (t n z : Nat) (w0 : World) (h2 : Rd (fun _ => True) w0 (.slice pw ws.length cw) (.l 2 (ws.map wrD))) (hl : ws.length ≤ 1000000) (hok : WrsOk ws) (ht0 : fl ≤ tt) (ht1 : tt ≤ ws.length) (ht : max tt 0 = t) (hn : min bl 256 = n) (hz : min (max sz 0) 32 = z) :
   Calls Tryz.prog 11 #[.agg #[.int .i64 vo, .int .i64 bl, .int .i64 sz, .int .i64 pe, .slice pp np cp, .int .i64 to, .int .i64 ne, .bool hi, .int .i64 fl, .slice pn nn9 cn9, .slice pw ws.length cw], .int .i64 tt] w0 fun e w' => ∃ p c, e = .returned (.tuple #[.slice p (((ws.take t).foldl stW (List.replicate n (List.replicate z 0))).map bD).length c, .int .i64 0]) ∧ Rd (New w0) w' (.slice p (((ws.take t).foldl stW (List.replicate n (List.replicate z 0))).map bD).length c) (.l 1 (((ws.take t).foldl stW (List.replicate n (List.replicate z 0))).map bD)) ∧ Below w0.heap.size w0 w' := by
 refine enter (fn := Tryz.f11) Tryz.func11 rfl Tryz.ntmps11 rfl (fun Az Hz => ?_)
 simp only [List.zipIdx_cons, List.zipIdx_nil, List.map_cons, List.map_nil, Nat.reduceAdd, Nat.zero_add] at Hz
 have m0 := MemOk.start (fun _ => False) w0
 have hcap : ws.length ≤ cw := by obtain ⟨pq, cq, hv, hcap⟩ := h2.l_shape; injection hv with _ _ e3; rw [List.length_map] at hcap; omega
 refine wp_seq_k (fun K0 hK0 => ?_)
 refine wp_region_lit ?_
 refine wpList_plain rfl (fun K hK => ?_)
 refine e_box Hz m0 20 (cs := [_, _, _, _, _, _, _, _, _, _, _]) rfl rfl rfl ?_
 clear Hz Az m0; intro g1 Az w2 Hz m2 hB2 hg2
 clear hB2 hg2
 refine hK _ _ ?_; clear hK K
 refine goCh Hz (.assign rfl <| .assign rfl <| .nil) ?_
 clear Hz Az; intro Az Hz
 refine wpList_nil ?_
 refine hK0 _ _ ?_; clear hK0; try clear K0
 refine wp_seq_k (fun K1 hK1 => ?_)
 refine regS Hz (.move rfl <| .fieldAddr (off := 8) rfl Tryz.underlying28 rfl (s := 0) (by kernel_rfl) rfl <| .loadB1 m2 (i := 20) rfl rfl rfl Tryz.underlying2 rfl <| .lss rfl rfl <| .nil) ?_
 clear Hz Az; intro Az Hz
 refine bool_cases Hz (t := 14) rfl ?_ ?_
 · intro hb _; exact absurd hb (by simp; omega)
 clear Hz; intro _ Hz
 refine wp_cond_false (Hz.ev (x := .tmp 14) rfl) ?_
 refine wp_skip ?_
 refine hK1 _ _ ?_; clear hK1; try clear K1
 refine wp_seq_k (fun K2 hK2 => ?_)
 refine wp_seq_k (fun K3 hK3 => ?_)
 refine wp_region_lit ?_
 refine goCh Hz (.move rfl <| .loadBR m2 (i := 20) rfl rfl Tryz.underlying28 rfl sz28st (by simp) (by dsimp only [List.drop, List.take] <;> rfl) <| .nil) ?_
 clear Hz Az; intro Az Hz
 refine wpList_plain rfl (fun K hK => ?_)
 refine e_call Hz Tryz.func18 rfl rfl rfl rfl (vlen_any _ _ _ _ _ _ _ _ _ _ _ _ _ _ _ _ _ _) ?_
 rintro e w14 ⟨rfl, hb14⟩
 have m15 := m2.later hb14
 clear m2
 clear hb14
 refine ⟨_, rfl, ?_⟩; clear Hz Az; intro Az Hz
 refine hK _ _ ?_; clear hK K
 refine goCh Hz (.gtr rfl rfl .nil) ?_
 clear Hz Az; intro Az Hz
 refine wpList_nil ?_
 refine hK3 _ _ ?_; clear hK3; try clear K3
 refine bool_cases Hz (t := 18) rfl ?_ ?_
 · intro hb _; exact absurd hb (by simp; omega)
 clear Hz; intro _ Hz
 refine wp_cond_false (Hz.ev (x := .tmp 18) rfl) ?_
 refine wp_skip ?_
 refine hK2 _ _ ?_; clear hK2; try clear K2
 replace Hz : Has 57 [(1, _), (2, _), (4, _), (5, _)] Az := Hz.only [1, 2, 4, 5]
 refine wp_seq_k (fun K4 hK4 => ?_)
 refine wp_region_lit ?_
 refine goCh Hz (.fieldAddr (off := 1) rfl Tryz.underlying28 rfl (s := 0) (by kernel_rfl) rfl <| .loadB1 m15 (i := 20) rfl rfl rfl Tryz.underlying3 rfl <| .fieldAddr (off := 2) rfl Tryz.underlying28 rfl (s := 0) (by kernel_rfl) rfl <| .loadB1 m15 (i := 20) rfl rfl rfl Tryz.underlying3 rfl <| .nil) ?_
 clear Hz Az; intro Az Hz
 refine wpList_plain rfl (fun K hK => ?_)
 refine e_call Hz Tryz.func29 rfl rfl rfl rfl (noughts_any _ _ n z _ hn hz) ?_
 rintro e w28 ⟨p28, c28, rfl, ho28, hb28⟩
 have m29 := m15.callR 21 hb28 (ho28.cast (fun b h => ⟨h.1.elim False.elim .inr, h.2⟩))
 clear m15
 have m30 := m29.rowS 21 rfl
 clear m29
 clear hb28 ho28
 refine ⟨_, rfl, ?_⟩; clear Hz Az; intro Az Hz
 refine hK _ _ ?_; clear hK K
 refine goCh Hz (.assign rfl .nil) ?_
 clear Hz Az; intro Az Hz
 refine wpList_nil ?_
 refine hK4 _ _ ?_; clear hK4; try clear K4
 refine wp_seq_k (fun K5 hK5 => ?_)
 refine regS Hz (.fieldAddr (off := 10) rfl Tryz.underlying28 rfl (s := 0) (by kernel_rfl) rfl <| .loadB1 m30 (i := 20) rfl rfl rfl Tryz.underlying26 rfl <| .move rfl <| .c rfl (fun _ h => y_max h rfl rfl rfl) <| .c rfl (fun _ h => y_sliceHn h t rfl rfl Tryz.underlying26 sz58st ht (by omega)) <| .len rfl Tryz.underlying26 <| .move rfl <| .nil) ?_
 clear Hz Az; intro Az Hz
 refine wp_block ?_
 refine wp_loop_ghost (fun g a w => ∃ (k : Nat) (L : List (List Int)) (p : Option Addr) (c : Nat), k ≤ t ∧ g = t - k ∧ L = (ws.take k).foldl stW (List.replicate n (List.replicate z 0)) ∧ L.length = n ∧ Has 57 [(6, .slice p (L.map bD).length c), (28, .slice pw t cw), (29, .int .i64 (t : Int)), (30, .int .i64 k)] a ∧ MemOk (cn w0) w0 [(9, .seg (.slice p (L.map bD).length c) 22 1 (L.map bD))] w) (t) ?_ ?_
 · exact ⟨0, _, _, _, Nat.zero_le _, rfl, rfl, List.length_replicate .., Hz.only [6, 28, 29, 30], m30.ren [(9, 21)] (by decide)⟩
 ·
  clear Hz m30
  rintro g Az w40 ⟨k, L, p, c, hkl, hg, hL, hLn, Hz, m40⟩
  refine regS Hz (.lss rfl rfl <| .nil) ?_
  clear Hz Az; intro Az Hz
  refine wp_seq_k (fun K6 hK6 => ?_)
  refine bool_cases Hz (t := 31) rfl ?_ ?_
  ·
   clear Hz; intro hb42 Hz
   try simp only [Q1x, Q2x, Q3x, Q4x, Q5x, Q6x, Q7x, Q8x, Q9x, Q0x, Qax, Qbx] at hb42
   have hk : k < ws.length := by omega
   obtain ⟨⟨xs, xl⟩, hes⟩ : ∃ e, ws[k]? = some e := ⟨_, List.getElem?_eq_getElem hk⟩
   have hok2 := hok _ (List.mem_of_getElem? hes)
   dsimp only at hok2
   refine wp_cond_true (Hz.ev (x := .tmp 31) rfl) ?_
   refine wp_skip ?_
   refine hK6 _ _ ?_; clear hK6; try clear K6
   refine wp_seq_k (fun K7 hK7 => ?_)
   refine wp_block ?_
   refine wp_seq_k (fun K8 hK8 => ?_)
   refine wp_region_lit ?_
   obtain ⟨gx44, ox44, vx44, hp44, hl44, hR44, hrg44⟩ := h2.extA (k) (r := [.v (.int .i64 xs), .l 2 (xl.map itD)]) (wrD_get hes)
   cases hp44; clear hl44
   rcases hR44 with _ | ⟨hd44_0, _ | ⟨hd44_1, _ | _⟩⟩
   obtain rfl := hd44_0.v_out
   clear hd44_0
   obtain ⟨p45, c45, hv45, hw45⟩ := hd44_1.l_shape; subst hv45
   refine goCh Hz (.c rfl (fun _ h => y_idx h rfl rfl Tryz.underlying26 sz58st (k) rfl (by omega)) <| .loadAt (hrg44 m40 rfl) rfl Tryz.underlying58 rfl sz58st <| .nil) ?_
   clear Hz Az; intro Az Hz
   refine wpList_plain rfl (fun K hK => ?_)
   refine e_alloc Hz m40 101 zc58st rfl ?_
   clear Hz Az m40; intro g48 Az w49 Hz m49 hB49 hg49
   clear hB49 hg49
   refine hK _ _ ?_; clear hK K
   refine wpList_plain rfl (fun K hK => ?_)
   refine e_storeW Hz m49 101 rfl rfl rfl rfl rfl sz58st ?_
   clear m49; intro w50 m50 hB50
   clear hB50
   refine hK _ _ ?_; clear hK K
   refine wpList_nil ?_
   refine hK8 _ _ ?_; clear hK8; try clear K8
   refine regS Hz (.fieldAddr (off := 1) rfl Tryz.underlying58 rfl (s := 0) (by kernel_rfl) rfl <| .loadB1 m50 (i := 101) rfl rfl rfl Tryz.underlying48 rfl <| .len rfl Tryz.underlying48 <| .move rfl <| .nil) ?_
   clear Hz Az; intro Az Hz
   refine wp_block ?_
   refine wp_loop_ghost (fun g a w => ∃ (j : Nat) (L2 : List (List Int)) (p : Option Addr) (c : Nat), j ≤ xl.length ∧ g = xl.length - j ∧ L2 = (xl.take j).foldl stStep L ∧ L2.length = n ∧ Has 57 [(6, .slice p (L2.map bD).length c), (28, .slice (some ⟨gx44, ox44, none⟩) t cw), (29, .int .i64 (t : Int)), (30, .int .i64 k), (35, .slice p45 (xl.map itD).length c45), (36, .int .i64 ((xl.map itD).length : Nat)), (37, .int .i64 j)] a ∧ MemOk (cn w0) w0 [(9, .seg (.slice p (L2.map bD).length c) 22 1 (L2.map bD))] w) (xl.length) ?_ ?_
   · exact ⟨0, L, _, _, Nat.zero_le _, rfl, rfl, hLn, Hz.only [6, 28, 29, 30, 35, 36, 37], m50.only [9]⟩
   ·
    clear Hz m50
    rintro g Az w55 ⟨j, L2, p, c, hjl, hg2, hL2, hL2n, Hz, m55⟩
    refine regS Hz (.lss rfl rfl <| .nil) ?_
    clear Hz Az; intro Az Hz
    refine wp_seq_k (fun K9 hK9 => ?_)
    refine bool_cases Hz (t := 38) rfl ?_ ?_
    ·
     clear Hz; intro hb57 Hz
     try simp only [Q1x, Q2x, Q3x, Q4x, Q5x, Q6x, Q7x, Q8x, Q9x, Q0x, Qax, Qbx] at hb57
     rw [List.length_map] at hb57
     have hj : j < xl.length := by omega
     obtain ⟨⟨xb, xd⟩, hxs⟩ : ∃ e, xl[j]? = some e := ⟨_, List.getElem?_eq_getElem hj⟩
     have hed := hok2.2 _ (List.mem_of_getElem? hxs)
     dsimp only at hed
     refine wp_cond_true (Hz.ev (x := .tmp 38) rfl) ?_
     refine wp_skip ?_
     refine hK9 _ _ ?_; clear hK9; try clear K9
     refine wp_seq_k (fun K10 hK10 => ?_)
     refine wp_block ?_
     refine wp_seq_k (fun K11 hK11 => ?_)
     refine wp_region_lit ?_
     obtain ⟨gx59, ox59, vx59, hp59, hl59, hR59, hrg59⟩ := hd44_1.extA (j) (r := [.v (.int .i64 xb), .ns .u8 xd]) (itD_get hxs)
     cases hp59; clear hl59
     rcases hR59 with _ | ⟨hd59_0, _ | ⟨hd59_1, _ | _⟩⟩
     obtain rfl := hd59_0.v_out
     clear hd59_0
     obtain ⟨p60, c60, hv60, hw60⟩ := hd59_1.ns_shape; subst hv60
     refine goCh Hz (.c rfl (fun _ h => y_idx h rfl rfl Tryz.underlying48 sz56st (j) rfl (by rw [List.length_map]; omega)) <| .loadAt (hrg59 m55 rfl) rfl Tryz.underlying56 rfl sz56st <| .nil) ?_
     clear Hz Az; intro Az Hz
     refine wpList_plain rfl (fun K hK => ?_)
     refine e_alloc Hz m55 201 zc56st rfl ?_
     clear Hz Az m55; intro g63 Az w64 Hz m64 hB64 hg64
     clear hB64 hg64
     refine hK _ _ ?_; clear hK K
     refine wpList_plain rfl (fun K hK => ?_)
     refine e_storeW Hz m64 201 rfl rfl rfl rfl rfl sz56st ?_
     clear m64; intro w65 m65 hB65
     clear hB65
     refine hK _ _ ?_; clear hK K
     refine wpList_nil ?_
     refine hK11 _ _ ?_; clear hK11; try clear K11
     refine wp_seq_k (fun K12 hK12 => ?_)
     refine wp_region_lit ?_
     refine goCh Hz (.fieldAddr (off := 0) rfl Tryz.underlying56 rfl (s := 0) (by kernel_rfl) rfl <| .loadB1 m65 (i := 201) rfl rfl rfl Tryz.underlying3 rfl <| .move rfl <| .len rfl Tryz.underlying36 <| .sub rfl rfl (r := (L2.length : Int) - 1) (by rw [List.length_map]; exact IntWalk.i64_in _ (by omega)) <| .nil) ?_
     clear Hz Az; intro Az Hz
     refine wpList_plain rfl (fun K hK => ?_)
     refine e_call Hz Tryz.func30 rfl rfl rfl rfl (within_any _ _ _ _) ?_
     rintro e w76 ⟨rfl, hb76⟩
     have m77 := m65.later hb76
     clear m65
     clear hb76
     refine ⟨_, rfl, ?_⟩; clear Hz Az; intro Az Hz
     refine hK _ _ ?_; clear hK K
     refine wpList_nil ?_
     refine hK12 _ _ ?_; clear hK12; try clear K12
     refine bool_cases Hz (t := 46) rfl ?_ ?_
     ·
      clear Hz; intro hb79 Hz
      try simp only [Q1x, Q2x, Q3x, Q4x, Q5x, Q6x, Q7x, Q8x, Q9x, Q0x, Qax, Qbx] at hb79
      refine wp_cond_true (Hz.ev (x := .tmp 46) rfl) ?_
      replace Hz : Has 57 [(6, _), (28, _), (29, _), (30, _), (35, _), (36, _), (37, _), (10, _), (46, _)] Az := Hz.only [6, 28, 29, 30, 35, 36, 37, 10, 46]
      obtain ⟨gs81, os81, vs81, hp81, hl81, hR81, hrg81⟩ := m77.openS (i := 9) rfl (xb.toNat) (r := [.ns .u8 (L2.getD xb.toNat [])]) (bD_get (by omega))
      cases hp81; clear hl81 hR81 hrg81 vs81
      have m82 : MemOk _ _ [(9, _), (201, _)] _ := m77.only [9, 201]; clear m77
      refine region_p 8 (B := [(201, _)]) (m82.to ⟨il, trivial⟩) m82 (by kernel_rfl) (fun w83 hP83 m83 => ?_); clear m82
      refine goR hP83 [0, 1, 2, 3, 4] [2, 4] 5 0 31 Hz (m83.to ⟨il, trivial⟩) (.move rfl <| .fieldAddr (off := 0) rfl Tryz.underlying56 rfl (s := 0) (by kernel_rfl) rfl <| .loadB1 hh (i := 201) rfl rfl rfl Tryz.underlying3 rfl <| .fieldAddr (off := 1) rfl Tryz.underlying56 rfl (s := 0) (by kernel_rfl) rfl <| .loadB1 hh (i := 201) rfl rfl rfl Tryz.underlying22 rfl <| .nil) ?_
      clear Hz Az; intro Az Hz
      refine stepE_only 5 rfl (by kernel_rfl) rfl (fun K hK => ?_)
      refine e_call Hz Tryz.func31 rfl rfl rfl rfl (plainB_any xd _ _ _ ((hd59_1.now' m83 rfl).any) hed) ?_
      rintro e w89 ⟨p89, c89, rfl, hd89, hb89⟩
      have m90 := m83.callF 202 rfl hb89 hd89
      clear m83
      clear hb89 hd89
      refine ⟨_, rfl, ?_⟩; clear Hz Az; intro Az Hz
      refine hK _ _ (m90.to ⟨il, trivial⟩) ?_; clear hK K
      refine goA hP83 [6] 1 63 127 Hz (m90.to ⟨il, trivial⟩) (.p (fun _ _ h => y_idx h rfl rfl Tryz.underlying36 sz22st (xb.toNat) (Int.toNat_of_nonneg (by omega)).symm (by rw [List.length_map]; omega)) <| .nil) ?_
      clear Hz Az; intro Az Hz
      refine stepE_only 7 rfl (by kernel_rfl) rfl (fun K hK => ?_)
      refine e_storeSD Hz m90 9 rfl (xb.toNat) (r := [.ns .u8 (L2.getD xb.toNat [])]) (bD_get (by omega)) (q := 0) rfl rfl rfl rfl rfl sz22st (m90.rd (i := 202) rfl) ?_
      clear m90; intro w93 m93
      refine hK _ _ (m93.to ⟨il, trivial⟩) ?_; clear hK K
      have hset : (L2.map bD).set xb.toNat ([D.ns .u8 (L2.getD xb.toNat [])].set 0 (D.ns .u8 xd)) = (L2.set xb.toNat xd).map bD := by rw [List.map_set]; rfl
      rw [hset] at m93
      rw [show (List.map bD L2).length = (List.map bD (L2.set xb.toNat xd)).length from by simp] at Hz m93
      refine wpAnyE_done (by kernel_rfl) ?_ _
      refine hK10 _ _ ?_; clear hK10; try clear K10
      replace Hz : Has 57 [(6, _), (28, _), (29, _), (30, _), (35, _), (36, _), (37, _), (46, _)] Az := Hz.only [6, 28, 29, 30, 35, 36, 37, 46]
      refine wp_region_lit ?_
      refine goCh Hz (.add rfl rfl (r := ((j + 1 : Nat) : Int)) (by rw [IntWalk.i64_in _ (by omega)]; omega) <| .move rfl <| .nil) ?_
      clear Hz Az; intro Az Hz
      refine wpList_nil ?_
      show ∃ n', n' < _ ∧ _
      exact ⟨xl.length - (j + 1), by omega, j + 1, L2.set xb.toNat xd, _, _, by omega, rfl, stx_yes hxs hL2 (by omega), by rw [List.length_set]; exact hL2n, Hz.only [6, 28, 29, 30, 35, 36, 37], m93.only [9]⟩
     ·
      clear Hz; intro hb79 Hz
      try simp only [Q1x, Q2x, Q3x, Q4x, Q5x, Q6x, Q7x, Q8x, Q9x, Q0x, Qax, Qbx] at hb79
      refine wp_cond_false (Hz.ev (x := .tmp 46) rfl) ?_
      refine wp_skip ?_
      refine hK10 _ _ ?_; clear hK10; try clear K10
      replace Hz : Has 57 [(6, _), (28, _), (29, _), (30, _), (35, _), (36, _), (37, _), (46, _)] Az := Hz.only [6, 28, 29, 30, 35, 36, 37, 46]
      refine wp_region_lit ?_
      refine goCh Hz (.add rfl rfl (r := ((j + 1 : Nat) : Int)) (by rw [IntWalk.i64_in _ (by omega)]; omega) <| .move rfl <| .nil) ?_
      clear Hz Az; intro Az Hz
      refine wpList_nil ?_
      show ∃ n', n' < _ ∧ _
      exact ⟨xl.length - (j + 1), by omega, j + 1, L2, _, _, by omega, rfl, stx_no hxs hL2 (by omega), hL2n, Hz.only [6, 28, 29, 30, 35, 36, 37], m77.only [9]⟩
    ·
     clear Hz; intro hb57 Hz
     try simp only [Q1x, Q2x, Q3x, Q4x, Q5x, Q6x, Q7x, Q8x, Q9x, Q0x, Qax, Qbx] at hb57
     rw [List.length_map] at hb57
     obtain rfl : j = xl.length := by omega
     rw [List.take_length] at hL2
     refine wp_cond_false (Hz.ev (x := .tmp 38) rfl) ?_
     refine wp_exit ?_
     refine hK7 _ _ ?_; clear hK7; try clear K7
     refine wp_region_lit ?_
     refine goCh Hz (.add rfl rfl (r := ((k + 1 : Nat) : Int)) (by rw [IntWalk.i64_in _ (by omega)]; omega) <| .move rfl <| .nil) ?_
     clear Hz Az; intro Az Hz
     refine wpList_nil ?_
     show ∃ n', n' < _ ∧ _
     exact ⟨t - (k + 1), by omega, k + 1, L2, _, _, by omega, rfl, (st_snoc hes hL hL2), hL2n, Hz.only [6, 28, 29, 30], m55.only [9]⟩
  ·
   clear Hz; intro hb42 Hz
   try simp only [Q1x, Q2x, Q3x, Q4x, Q5x, Q6x, Q7x, Q8x, Q9x, Q0x, Qax, Qbx] at hb42
   obtain rfl : k = t := by omega
   refine wp_cond_false (Hz.ev (x := .tmp 31) rfl) ?_
   refine wp_exit ?_
   refine hK5 _ _ ?_; clear hK5; try clear K5
   refine regS Hz (.move rfl <| .assign rfl <| .assign rfl <| .nil) ?_
   clear Hz Az; intro Az Hz
   refine wp_ret ?_
   try dsimp only [Exit.then, Exit.inBlock]
   refine (ret2 (fn := Tryz.f11) Hz rfl rfl rfl ?_)
   have mf := m40.freezeS 9 rfl (by simp [cx])
   exact ⟨_, _, by rw [← hL], by rw [← hL]; exact mf.outF (i := 9) rfl, m40.below⟩
end Go.Proofs.YtocfbocdnklllaaGreat.K
