/- volume: Push. -/
import Derived.Test.YtocfbocdnklllaaGreatVol7
namespace Go.Proofs.YtocfbocdnklllaaGreat.K
open Go.ChangeShapes Go.WideShapes Go.ChangeAt Go.RowKit
set_option linter.unusedVariables false
set_option linter.unusedSimpArgs false

theorem fl32pu : flatS Tryz.prog 32 [.int .i64 0, .int .i64 0, .int .i64 0, .int .i64 0, .int .i64 0, .int .i64 0, .int .i64 0, .slice none 0 0] = true := by kernel_rfl
theorem fl58pu : flatS Tryz.prog 58 [.int .i64 0, .slice none 0 0] = true := by kernel_rfl
theorem inf58pu : (Tryz.prog.info? 58).map (fun i => (i.zero, i.size, i.bytes)) = some (some (.agg #[.int .i64 0, .slice none 0 0]), 2, 32) := by kernel_rfl
theorem sz2pu : (Tryz.prog.info? 2).map (·.size) = some 1 := by kernel_rfl
theorem sz3pu : (Tryz.prog.info? 3).map (·.size) = some 1 := by kernel_rfl
theorem sz26pu : (Tryz.prog.info? 26).map (·.size) = some 1 := by kernel_rfl
theorem sz28pu : (Tryz.prog.info? 28).map (·.size) = some 11 := by kernel_rfl
theorem sz32pu : (Tryz.prog.info? 32).map (·.size) = some 8 := by kernel_rfl
theorem sz58pu : (Tryz.prog.info? 58).map (·.size) = some 2 := by kernel_rfl
theorem zc32pu : ((Tryz.prog.info? 32).bind (·.zero)).map (·.cells.toList) = some [.int .i64 0, .int .i64 0, .int .i64 0, .int .i64 0, .int .i64 0, .int .i64 0, .int .i64 0, .slice none 0 0] := by kernel_rfl
theorem zc58pu : ((Tryz.prog.info? 58).bind (·.zero)).map (·.cells.toList) = some [.int .i64 0, .slice none 0 0] := by kernel_rfl

def pushL (fi cnt : Int) (W : List (Int × List (Int × List Int))) : List (Int × List (Int × List Int)) := (W.map (fun w => (w.1, itemsL fi cnt w.2))).filter (fun w => decide (0 < w.2.length))
theorem push_yes {fi cnt : Int} {W : List (Int × List (Int × List Int))} {k : Nat} {xs : Int} {xl : List (Int × List Int)} (h : W[k]? = some (xs, xl)) (hb : 0 < (itemsL fi cnt xl).length) : pushL fi cnt (W.take (k + 1)) = pushL fi cnt (W.take k) ++ [(xs, itemsL fi cnt xl)] := by
 unfold pushL
 rw [take_snoc h, List.map_append, List.filter_append]
 simp [hb]
theorem push_no {fi cnt : Int} {W : List (Int × List (Int × List Int))} {k : Nat} {xs : Int} {xl : List (Int × List Int)} (h : W[k]? = some (xs, xl)) (hb : ¬ 0 < (itemsL fi cnt xl).length) : pushL fi cnt (W.take (k + 1)) = pushL fi cnt (W.take k) := by
 unfold pushL
 rw [take_snoc h, List.map_append, List.filter_append]
 simp; simpa using hb
theorem push_len (fi cnt : Int) (W : List (Int × List (Int × List Int))) : (pushL fi cnt W).length ≤ W.length := by
 unfold pushL; exact Nat.le_trans (List.length_filter_le _ _) (by simp)
section
variable {P : Program} {n : Nat} {T : List (Nat × Value)} {a : Act} {w : World} {d : Option Tmp} {tt : TypeId} {pos : String} {af : Array Edge} {gd : Option (Nat × Bool)}
theorem y_sliceLHn (h : Has n T a) {t e : TypeId} {x y z : Operand} {p p2 : Option Addr} {l c c2 l2 : Nat} {k k2 : IntKind} {q r : Int} (i j : Nat) (hx : evT T x = some (.slice p l c)) (hy : evT T y = some (.int k q)) (hz : evT T z = some (.int k2 r)) (hu : P.underlying t = some (.slice e)) {s : Nat} (hs : (P.info? e).map (·.size) = some s) (hq : q = i) (hr : r = j) (h1 : i ≤ j) (h2 : j ≤ c) (hp : (if c = i then p else p.map (·.add (i * s))) = p2) (hc : c - i = c2) (hl : j - i = l2) : Yl P a w ⟨d, .slice t x (some y) (some z) none, tt, pos, af, gd⟩ (.slice p2 l2 c2) := by
 subst hq; subst hr; subst hc; subst hl; rw [← hp]
 have := y_sliceLH (P := P) (w := w) (tt := tt) (pos := pos) (af := af) (gd := gd) (d := d) h hx hy hz hu hs (by omega) (by omega) (by omega)
 rwa [Int.toNat_natCast, Int.toNat_natCast] at this
end
set_option maxRecDepth 100000
set_option maxHeartbeats 4000000
theorem push_any (vo bl sz pe to ne fl : Int) (hi : Bool) (pp pn pw : Option Addr) (cp nn9 cn9 cw : Nat) (place : List Int) (ws : List (Int × List (Int × List Int))) (ch fi cnt : Int) (mk tq : Nat) (w0 : World) (h2 : Rd (fun _ => True) w0 (.slice pw ws.length cw) (.l 2 (ws.map wrD))) (hl : ws.length ≤ 1000000) (hpl : place.length ≤ 1000000) (hok : WrsOk ws) (hch : 0 ≤ ch ∧ ch < place.length) (hmk : mk ≤ ws.length) (hfi : ch * pe = fi) (hfb : 0 ≤ fi ∧ fi ≤ 1000000) (hcnt : (ch = place.length - 1 → bl - fi = cnt) ∧ (ch ≠ place.length - 1 → cnt = pe)) (hcb : 0 ≤ cnt ∧ cnt ≤ 1000000) (htq : min ((mk : Int) + 4) ws.length = tq) :
   Calls Tryz.prog 8 #[.agg #[.int .i64 vo, .int .i64 bl, .int .i64 sz, .int .i64 pe, .slice pp place.length cp, .int .i64 to, .int .i64 ne, .bool hi, .int .i64 fl, .slice pn nn9 cn9, .slice pw ws.length cw], .int .i64 ch, .int .i64 (mk : Int)] w0 fun e w' => ∃ p c, e = .returned (.tuple #[.agg #[.int .i64 vo, .int .i64 ch, .int .i64 cnt, .int .i64 sz, .int .i64 (mk : Int), .int .i64 (tq : Int), .int .i64 (min fl tq), .slice p ((pushL fi cnt ((ws.take tq).drop mk)).map wrD).length c], .bool true]) ∧ Rd (New w0) w' (.slice p ((pushL fi cnt ((ws.take tq).drop mk)).map wrD).length c) (.l 2 ((pushL fi cnt ((ws.take tq).drop mk)).map wrD)) ∧ Below w0.heap.size w0 w' := by
 refine enter (fn := Tryz.f8) Tryz.func8 rfl Tryz.ntmps8 rfl (fun Az Hz => ?_)
 simp only [List.zipIdx_cons, List.zipIdx_nil, List.map_cons, List.map_nil, Nat.reduceAdd, Nat.zero_add] at Hz
 have m0 := MemOk.start (fun _ => False) w0
 have hcap : ws.length ≤ cw := by obtain ⟨pq, cq, hv, hcap⟩ := h2.l_shape; injection hv with _ _ e3; rw [List.length_map] at hcap; omega
 refine wp_seq_k (fun K0 hK0 => ?_)
 refine wp_region_lit ?_
 refine wpList_plain rfl (fun K hK => ?_)
 refine e_box Hz m0 20 (cs := [_, _, _, _, _, _, _, _, _, _, _]) rfl rfl rfl ?_
 clear Hz Az m0; intro g1 Az w2 Hz m2 hB2 hg2
 clear hB2 hg2
 refine hK _ _ ?_; clear hK K
 refine wpList_plain rfl (fun K hK => ?_)
 refine e_alloc Hz m2 21 zc32pu rfl ?_
 clear Hz Az m2; intro g3 Az w4 Hz m4 hB4 hg4
 clear hB4 hg4
 refine hK _ _ ?_; clear hK K
 refine goCh Hz (.assign rfl .nil) ?_
 clear Hz Az; intro Az Hz
 refine wpList_nil ?_
 refine hK0 _ _ ?_; clear hK0; try clear K0
 refine wp_seq_k (fun K1 hK1 => ?_)
 refine wp_seq_k (fun K2 hK2 => ?_)
 refine wp_region_lit ?_
 refine goCh Hz (.move rfl <| .lss rfl rfl <| .move rfl <| .nil) ?_
 clear Hz Az; intro Az Hz
 refine bool_cases Hz (t := 15) rfl ?_ ?_
 · intro hb _; exact absurd hb (by first | (simp; done) | (simp; omega))
 clear Hz; intro _ Hz
 refine goCh Hz (.moveZ rfl <| .fieldAddrZ (off := 4) rfl Tryz.underlying28 rfl (s := 0) (by kernel_rfl) rfl <| .loadB1Z m4 (i := 20) rfl rfl rfl Tryz.underlying24 rfl <| .lenZ rfl Tryz.underlying24 <| .geqZ rfl rfl <| .pickF rfl rfl <| .move rfl <| .nil) ?_
 clear Hz Az; intro Az Hz
 refine bool_cases Hz (t := 22) rfl ?_ ?_
 · intro hb _; exact absurd hb (by first | (simp; done) | (simp; omega))
 clear Hz; intro _ Hz
 refine goCh Hz (.moveZ rfl <| .lssZ rfl rfl <| .pickF rfl rfl <| .move rfl <| .nil) ?_
 clear Hz Az; intro Az Hz
 refine bool_cases Hz (t := 26) rfl ?_ ?_
 · intro hb _; exact absurd hb (by first | (simp; done) | (simp; omega))
 clear Hz; intro _ Hz
 refine goCh Hz (.moveZ rfl <| .loadBRZ m4 (i := 20) rfl rfl Tryz.underlying28 rfl sz28pu (by simp) (by dsimp only [List.drop, List.take] <;> rfl) <| .nil) ?_
 clear Hz Az; intro Az Hz
 refine st_ge Hz rfl rfl rfl rfl (fun K hK => ?_)
 refine e_call Hz Tryz.func18 rfl rfl rfl rfl (vlen_any _ _ _ _ _ _ _ _ _ _ _ _ _ _ _ _ _ _) ?_
 rintro e w28 ⟨rfl, hb28⟩
 have m29 := m4.later hb28
 clear m4
 clear hb28
 refine ⟨_, rfl, ?_⟩; clear Hz Az; intro Az Hz
 refine hK _ _ ?_; clear hK K
 refine goCh Hz (.gtrZ rfl rfl <| .pickF rfl rfl <| .nil) ?_
 clear Hz Az; intro Az Hz
 refine wpList_nil ?_
 refine hK2 _ _ ?_; clear hK2; try clear K2
 refine bool_cases Hz (t := 31) rfl ?_ ?_
 · intro hb _; exact absurd hb (by first | (simp; done) | (simp; omega))
 clear Hz; intro _ Hz
 refine wp_cond_false (Hz.ev (x := .tmp 31) rfl) ?_
 refine wp_skip ?_
 refine hK1 _ _ ?_; clear hK1; try clear K1
 replace Hz : Has 98 [(1, _), (2, _), (3, _), (6, _), (7, _)] Az := Hz.only [1, 2, 3, 6, 7]
 refine regS Hz (.move rfl <| .fieldAddr (off := 3) rfl Tryz.underlying28 rfl (s := 0) (by kernel_rfl) rfl <| .loadB1 m29 (i := 20) rfl rfl rfl Tryz.underlying3 rfl <| .mul rfl rfl (r := fi) (by rw [hfi]; exact IntWalk.i64_in _ (by omega)) <| .assign rfl <| .nil) ?_
 clear Hz Az; intro Az Hz
 refine wp_seq_k (fun K3 hK3 => ?_)
 have m40 : MemOk _ _ [(20, _), (21, _)] _ := m29.only [20, 21]; clear m29
 refine region_p 16 (B := [(20, _)]) (m40.to ⟨il, trivial⟩) m40 (by kernel_rfl) (fun w41 hP41 m41 => ?_); clear m40
 refine goR hP41 [0, 1, 2, 3, 4, 5, 6, 7, 8, 9, 10] [1, 4, 6, 10] 11 0 2047 Hz (m41.to ⟨il, trivial⟩) (.fieldAddr (off := 0) rfl Tryz.underlying28 rfl (s := 0) (by kernel_rfl) rfl <| .loadB1 hh (i := 20) rfl rfl rfl Tryz.underlying3 rfl <| .move rfl <| .fieldAddr (off := 3) rfl Tryz.underlying28 rfl (s := 0) (by kernel_rfl) rfl <| .loadB1 hh (i := 20) rfl rfl rfl Tryz.underlying3 rfl <| .fieldAddr (off := 2) rfl Tryz.underlying28 rfl (s := 0) (by kernel_rfl) rfl <| .loadB1 hh (i := 20) rfl rfl rfl Tryz.underlying3 rfl <| .move rfl <| .move rfl <| .add rfl rfl (r := (mk : Int) + 4) (IntWalk.i64_in _ (by omega)) <| .loadBR hh (i := 20) rfl rfl Tryz.underlying28 rfl sz28pu (by simp) (by dsimp only [List.drop, List.take] <;> rfl) <| .nil) ?_
 clear Hz Az; intro Az Hz
 refine d_two 11 14 rfl rfl (by kernel_rfl) rfl rfl (fun K hK => ?_) (fun K hK => ?_)
 ·
  refine e_call Hz Tryz.func18 rfl rfl rfl rfl (vlen_any _ _ _ _ _ _ _ _ _ _ _ _ _ _ _ _ _ _) ?_
  rintro e w53 ⟨rfl, hb53⟩
  have m54 := m41.later hb53
  clear m41
  clear hb53
  refine ⟨_, rfl, ?_⟩; clear Hz Az; intro Az Hz
  refine hK _ _ (fun _ => (m54.to ⟨il, trivial⟩)) ?_; clear hK K
  refine goA hP41 [12, 13] 2 4095 16383 Hz (m54.to ⟨il, trivial⟩) (.p (fun _ _ h => y_min h rfl rfl (r := (tq : Int)) htq) <| .build rfl zc32pu fl32pu rfl (by dsimp only [setL, List.set] <;> rfl) <| .nil) ?_
  clear Hz Az; intro Az Hz
  refine stepE_only 14 rfl (by kernel_rfl) rfl (fun K hK => ?_)
  refine e_alloc Hz m54 22 zc32pu rfl ?_
  clear Hz Az m54; intro g58 Az w59 Hz m59 hB59 hg59
  clear hB59 hg59
  refine hK _ _ (m59.to ⟨il, trivial⟩) ?_; clear hK K
  refine stepE_only 15 rfl (by kernel_rfl) rfl (fun K hK => ?_)
  refine e_storeW Hz m59 22 rfl rfl rfl rfl rfl sz32pu ?_
  clear m59; intro w60 m60 hB60
  clear hB60
  refine hK _ _ (m60.to ⟨il, trivial⟩) ?_; clear hK K
  refine wpAnyE_done (by kernel_rfl) ?_ _
  refine hK3 _ _ ?_; clear hK3; try clear K3
  refine wp_seq_k (fun K4 hK4 => ?_)
  replace Hz : Has 98 [(1, _), (2, _), (3, _), (6, _), (7, _), (8, _), (9, _)] Az := Hz.only [1, 2, 3, 6, 7, 8, 9]
  refine regS Hz (.move rfl <| .fieldAddr (off := 4) rfl Tryz.underlying28 rfl (s := 0) (by kernel_rfl) rfl <| .loadB1 m60 (i := 20) rfl rfl rfl Tryz.underlying24 rfl <| .len rfl Tryz.underlying24 <| .sub rfl rfl (r := (place.length : Int) - 1) (IntWalk.i64_in _ (by omega)) <| .eql rfl rfl <| .nil) ?_
  clear Hz Az; intro Az Hz
  refine bool_cases Hz (t := 56) rfl ?_ ?_
  ·
   clear Hz; intro hb68 Hz
   try simp only [Q1x, Q2x, Q3x, Q4x, Q5x, Q6x, Q7x, Q8x, Q9x, Q0x, Qax, Qbx] at hb68
   refine wp_cond_true (Hz.ev (x := .tmp 56) rfl) ?_
   replace Hz : Has 98 [(2, _), (3, _), (6, _), (7, _), (8, _), (9, _)] Az := Hz.only [2, 3, 6, 7, 8, 9]
   refine wp_region_lit ?_
   refine goCh Hz (.fieldAddr (off := 1) rfl Tryz.underlying28 rfl (s := 0) (by kernel_rfl) rfl <| .loadB1 m60 (i := 20) rfl rfl rfl Tryz.underlying3 rfl <| .move rfl <| .sub rfl rfl (r := cnt) (by rw [← hcnt.1 (by omega)]; exact IntWalk.i64_in _ (by omega)) <| .fieldAddr (off := 2) rfl Tryz.underlying32 rfl (s := 0) (by kernel_rfl) rfl <| .nil) ?_
   clear Hz Az; intro Az Hz
   refine wpList_plain rfl (fun K hK => ?_)
   refine e_store1 Hz m60 22 rfl rfl rfl rfl rfl sz3pu (by dsimp only [List.set] <;> rfl) ?_
   clear m60; intro w75 m75 hB75
   clear hB75
   refine hK _ _ ?_; clear hK K
   refine wpList_nil ?_
   refine hK4 _ _ ?_; clear hK4; try clear K4
   refine wp_seq_k (fun K5 hK5 => ?_)
   refine wp_region_lit ?_
   refine goCh Hz (.fieldAddr (off := 8) rfl Tryz.underlying28 rfl (s := 0) (by kernel_rfl) rfl <| .loadB1 m75 (i := 20) rfl rfl rfl Tryz.underlying2 rfl <| .fieldAddr (off := 5) rfl Tryz.underlying32 rfl (s := 0) (by kernel_rfl) rfl <| .loadB1 m75 (i := 22) rfl rfl rfl Tryz.underlying2 rfl <| .c rfl (fun _ h => y_min h rfl rfl rfl) <| .fieldAddr (off := 6) rfl Tryz.underlying32 rfl (s := 0) (by kernel_rfl) rfl <| .nil) ?_
   clear Hz Az; intro Az Hz
   refine wpList_plain rfl (fun K hK => ?_)
   refine e_store1 Hz m75 22 rfl rfl rfl rfl rfl sz2pu (by dsimp only [List.set] <;> rfl) ?_
   clear m75; intro w88 m88 hB88
   clear hB88
   refine hK _ _ ?_; clear hK K
   refine wpList_nil ?_
   refine hK5 _ _ ?_; clear hK5; try clear K5
   refine wp_seq_k (fun K6 hK6 => ?_)
   replace Hz : Has 98 [(2, _), (3, _), (6, _), (7, _), (8, _), (9, _)] Az := Hz.only [2, 3, 6, 7, 8, 9]
   refine wp_seq_k (fun K7 hK7 => ?_)
   refine wp_region_lit ?_
   refine goCh Hz (.fieldAddr (off := 10) rfl Tryz.underlying28 rfl (s := 0) (by kernel_rfl) rfl <| .loadB1 m88 (i := 20) rfl rfl rfl Tryz.underlying26 rfl <| .move rfl <| .fieldAddr (off := 5) rfl Tryz.underlying32 rfl (s := 0) (by kernel_rfl) rfl <| .loadB1 m88 (i := 22) rfl rfl rfl Tryz.underlying2 rfl <| .nil) ?_
   clear Hz Az; intro Az Hz
   obtain ⟨P2, hP2⟩ : ∃ x, (if cw = mk then pw else pw.map (·.add (mk * 2))) = x := ⟨_, rfl⟩
   obtain ⟨W2, hW2⟩ : ∃ x, (ws.take tq).drop mk = x := ⟨_, rfl⟩
   obtain ⟨C2, hC2⟩ : ∃ x, cw - mk = x := ⟨_, rfl⟩
   have hW2l : W2.length = tq - mk := by rw [← hW2, List.length_drop, List.length_take]; omega
   have hW2o : WrsOk W2 := fun e he => hok e (by rw [← hW2] at he; exact List.mem_of_mem_take (List.mem_of_mem_drop he))
   have h2b := (h2.takeL tq (by rw [List.length_map]; omega)).dropL mk (by rw [List.length_take, List.length_map]; omega)
   rw [hP2, hC2, ← List.map_take, ← List.map_drop, hW2, ← hW2l] at h2b
   refine goCh Hz (.c rfl (fun _ h => y_sliceLHn h mk tq rfl rfl rfl Tryz.underlying26 sz58pu rfl rfl (by omega) (by omega) hP2 hC2 hW2l.symm) <| .len rfl Tryz.underlying26 <| .move rfl <| .nil) ?_
   clear Hz Az; intro Az Hz
   refine wpList_nil ?_
   refine hK7 _ _ ?_; clear hK7; try clear K7
   refine wp_block ?_
   refine wp_loop_ghost (fun g a w => ∃ (k B B6 : Nat) (p : Option Addr) (c : Nat), k ≤ W2.length ∧ g = W2.length - k ∧ Has 98 [(6, .pointer (some ⟨B6, 0, none⟩)), (8, .int .i64 fi), (9, .pointer (some ⟨B, 0, none⟩)), (73, .slice P2 W2.length C2), (74, .int .i64 W2.length), (75, .int .i64 k)] a ∧ MemOk (cn w0) w0 [(6, .box B6 32 [.int .i64 0, .int .i64 0, .int .i64 0, .int .i64 0, .int .i64 0, .int .i64 0, .int .i64 0, .slice none 0 0]), (9, .box B 32 [.int .i64 vo, .int .i64 ch, .int .i64 cnt, .int .i64 sz, .int .i64 mk, .int .i64 tq, .int .i64 (min fl tq), .slice p ((pushL fi cnt (W2.take k)).map wrD).length c]), (10, .row (.slice p ((pushL fi cnt (W2.take k)).map wrD).length c) 58 2 ((pushL fi cnt (W2.take k)).map wrD))] w) (W2.length) ?_ ?_
   · have mz := m88.nilR 10 58 2
     exact ⟨0, _, _, _, _, Nat.zero_le _, rfl, Hz.only [6, 8, 9, 73, 74, 75], mz.ren [(6, 21), (9, 22), (10, 10)] (by decide)⟩
   ·
    clear Hz m88
    rintro g Az w103 ⟨k, B, B6, p, c, hkl, hg, Hz, m103⟩
    refine regS Hz (.lss rfl rfl <| .nil) ?_
    clear Hz Az; intro Az Hz
    refine wp_seq_k (fun K8 hK8 => ?_)
    refine bool_cases Hz (t := 76) rfl ?_ ?_
    ·
     clear Hz; intro hb105 Hz
     try simp only [Q1x, Q2x, Q3x, Q4x, Q5x, Q6x, Q7x, Q8x, Q9x, Q0x, Qax, Qbx] at hb105
     have hk : k < W2.length := by omega
     obtain ⟨⟨xs, xl⟩, hes⟩ : ∃ e, W2[k]? = some e := ⟨_, List.getElem?_eq_getElem hk⟩
     have hok2 := hW2o _ (List.mem_of_getElem? hes)
     dsimp only at hok2
     refine wp_cond_true (Hz.ev (x := .tmp 76) rfl) ?_
     refine wp_skip ?_
     refine hK8 _ _ ?_; clear hK8; try clear K8
     refine wp_seq_k (fun K9 hK9 => ?_)
     refine wp_block ?_
     refine wp_seq_k (fun K10 hK10 => ?_)
     refine wp_region_lit ?_
     obtain ⟨gx107, ox107, vx107, hp107, hl107, hR107, hrg107⟩ := h2b.extA (k) (r := [.v (.int .i64 xs), .l 2 (xl.map itD)]) (wrD_get hes)
     cases hp107; clear hl107
     rcases hR107 with _ | ⟨hd107_0, _ | ⟨hd107_1, _ | _⟩⟩
     obtain rfl := hd107_0.v_out
     clear hd107_0
     obtain ⟨p108, c108, hv108, hw108⟩ := hd107_1.l_shape; subst hv108
     refine goCh Hz (.c rfl (fun _ h => y_idx h rfl rfl Tryz.underlying26 sz58pu (k) rfl hk) <| .loadAt (hrg107 m103 rfl) rfl Tryz.underlying58 rfl sz58pu <| .nil) ?_
     clear Hz Az; intro Az Hz
     refine wpList_plain rfl (fun K hK => ?_)
     refine e_alloc Hz m103 101 zc58pu rfl ?_
     clear Hz Az m103; intro g111 Az w112 Hz m112 hB112 hg112
     clear hB112 hg112
     refine hK _ _ ?_; clear hK K
     refine wpList_plain rfl (fun K hK => ?_)
     refine e_storeW Hz m112 101 rfl rfl rfl rfl rfl sz58pu ?_
     clear m112; intro w113 m113 hB113
     clear hB113
     refine hK _ _ ?_; clear hK K
     refine wpList_nil ?_
     refine hK10 _ _ ?_; clear hK10; try clear K10
     refine wp_seq_k (fun K11 hK11 => ?_)
     refine wp_region_lit ?_
     refine goCh Hz (.loadBR m113 (i := 101) rfl rfl Tryz.underlying58 rfl sz58pu (by simp) (by dsimp only [List.drop, List.take] <;> rfl) <| .move rfl <| .fieldAddr (off := 2) rfl Tryz.underlying32 rfl (s := 0) (by kernel_rfl) rfl <| .loadB1 m113 (i := 9) rfl rfl rfl Tryz.underlying3 rfl <| .nil) ?_
     clear Hz Az; intro Az Hz
     refine wpList_plain rfl (fun K hK => ?_)
     refine e_call Hz Tryz.func26 rfl rfl rfl rfl (itemsOf_any fi cnt _ xl _ _ _ _ ((hd107_1.now' m113 rfl).any) hok2.1 hok2.2 hfb hcb) ?_
     rintro e w122 ⟨p122, c122, rfl, hd122, hb122⟩
     have m123 := m113.callF 102 rfl hb122 hd122
     clear m113
     clear hb122 hd122
     refine ⟨_, rfl, ?_⟩; clear Hz Az; intro Az Hz
     refine hK _ _ ?_; clear hK K
     refine goCh Hz (.assign rfl .nil) ?_
     clear Hz Az; intro Az Hz
     refine wpList_nil ?_
     refine hK11 _ _ ?_; clear hK11; try clear K11
     replace Hz : Has 98 [(6, _), (8, _), (9, _), (73, _), (74, _), (75, _), (11, _), (12, _)] Az := Hz.only [6, 8, 9, 73, 74, 75, 11, 12]
     refine regS Hz (.move rfl <| .len rfl Tryz.underlying48 <| .gtr rfl rfl <| .nil) ?_
     clear Hz Az; intro Az Hz
     refine bool_cases Hz (t := 86) rfl ?_ ?_
     ·
      clear Hz; intro hb130 Hz
      try simp only [Q1x, Q2x, Q3x, Q4x, Q5x, Q6x, Q7x, Q8x, Q9x, Q0x, Qax, Qbx] at hb130
      refine wp_cond_true (Hz.ev (x := .tmp 86) rfl) ?_
      refine wp_region_lit ?_
      refine goCh Hz (.fieldAddr (off := 7) rfl Tryz.underlying32 rfl (s := 0) (by kernel_rfl) rfl <| .loadB1 m123 (i := 9) rfl rfl rfl Tryz.underlying26 rfl <| .fieldAddr (off := 0) rfl Tryz.underlying58 rfl (s := 0) (by kernel_rfl) rfl <| .loadB1 m123 (i := 101) rfl rfl rfl Tryz.underlying2 rfl <| .move rfl <| .build rfl zc58pu fl58pu rfl (by dsimp only [setL, List.set] <;> rfl) <| .nil) ?_
      clear Hz Az; intro Az Hz
      refine wpList_plain rfl (fun K hK => ?_)
      refine e_litR Hz m123 103 (mm := 2) rfl (.cons rfl rfl (.cons (.v _) (.cons (m123.rd (i := 102) rfl) .nil)) <| .nil) Tryz.underlying26 inf58pu rfl rfl rfl rfl rfl ?_
      clear Hz Az m123; intro g137 Az w138 Hz m138
      refine hK _ _ ?_; clear hK K
      have m140 := m138.freezeR 103 rfl; clear m138
      refine wpList_plain rfl (fun K hK => ?_)
      refine e_appR Hz m140 10 rfl rfl rfl (m140.rd (i := 103) rfl) Tryz.underlying26 inf58pu rfl rfl (by decide) (by have := push_len fi cnt (W2.take k); rw [List.length_take] at this; simp; omega) rfl ?_
      clear Hz Az m140; intro p139 c139 Az w141 Hz m141
      refine hK _ _ ?_; clear hK K
      refine goCh Hz (.fieldAddr (off := 7) rfl Tryz.underlying32 rfl (s := 0) (by kernel_rfl) rfl .nil) ?_
      clear Hz Az; intro Az Hz
      refine wpList_plain rfl (fun K hK => ?_)
      refine e_store1 Hz m141 9 rfl rfl rfl rfl rfl sz26pu (by dsimp only [List.set] <;> rfl) ?_
      clear m141; intro w143 m143 hB143
      clear hB143
      refine hK _ _ ?_; clear hK K
      refine wpList_nil ?_
      refine hK9 _ _ ?_; clear hK9; try clear K9
      replace Hz : Has 98 [(6, _), (8, _), (9, _), (73, _), (74, _), (75, _), (86, _)] Az := Hz.only [6, 8, 9, 73, 74, 75, 86]
      refine wp_region_lit ?_
      refine goCh Hz (.add rfl rfl (r := ((k + 1 : Nat) : Int)) (by rw [IntWalk.i64_in _ (by omega)]; omega) <| .move rfl <| .nil) ?_
      clear Hz Az; intro Az Hz
      refine wpList_nil ?_
      show ∃ n', n' < _ ∧ _
      have hE : (pushL fi cnt (W2.take k)).map wrD ++ [[D.v (.int .i64 xs), .l 2 ((itemsL fi cnt xl).map itD)]] = (pushL fi cnt (W2.take (k + 1))).map wrD := by rw [push_yes hes (by have h9 := hb130; rw [List.length_map] at h9; omega), List.map_append]; rfl
      rw [hE] at m143
      exact ⟨W2.length - (k + 1), by omega, k + 1, _, _, _, _, by omega, rfl, Hz.only [6, 8, 9, 73, 74, 75], m143.only [6, 9, 10]⟩
     ·
      clear Hz; intro hb130 Hz
      try simp only [Q1x, Q2x, Q3x, Q4x, Q5x, Q6x, Q7x, Q8x, Q9x, Q0x, Qax, Qbx] at hb130
      refine wp_cond_false (Hz.ev (x := .tmp 86) rfl) ?_
      refine wp_skip ?_
      refine hK9 _ _ ?_; clear hK9; try clear K9
      refine wp_region_lit ?_
      refine goCh Hz (.add rfl rfl (r := ((k + 1 : Nat) : Int)) (by rw [IntWalk.i64_in _ (by omega)]; omega) <| .move rfl <| .nil) ?_
      clear Hz Az; intro Az Hz
      refine wpList_nil ?_
      show ∃ n', n' < _ ∧ _
      have hE : (pushL fi cnt (W2.take k)) = pushL fi cnt (W2.take (k + 1)) := (push_no hes (by have h9 := hb130; rw [List.length_map] at h9; omega)).symm
      rw [hE] at m123
      exact ⟨W2.length - (k + 1), by omega, k + 1, _, _, _, _, by omega, rfl, Hz.only [6, 8, 9, 73, 74, 75], m123.only [6, 9, 10]⟩
    ·
     clear Hz; intro hb105 Hz
     try simp only [Q1x, Q2x, Q3x, Q4x, Q5x, Q6x, Q7x, Q8x, Q9x, Q0x, Qax, Qbx] at hb105
     obtain rfl : k = W2.length := by omega
     refine wp_cond_false (Hz.ev (x := .tmp 76) rfl) ?_
     refine wp_exit ?_
     refine hK6 _ _ ?_; clear hK6; try clear K6
     refine wp_seq_k (fun K12 hK12 => ?_)
     refine wp_region_lit ?_
     refine goCh Hz (.loadBR m103 (i := 9) rfl rfl Tryz.underlying32 rfl sz32pu (by simp) (by dsimp only [List.drop, List.take] <;> rfl) .nil) ?_
     clear Hz Az; intro Az Hz
     refine wpList_plain rfl (fun K hK => ?_)
     refine e_storeW Hz m103 6 rfl rfl rfl rfl rfl sz32pu ?_
     clear m103; intro w151 m151 hB151
     clear hB151
     refine hK _ _ ?_; clear hK K
     refine goCh Hz (.assign rfl .nil) ?_
     clear Hz Az; intro Az Hz
     refine wpList_nil ?_
     refine hK12 _ _ ?_; clear hK12; try clear K12
     refine wp_ret ?_
     try dsimp only [Exit.then, Exit.inBlock]
     refine (retCT (fn := Tryz.f8) Hz m151 (i := 6) rfl rfl rfl rfl Tryz.underlying32 rfl sz32pu ?_)
     rw [List.take_length] at *
     have m153 := m151.freezeR 10 rfl; clear m151
     rw [hW2]
     exact ⟨_, _, rfl, m153.outF (i := 10) rfl, m153.below⟩
  ·
   clear Hz; intro hb68 Hz
   try simp only [Q1x, Q2x, Q3x, Q4x, Q5x, Q6x, Q7x, Q8x, Q9x, Q0x, Qax, Qbx] at hb68
   obtain rfl : cnt = pe := hcnt.2 (by omega)
   refine wp_cond_false (Hz.ev (x := .tmp 56) rfl) ?_
   refine wp_skip ?_
   refine hK4 _ _ ?_; clear hK4; try clear K4
   replace Hz : Has 98 [(2, _), (3, _), (6, _), (7, _), (8, _), (9, _)] Az := Hz.only [2, 3, 6, 7, 8, 9]
   refine wp_seq_k (fun K13 hK13 => ?_)
   refine wp_region_lit ?_
   refine goCh Hz (.fieldAddr (off := 8) rfl Tryz.underlying28 rfl (s := 0) (by kernel_rfl) rfl <| .loadB1 m60 (i := 20) rfl rfl rfl Tryz.underlying2 rfl <| .fieldAddr (off := 5) rfl Tryz.underlying32 rfl (s := 0) (by kernel_rfl) rfl <| .loadB1 m60 (i := 22) rfl rfl rfl Tryz.underlying2 rfl <| .c rfl (fun _ h => y_min h rfl rfl rfl) <| .fieldAddr (off := 6) rfl Tryz.underlying32 rfl (s := 0) (by kernel_rfl) rfl <| .nil) ?_
   clear Hz Az; intro Az Hz
   refine wpList_plain rfl (fun K hK => ?_)
   refine e_store1 Hz m60 22 rfl rfl rfl rfl rfl sz2pu (by dsimp only [List.set] <;> rfl) ?_
   clear m60; intro w167 m167 hB167
   clear hB167
   refine hK _ _ ?_; clear hK K
   refine wpList_nil ?_
   refine hK13 _ _ ?_; clear hK13; try clear K13
   refine wp_seq_k (fun K14 hK14 => ?_)
   replace Hz : Has 98 [(2, _), (3, _), (6, _), (7, _), (8, _), (9, _)] Az := Hz.only [2, 3, 6, 7, 8, 9]
   refine wp_seq_k (fun K15 hK15 => ?_)
   refine wp_region_lit ?_
   refine goCh Hz (.fieldAddr (off := 10) rfl Tryz.underlying28 rfl (s := 0) (by kernel_rfl) rfl <| .loadB1 m167 (i := 20) rfl rfl rfl Tryz.underlying26 rfl <| .move rfl <| .fieldAddr (off := 5) rfl Tryz.underlying32 rfl (s := 0) (by kernel_rfl) rfl <| .loadB1 m167 (i := 22) rfl rfl rfl Tryz.underlying2 rfl <| .nil) ?_
   clear Hz Az; intro Az Hz
   obtain ⟨P2, hP2⟩ : ∃ x, (if cw = mk then pw else pw.map (·.add (mk * 2))) = x := ⟨_, rfl⟩
   obtain ⟨W2, hW2⟩ : ∃ x, (ws.take tq).drop mk = x := ⟨_, rfl⟩
   obtain ⟨C2, hC2⟩ : ∃ x, cw - mk = x := ⟨_, rfl⟩
   have hW2l : W2.length = tq - mk := by rw [← hW2, List.length_drop, List.length_take]; omega
   have hW2o : WrsOk W2 := fun e he => hok e (by rw [← hW2] at he; exact List.mem_of_mem_take (List.mem_of_mem_drop he))
   have h2b := (h2.takeL tq (by rw [List.length_map]; omega)).dropL mk (by rw [List.length_take, List.length_map]; omega)
   rw [hP2, hC2, ← List.map_take, ← List.map_drop, hW2, ← hW2l] at h2b
   refine goCh Hz (.c rfl (fun _ h => y_sliceLHn h mk tq rfl rfl rfl Tryz.underlying26 sz58pu rfl rfl (by omega) (by omega) hP2 hC2 hW2l.symm) <| .len rfl Tryz.underlying26 <| .move rfl <| .nil) ?_
   clear Hz Az; intro Az Hz
   refine wpList_nil ?_
   refine hK15 _ _ ?_; clear hK15; try clear K15
   refine wp_block ?_
   refine wp_loop_ghost (fun g a w => ∃ (k B B6 : Nat) (p : Option Addr) (c : Nat), k ≤ W2.length ∧ g = W2.length - k ∧ Has 98 [(6, .pointer (some ⟨B6, 0, none⟩)), (8, .int .i64 fi), (9, .pointer (some ⟨B, 0, none⟩)), (73, .slice P2 W2.length C2), (74, .int .i64 W2.length), (75, .int .i64 k)] a ∧ MemOk (cn w0) w0 [(6, .box B6 32 [.int .i64 0, .int .i64 0, .int .i64 0, .int .i64 0, .int .i64 0, .int .i64 0, .int .i64 0, .slice none 0 0]), (9, .box B 32 [.int .i64 vo, .int .i64 ch, .int .i64 cnt, .int .i64 sz, .int .i64 mk, .int .i64 tq, .int .i64 (min fl tq), .slice p ((pushL fi cnt (W2.take k)).map wrD).length c]), (10, .row (.slice p ((pushL fi cnt (W2.take k)).map wrD).length c) 58 2 ((pushL fi cnt (W2.take k)).map wrD))] w) (W2.length) ?_ ?_
   · have mz := m167.nilR 10 58 2
     exact ⟨0, _, _, _, _, Nat.zero_le _, rfl, Hz.only [6, 8, 9, 73, 74, 75], mz.ren [(6, 21), (9, 22), (10, 10)] (by decide)⟩
   ·
    clear Hz m167
    rintro g Az w182 ⟨k, B, B6, p, c, hkl, hg, Hz, m182⟩
    refine regS Hz (.lss rfl rfl <| .nil) ?_
    clear Hz Az; intro Az Hz
    refine wp_seq_k (fun K16 hK16 => ?_)
    refine bool_cases Hz (t := 76) rfl ?_ ?_
    ·
     clear Hz; intro hb184 Hz
     try simp only [Q1x, Q2x, Q3x, Q4x, Q5x, Q6x, Q7x, Q8x, Q9x, Q0x, Qax, Qbx] at hb184
     have hk : k < W2.length := by omega
     obtain ⟨⟨xs, xl⟩, hes⟩ : ∃ e, W2[k]? = some e := ⟨_, List.getElem?_eq_getElem hk⟩
     have hok2 := hW2o _ (List.mem_of_getElem? hes)
     dsimp only at hok2
     refine wp_cond_true (Hz.ev (x := .tmp 76) rfl) ?_
     refine wp_skip ?_
     refine hK16 _ _ ?_; clear hK16; try clear K16
     refine wp_seq_k (fun K17 hK17 => ?_)
     refine wp_block ?_
     refine wp_seq_k (fun K18 hK18 => ?_)
     refine wp_region_lit ?_
     obtain ⟨gx186, ox186, vx186, hp186, hl186, hR186, hrg186⟩ := h2b.extA (k) (r := [.v (.int .i64 xs), .l 2 (xl.map itD)]) (wrD_get hes)
     cases hp186; clear hl186
     rcases hR186 with _ | ⟨hd186_0, _ | ⟨hd186_1, _ | _⟩⟩
     obtain rfl := hd186_0.v_out
     clear hd186_0
     obtain ⟨p187, c187, hv187, hw187⟩ := hd186_1.l_shape; subst hv187
     refine goCh Hz (.c rfl (fun _ h => y_idx h rfl rfl Tryz.underlying26 sz58pu (k) rfl hk) <| .loadAt (hrg186 m182 rfl) rfl Tryz.underlying58 rfl sz58pu <| .nil) ?_
     clear Hz Az; intro Az Hz
     refine wpList_plain rfl (fun K hK => ?_)
     refine e_alloc Hz m182 101 zc58pu rfl ?_
     clear Hz Az m182; intro g190 Az w191 Hz m191 hB191 hg191
     clear hB191 hg191
     refine hK _ _ ?_; clear hK K
     refine wpList_plain rfl (fun K hK => ?_)
     refine e_storeW Hz m191 101 rfl rfl rfl rfl rfl sz58pu ?_
     clear m191; intro w192 m192 hB192
     clear hB192
     refine hK _ _ ?_; clear hK K
     refine wpList_nil ?_
     refine hK18 _ _ ?_; clear hK18; try clear K18
     refine wp_seq_k (fun K19 hK19 => ?_)
     refine wp_region_lit ?_
     refine goCh Hz (.loadBR m192 (i := 101) rfl rfl Tryz.underlying58 rfl sz58pu (by simp) (by dsimp only [List.drop, List.take] <;> rfl) <| .move rfl <| .fieldAddr (off := 2) rfl Tryz.underlying32 rfl (s := 0) (by kernel_rfl) rfl <| .loadB1 m192 (i := 9) rfl rfl rfl Tryz.underlying3 rfl <| .nil) ?_
     clear Hz Az; intro Az Hz
     refine wpList_plain rfl (fun K hK => ?_)
     refine e_call Hz Tryz.func26 rfl rfl rfl rfl (itemsOf_any fi cnt _ xl _ _ _ _ ((hd186_1.now' m192 rfl).any) hok2.1 hok2.2 hfb hcb) ?_
     rintro e w201 ⟨p201, c201, rfl, hd201, hb201⟩
     have m202 := m192.callF 102 rfl hb201 hd201
     clear m192
     clear hb201 hd201
     refine ⟨_, rfl, ?_⟩; clear Hz Az; intro Az Hz
     refine hK _ _ ?_; clear hK K
     refine goCh Hz (.assign rfl .nil) ?_
     clear Hz Az; intro Az Hz
     refine wpList_nil ?_
     refine hK19 _ _ ?_; clear hK19; try clear K19
     replace Hz : Has 98 [(6, _), (8, _), (9, _), (73, _), (74, _), (75, _), (11, _), (12, _)] Az := Hz.only [6, 8, 9, 73, 74, 75, 11, 12]
     refine regS Hz (.move rfl <| .len rfl Tryz.underlying48 <| .gtr rfl rfl <| .nil) ?_
     clear Hz Az; intro Az Hz
     refine bool_cases Hz (t := 86) rfl ?_ ?_
     ·
      clear Hz; intro hb209 Hz
      try simp only [Q1x, Q2x, Q3x, Q4x, Q5x, Q6x, Q7x, Q8x, Q9x, Q0x, Qax, Qbx] at hb209
      refine wp_cond_true (Hz.ev (x := .tmp 86) rfl) ?_
      refine wp_region_lit ?_
      refine goCh Hz (.fieldAddr (off := 7) rfl Tryz.underlying32 rfl (s := 0) (by kernel_rfl) rfl <| .loadB1 m202 (i := 9) rfl rfl rfl Tryz.underlying26 rfl <| .fieldAddr (off := 0) rfl Tryz.underlying58 rfl (s := 0) (by kernel_rfl) rfl <| .loadB1 m202 (i := 101) rfl rfl rfl Tryz.underlying2 rfl <| .move rfl <| .build rfl zc58pu fl58pu rfl (by dsimp only [setL, List.set] <;> rfl) <| .nil) ?_
      clear Hz Az; intro Az Hz
      refine wpList_plain rfl (fun K hK => ?_)
      refine e_litR Hz m202 103 (mm := 2) rfl (.cons rfl rfl (.cons (.v _) (.cons (m202.rd (i := 102) rfl) .nil)) <| .nil) Tryz.underlying26 inf58pu rfl rfl rfl rfl rfl ?_
      clear Hz Az m202; intro g216 Az w217 Hz m217
      refine hK _ _ ?_; clear hK K
      have m219 := m217.freezeR 103 rfl; clear m217
      refine wpList_plain rfl (fun K hK => ?_)
      refine e_appR Hz m219 10 rfl rfl rfl (m219.rd (i := 103) rfl) Tryz.underlying26 inf58pu rfl rfl (by decide) (by have := push_len fi cnt (W2.take k); rw [List.length_take] at this; simp; omega) rfl ?_
      clear Hz Az m219; intro p218 c218 Az w220 Hz m220
      refine hK _ _ ?_; clear hK K
      refine goCh Hz (.fieldAddr (off := 7) rfl Tryz.underlying32 rfl (s := 0) (by kernel_rfl) rfl .nil) ?_
      clear Hz Az; intro Az Hz
      refine wpList_plain rfl (fun K hK => ?_)
      refine e_store1 Hz m220 9 rfl rfl rfl rfl rfl sz26pu (by dsimp only [List.set] <;> rfl) ?_
      clear m220; intro w222 m222 hB222
      clear hB222
      refine hK _ _ ?_; clear hK K
      refine wpList_nil ?_
      refine hK17 _ _ ?_; clear hK17; try clear K17
      replace Hz : Has 98 [(6, _), (8, _), (9, _), (73, _), (74, _), (75, _), (86, _)] Az := Hz.only [6, 8, 9, 73, 74, 75, 86]
      refine wp_region_lit ?_
      refine goCh Hz (.add rfl rfl (r := ((k + 1 : Nat) : Int)) (by rw [IntWalk.i64_in _ (by omega)]; omega) <| .move rfl <| .nil) ?_
      clear Hz Az; intro Az Hz
      refine wpList_nil ?_
      show ∃ n', n' < _ ∧ _
      have hE : (pushL fi cnt (W2.take k)).map wrD ++ [[D.v (.int .i64 xs), .l 2 ((itemsL fi cnt xl).map itD)]] = (pushL fi cnt (W2.take (k + 1))).map wrD := by rw [push_yes hes (by have h9 := hb209; rw [List.length_map] at h9; omega), List.map_append]; rfl
      rw [hE] at m222
      exact ⟨W2.length - (k + 1), by omega, k + 1, _, _, _, _, by omega, rfl, Hz.only [6, 8, 9, 73, 74, 75], m222.only [6, 9, 10]⟩
     ·
      clear Hz; intro hb209 Hz
      try simp only [Q1x, Q2x, Q3x, Q4x, Q5x, Q6x, Q7x, Q8x, Q9x, Q0x, Qax, Qbx] at hb209
      refine wp_cond_false (Hz.ev (x := .tmp 86) rfl) ?_
      refine wp_skip ?_
      refine hK17 _ _ ?_; clear hK17; try clear K17
      refine wp_region_lit ?_
      refine goCh Hz (.add rfl rfl (r := ((k + 1 : Nat) : Int)) (by rw [IntWalk.i64_in _ (by omega)]; omega) <| .move rfl <| .nil) ?_
      clear Hz Az; intro Az Hz
      refine wpList_nil ?_
      show ∃ n', n' < _ ∧ _
      have hE : (pushL fi cnt (W2.take k)) = pushL fi cnt (W2.take (k + 1)) := (push_no hes (by have h9 := hb209; rw [List.length_map] at h9; omega)).symm
      rw [hE] at m202
      exact ⟨W2.length - (k + 1), by omega, k + 1, _, _, _, _, by omega, rfl, Hz.only [6, 8, 9, 73, 74, 75], m202.only [6, 9, 10]⟩
    ·
     clear Hz; intro hb184 Hz
     try simp only [Q1x, Q2x, Q3x, Q4x, Q5x, Q6x, Q7x, Q8x, Q9x, Q0x, Qax, Qbx] at hb184
     obtain rfl : k = W2.length := by omega
     refine wp_cond_false (Hz.ev (x := .tmp 76) rfl) ?_
     refine wp_exit ?_
     refine hK14 _ _ ?_; clear hK14; try clear K14
     refine wp_seq_k (fun K20 hK20 => ?_)
     refine wp_region_lit ?_
     refine goCh Hz (.loadBR m182 (i := 9) rfl rfl Tryz.underlying32 rfl sz32pu (by simp) (by dsimp only [List.drop, List.take] <;> rfl) .nil) ?_
     clear Hz Az; intro Az Hz
     refine wpList_plain rfl (fun K hK => ?_)
     refine e_storeW Hz m182 6 rfl rfl rfl rfl rfl sz32pu ?_
     clear m182; intro w230 m230 hB230
     clear hB230
     refine hK _ _ ?_; clear hK K
     refine goCh Hz (.assign rfl .nil) ?_
     clear Hz Az; intro Az Hz
     refine wpList_nil ?_
     refine hK20 _ _ ?_; clear hK20; try clear K20
     refine wp_ret ?_
     try dsimp only [Exit.then, Exit.inBlock]
     refine (retCT (fn := Tryz.f8) Hz m230 (i := 6) rfl rfl rfl rfl Tryz.underlying32 rfl sz32pu ?_)
     rw [List.take_length] at *
     have m232 := m230.freezeR 10 rfl; clear m230
     rw [hW2]
     exact ⟨_, _, rfl, m232.outF (i := 10) rfl, m232.below⟩
 ·
  refine e_alloc Hz m41 22 zc32pu rfl ?_
  clear Hz Az m41; intro g233 Az w234 Hz m234 hB234 hg234
  clear hB234 hg234
  refine hK _ _ (fun _ => (m234.to ⟨il, trivial⟩)) ?_; clear hK K
  refine stepE_only 11 rfl (by kernel_rfl) rfl (fun K hK => ?_)
  refine e_call Hz Tryz.func18 rfl rfl rfl rfl (vlen_any _ _ _ _ _ _ _ _ _ _ _ _ _ _ _ _ _ _) ?_
  rintro e w235 ⟨rfl, hb235⟩
  have m236 := m234.later hb235
  clear m234
  clear hb235
  refine ⟨_, rfl, ?_⟩; clear Hz Az; intro Az Hz
  refine hK _ _ (m236.to ⟨il, trivial⟩) ?_; clear hK K
  refine goA hP41 [12, 13] 2 20479 32767 Hz (m236.to ⟨il, trivial⟩) (.p (fun _ _ h => y_min h rfl rfl (r := (tq : Int)) htq) <| .build rfl zc32pu fl32pu rfl (by dsimp only [setL, List.set] <;> rfl) <| .nil) ?_
  clear Hz Az; intro Az Hz
  refine stepE_only 15 rfl (by kernel_rfl) rfl (fun K hK => ?_)
  refine e_storeW Hz m236 22 rfl rfl rfl rfl rfl sz32pu ?_
  clear m236; intro w240 m240 hB240
  clear hB240
  refine hK _ _ (m240.to ⟨il, trivial⟩) ?_; clear hK K
  refine wpAnyE_done (by kernel_rfl) ?_ _
  refine hK3 _ _ ?_; clear hK3; try clear K3
  refine wp_seq_k (fun K21 hK21 => ?_)
  replace Hz : Has 98 [(1, _), (2, _), (3, _), (6, _), (7, _), (8, _), (9, _)] Az := Hz.only [1, 2, 3, 6, 7, 8, 9]
  refine regS Hz (.move rfl <| .fieldAddr (off := 4) rfl Tryz.underlying28 rfl (s := 0) (by kernel_rfl) rfl <| .loadB1 m240 (i := 20) rfl rfl rfl Tryz.underlying24 rfl <| .len rfl Tryz.underlying24 <| .sub rfl rfl (r := (place.length : Int) - 1) (IntWalk.i64_in _ (by omega)) <| .eql rfl rfl <| .nil) ?_
  clear Hz Az; intro Az Hz
  refine bool_cases Hz (t := 56) rfl ?_ ?_
  ·
   clear Hz; intro hb248 Hz
   try simp only [Q1x, Q2x, Q3x, Q4x, Q5x, Q6x, Q7x, Q8x, Q9x, Q0x, Qax, Qbx] at hb248
   refine wp_cond_true (Hz.ev (x := .tmp 56) rfl) ?_
   replace Hz : Has 98 [(2, _), (3, _), (6, _), (7, _), (8, _), (9, _)] Az := Hz.only [2, 3, 6, 7, 8, 9]
   refine wp_region_lit ?_
   refine goCh Hz (.fieldAddr (off := 1) rfl Tryz.underlying28 rfl (s := 0) (by kernel_rfl) rfl <| .loadB1 m240 (i := 20) rfl rfl rfl Tryz.underlying3 rfl <| .move rfl <| .sub rfl rfl (r := cnt) (by rw [← hcnt.1 (by omega)]; exact IntWalk.i64_in _ (by omega)) <| .fieldAddr (off := 2) rfl Tryz.underlying32 rfl (s := 0) (by kernel_rfl) rfl <| .nil) ?_
   clear Hz Az; intro Az Hz
   refine wpList_plain rfl (fun K hK => ?_)
   refine e_store1 Hz m240 22 rfl rfl rfl rfl rfl sz3pu (by dsimp only [List.set] <;> rfl) ?_
   clear m240; intro w255 m255 hB255
   clear hB255
   refine hK _ _ ?_; clear hK K
   refine wpList_nil ?_
   refine hK21 _ _ ?_; clear hK21; try clear K21
   refine wp_seq_k (fun K22 hK22 => ?_)
   refine wp_region_lit ?_
   refine goCh Hz (.fieldAddr (off := 8) rfl Tryz.underlying28 rfl (s := 0) (by kernel_rfl) rfl <| .loadB1 m255 (i := 20) rfl rfl rfl Tryz.underlying2 rfl <| .fieldAddr (off := 5) rfl Tryz.underlying32 rfl (s := 0) (by kernel_rfl) rfl <| .loadB1 m255 (i := 22) rfl rfl rfl Tryz.underlying2 rfl <| .c rfl (fun _ h => y_min h rfl rfl rfl) <| .fieldAddr (off := 6) rfl Tryz.underlying32 rfl (s := 0) (by kernel_rfl) rfl <| .nil) ?_
   clear Hz Az; intro Az Hz
   refine wpList_plain rfl (fun K hK => ?_)
   refine e_store1 Hz m255 22 rfl rfl rfl rfl rfl sz2pu (by dsimp only [List.set] <;> rfl) ?_
   clear m255; intro w268 m268 hB268
   clear hB268
   refine hK _ _ ?_; clear hK K
   refine wpList_nil ?_
   refine hK22 _ _ ?_; clear hK22; try clear K22
   refine wp_seq_k (fun K23 hK23 => ?_)
   replace Hz : Has 98 [(2, _), (3, _), (6, _), (7, _), (8, _), (9, _)] Az := Hz.only [2, 3, 6, 7, 8, 9]
   refine wp_seq_k (fun K24 hK24 => ?_)
   refine wp_region_lit ?_
   refine goCh Hz (.fieldAddr (off := 10) rfl Tryz.underlying28 rfl (s := 0) (by kernel_rfl) rfl <| .loadB1 m268 (i := 20) rfl rfl rfl Tryz.underlying26 rfl <| .move rfl <| .fieldAddr (off := 5) rfl Tryz.underlying32 rfl (s := 0) (by kernel_rfl) rfl <| .loadB1 m268 (i := 22) rfl rfl rfl Tryz.underlying2 rfl <| .nil) ?_
   clear Hz Az; intro Az Hz
   obtain ⟨P2, hP2⟩ : ∃ x, (if cw = mk then pw else pw.map (·.add (mk * 2))) = x := ⟨_, rfl⟩
   obtain ⟨W2, hW2⟩ : ∃ x, (ws.take tq).drop mk = x := ⟨_, rfl⟩
   obtain ⟨C2, hC2⟩ : ∃ x, cw - mk = x := ⟨_, rfl⟩
   have hW2l : W2.length = tq - mk := by rw [← hW2, List.length_drop, List.length_take]; omega
   have hW2o : WrsOk W2 := fun e he => hok e (by rw [← hW2] at he; exact List.mem_of_mem_take (List.mem_of_mem_drop he))
   have h2b := (h2.takeL tq (by rw [List.length_map]; omega)).dropL mk (by rw [List.length_take, List.length_map]; omega)
   rw [hP2, hC2, ← List.map_take, ← List.map_drop, hW2, ← hW2l] at h2b
   refine goCh Hz (.c rfl (fun _ h => y_sliceLHn h mk tq rfl rfl rfl Tryz.underlying26 sz58pu rfl rfl (by omega) (by omega) hP2 hC2 hW2l.symm) <| .len rfl Tryz.underlying26 <| .move rfl <| .nil) ?_
   clear Hz Az; intro Az Hz
   refine wpList_nil ?_
   refine hK24 _ _ ?_; clear hK24; try clear K24
   refine wp_block ?_
   refine wp_loop_ghost (fun g a w => ∃ (k B B6 : Nat) (p : Option Addr) (c : Nat), k ≤ W2.length ∧ g = W2.length - k ∧ Has 98 [(6, .pointer (some ⟨B6, 0, none⟩)), (8, .int .i64 fi), (9, .pointer (some ⟨B, 0, none⟩)), (73, .slice P2 W2.length C2), (74, .int .i64 W2.length), (75, .int .i64 k)] a ∧ MemOk (cn w0) w0 [(6, .box B6 32 [.int .i64 0, .int .i64 0, .int .i64 0, .int .i64 0, .int .i64 0, .int .i64 0, .int .i64 0, .slice none 0 0]), (9, .box B 32 [.int .i64 vo, .int .i64 ch, .int .i64 cnt, .int .i64 sz, .int .i64 mk, .int .i64 tq, .int .i64 (min fl tq), .slice p ((pushL fi cnt (W2.take k)).map wrD).length c]), (10, .row (.slice p ((pushL fi cnt (W2.take k)).map wrD).length c) 58 2 ((pushL fi cnt (W2.take k)).map wrD))] w) (W2.length) ?_ ?_
   · have mz := m268.nilR 10 58 2
     exact ⟨0, _, _, _, _, Nat.zero_le _, rfl, Hz.only [6, 8, 9, 73, 74, 75], mz.ren [(6, 21), (9, 22), (10, 10)] (by decide)⟩
   ·
    clear Hz m268
    rintro g Az w283 ⟨k, B, B6, p, c, hkl, hg, Hz, m283⟩
    refine regS Hz (.lss rfl rfl <| .nil) ?_
    clear Hz Az; intro Az Hz
    refine wp_seq_k (fun K25 hK25 => ?_)
    refine bool_cases Hz (t := 76) rfl ?_ ?_
    ·
     clear Hz; intro hb285 Hz
     try simp only [Q1x, Q2x, Q3x, Q4x, Q5x, Q6x, Q7x, Q8x, Q9x, Q0x, Qax, Qbx] at hb285
     have hk : k < W2.length := by omega
     obtain ⟨⟨xs, xl⟩, hes⟩ : ∃ e, W2[k]? = some e := ⟨_, List.getElem?_eq_getElem hk⟩
     have hok2 := hW2o _ (List.mem_of_getElem? hes)
     dsimp only at hok2
     refine wp_cond_true (Hz.ev (x := .tmp 76) rfl) ?_
     refine wp_skip ?_
     refine hK25 _ _ ?_; clear hK25; try clear K25
     refine wp_seq_k (fun K26 hK26 => ?_)
     refine wp_block ?_
     refine wp_seq_k (fun K27 hK27 => ?_)
     refine wp_region_lit ?_
     obtain ⟨gx287, ox287, vx287, hp287, hl287, hR287, hrg287⟩ := h2b.extA (k) (r := [.v (.int .i64 xs), .l 2 (xl.map itD)]) (wrD_get hes)
     cases hp287; clear hl287
     rcases hR287 with _ | ⟨hd287_0, _ | ⟨hd287_1, _ | _⟩⟩
     obtain rfl := hd287_0.v_out
     clear hd287_0
     obtain ⟨p288, c288, hv288, hw288⟩ := hd287_1.l_shape; subst hv288
     refine goCh Hz (.c rfl (fun _ h => y_idx h rfl rfl Tryz.underlying26 sz58pu (k) rfl hk) <| .loadAt (hrg287 m283 rfl) rfl Tryz.underlying58 rfl sz58pu <| .nil) ?_
     clear Hz Az; intro Az Hz
     refine wpList_plain rfl (fun K hK => ?_)
     refine e_alloc Hz m283 101 zc58pu rfl ?_
     clear Hz Az m283; intro g291 Az w292 Hz m292 hB292 hg292
     clear hB292 hg292
     refine hK _ _ ?_; clear hK K
     refine wpList_plain rfl (fun K hK => ?_)
     refine e_storeW Hz m292 101 rfl rfl rfl rfl rfl sz58pu ?_
     clear m292; intro w293 m293 hB293
     clear hB293
     refine hK _ _ ?_; clear hK K
     refine wpList_nil ?_
     refine hK27 _ _ ?_; clear hK27; try clear K27
     refine wp_seq_k (fun K28 hK28 => ?_)
     refine wp_region_lit ?_
     refine goCh Hz (.loadBR m293 (i := 101) rfl rfl Tryz.underlying58 rfl sz58pu (by simp) (by dsimp only [List.drop, List.take] <;> rfl) <| .move rfl <| .fieldAddr (off := 2) rfl Tryz.underlying32 rfl (s := 0) (by kernel_rfl) rfl <| .loadB1 m293 (i := 9) rfl rfl rfl Tryz.underlying3 rfl <| .nil) ?_
     clear Hz Az; intro Az Hz
     refine wpList_plain rfl (fun K hK => ?_)
     refine e_call Hz Tryz.func26 rfl rfl rfl rfl (itemsOf_any fi cnt _ xl _ _ _ _ ((hd287_1.now' m293 rfl).any) hok2.1 hok2.2 hfb hcb) ?_
     rintro e w302 ⟨p302, c302, rfl, hd302, hb302⟩
     have m303 := m293.callF 102 rfl hb302 hd302
     clear m293
     clear hb302 hd302
     refine ⟨_, rfl, ?_⟩; clear Hz Az; intro Az Hz
     refine hK _ _ ?_; clear hK K
     refine goCh Hz (.assign rfl .nil) ?_
     clear Hz Az; intro Az Hz
     refine wpList_nil ?_
     refine hK28 _ _ ?_; clear hK28; try clear K28
     replace Hz : Has 98 [(6, _), (8, _), (9, _), (73, _), (74, _), (75, _), (11, _), (12, _)] Az := Hz.only [6, 8, 9, 73, 74, 75, 11, 12]
     refine regS Hz (.move rfl <| .len rfl Tryz.underlying48 <| .gtr rfl rfl <| .nil) ?_
     clear Hz Az; intro Az Hz
     refine bool_cases Hz (t := 86) rfl ?_ ?_
     ·
      clear Hz; intro hb310 Hz
      try simp only [Q1x, Q2x, Q3x, Q4x, Q5x, Q6x, Q7x, Q8x, Q9x, Q0x, Qax, Qbx] at hb310
      refine wp_cond_true (Hz.ev (x := .tmp 86) rfl) ?_
      refine wp_region_lit ?_
      refine goCh Hz (.fieldAddr (off := 7) rfl Tryz.underlying32 rfl (s := 0) (by kernel_rfl) rfl <| .loadB1 m303 (i := 9) rfl rfl rfl Tryz.underlying26 rfl <| .fieldAddr (off := 0) rfl Tryz.underlying58 rfl (s := 0) (by kernel_rfl) rfl <| .loadB1 m303 (i := 101) rfl rfl rfl Tryz.underlying2 rfl <| .move rfl <| .build rfl zc58pu fl58pu rfl (by dsimp only [setL, List.set] <;> rfl) <| .nil) ?_
      clear Hz Az; intro Az Hz
      refine wpList_plain rfl (fun K hK => ?_)
      refine e_litR Hz m303 103 (mm := 2) rfl (.cons rfl rfl (.cons (.v _) (.cons (m303.rd (i := 102) rfl) .nil)) <| .nil) Tryz.underlying26 inf58pu rfl rfl rfl rfl rfl ?_
      clear Hz Az m303; intro g317 Az w318 Hz m318
      refine hK _ _ ?_; clear hK K
      have m320 := m318.freezeR 103 rfl; clear m318
      refine wpList_plain rfl (fun K hK => ?_)
      refine e_appR Hz m320 10 rfl rfl rfl (m320.rd (i := 103) rfl) Tryz.underlying26 inf58pu rfl rfl (by decide) (by have := push_len fi cnt (W2.take k); rw [List.length_take] at this; simp; omega) rfl ?_
      clear Hz Az m320; intro p319 c319 Az w321 Hz m321
      refine hK _ _ ?_; clear hK K
      refine goCh Hz (.fieldAddr (off := 7) rfl Tryz.underlying32 rfl (s := 0) (by kernel_rfl) rfl .nil) ?_
      clear Hz Az; intro Az Hz
      refine wpList_plain rfl (fun K hK => ?_)
      refine e_store1 Hz m321 9 rfl rfl rfl rfl rfl sz26pu (by dsimp only [List.set] <;> rfl) ?_
      clear m321; intro w323 m323 hB323
      clear hB323
      refine hK _ _ ?_; clear hK K
      refine wpList_nil ?_
      refine hK26 _ _ ?_; clear hK26; try clear K26
      replace Hz : Has 98 [(6, _), (8, _), (9, _), (73, _), (74, _), (75, _), (86, _)] Az := Hz.only [6, 8, 9, 73, 74, 75, 86]
      refine wp_region_lit ?_
      refine goCh Hz (.add rfl rfl (r := ((k + 1 : Nat) : Int)) (by rw [IntWalk.i64_in _ (by omega)]; omega) <| .move rfl <| .nil) ?_
      clear Hz Az; intro Az Hz
      refine wpList_nil ?_
      show ∃ n', n' < _ ∧ _
      have hE : (pushL fi cnt (W2.take k)).map wrD ++ [[D.v (.int .i64 xs), .l 2 ((itemsL fi cnt xl).map itD)]] = (pushL fi cnt (W2.take (k + 1))).map wrD := by rw [push_yes hes (by have h9 := hb310; rw [List.length_map] at h9; omega), List.map_append]; rfl
      rw [hE] at m323
      exact ⟨W2.length - (k + 1), by omega, k + 1, _, _, _, _, by omega, rfl, Hz.only [6, 8, 9, 73, 74, 75], m323.only [6, 9, 10]⟩
     ·
      clear Hz; intro hb310 Hz
      try simp only [Q1x, Q2x, Q3x, Q4x, Q5x, Q6x, Q7x, Q8x, Q9x, Q0x, Qax, Qbx] at hb310
      refine wp_cond_false (Hz.ev (x := .tmp 86) rfl) ?_
      refine wp_skip ?_
      refine hK26 _ _ ?_; clear hK26; try clear K26
      refine wp_region_lit ?_
      refine goCh Hz (.add rfl rfl (r := ((k + 1 : Nat) : Int)) (by rw [IntWalk.i64_in _ (by omega)]; omega) <| .move rfl <| .nil) ?_
      clear Hz Az; intro Az Hz
      refine wpList_nil ?_
      show ∃ n', n' < _ ∧ _
      have hE : (pushL fi cnt (W2.take k)) = pushL fi cnt (W2.take (k + 1)) := (push_no hes (by have h9 := hb310; rw [List.length_map] at h9; omega)).symm
      rw [hE] at m303
      exact ⟨W2.length - (k + 1), by omega, k + 1, _, _, _, _, by omega, rfl, Hz.only [6, 8, 9, 73, 74, 75], m303.only [6, 9, 10]⟩
    ·
     clear Hz; intro hb285 Hz
     try simp only [Q1x, Q2x, Q3x, Q4x, Q5x, Q6x, Q7x, Q8x, Q9x, Q0x, Qax, Qbx] at hb285
     obtain rfl : k = W2.length := by omega
     refine wp_cond_false (Hz.ev (x := .tmp 76) rfl) ?_
     refine wp_exit ?_
     refine hK23 _ _ ?_; clear hK23; try clear K23
     refine wp_seq_k (fun K29 hK29 => ?_)
     refine wp_region_lit ?_
     refine goCh Hz (.loadBR m283 (i := 9) rfl rfl Tryz.underlying32 rfl sz32pu (by simp) (by dsimp only [List.drop, List.take] <;> rfl) .nil) ?_
     clear Hz Az; intro Az Hz
     refine wpList_plain rfl (fun K hK => ?_)
     refine e_storeW Hz m283 6 rfl rfl rfl rfl rfl sz32pu ?_
     clear m283; intro w331 m331 hB331
     clear hB331
     refine hK _ _ ?_; clear hK K
     refine goCh Hz (.assign rfl .nil) ?_
     clear Hz Az; intro Az Hz
     refine wpList_nil ?_
     refine hK29 _ _ ?_; clear hK29; try clear K29
     refine wp_ret ?_
     try dsimp only [Exit.then, Exit.inBlock]
     refine (retCT (fn := Tryz.f8) Hz m331 (i := 6) rfl rfl rfl rfl Tryz.underlying32 rfl sz32pu ?_)
     rw [List.take_length] at *
     have m333 := m331.freezeR 10 rfl; clear m331
     rw [hW2]
     exact ⟨_, _, rfl, m333.outF (i := 10) rfl, m333.below⟩
  ·
   clear Hz; intro hb248 Hz
   try simp only [Q1x, Q2x, Q3x, Q4x, Q5x, Q6x, Q7x, Q8x, Q9x, Q0x, Qax, Qbx] at hb248
   obtain rfl : cnt = pe := hcnt.2 (by omega)
   refine wp_cond_false (Hz.ev (x := .tmp 56) rfl) ?_
   refine wp_skip ?_
   refine hK21 _ _ ?_; clear hK21; try clear K21
   replace Hz : Has 98 [(2, _), (3, _), (6, _), (7, _), (8, _), (9, _)] Az := Hz.only [2, 3, 6, 7, 8, 9]
   refine wp_seq_k (fun K30 hK30 => ?_)
   refine wp_region_lit ?_
   refine goCh Hz (.fieldAddr (off := 8) rfl Tryz.underlying28 rfl (s := 0) (by kernel_rfl) rfl <| .loadB1 m240 (i := 20) rfl rfl rfl Tryz.underlying2 rfl <| .fieldAddr (off := 5) rfl Tryz.underlying32 rfl (s := 0) (by kernel_rfl) rfl <| .loadB1 m240 (i := 22) rfl rfl rfl Tryz.underlying2 rfl <| .c rfl (fun _ h => y_min h rfl rfl rfl) <| .fieldAddr (off := 6) rfl Tryz.underlying32 rfl (s := 0) (by kernel_rfl) rfl <| .nil) ?_
   clear Hz Az; intro Az Hz
   refine wpList_plain rfl (fun K hK => ?_)
   refine e_store1 Hz m240 22 rfl rfl rfl rfl rfl sz2pu (by dsimp only [List.set] <;> rfl) ?_
   clear m240; intro w347 m347 hB347
   clear hB347
   refine hK _ _ ?_; clear hK K
   refine wpList_nil ?_
   refine hK30 _ _ ?_; clear hK30; try clear K30
   refine wp_seq_k (fun K31 hK31 => ?_)
   replace Hz : Has 98 [(2, _), (3, _), (6, _), (7, _), (8, _), (9, _)] Az := Hz.only [2, 3, 6, 7, 8, 9]
   refine wp_seq_k (fun K32 hK32 => ?_)
   refine wp_region_lit ?_
   refine goCh Hz (.fieldAddr (off := 10) rfl Tryz.underlying28 rfl (s := 0) (by kernel_rfl) rfl <| .loadB1 m347 (i := 20) rfl rfl rfl Tryz.underlying26 rfl <| .move rfl <| .fieldAddr (off := 5) rfl Tryz.underlying32 rfl (s := 0) (by kernel_rfl) rfl <| .loadB1 m347 (i := 22) rfl rfl rfl Tryz.underlying2 rfl <| .nil) ?_
   clear Hz Az; intro Az Hz
   obtain ⟨P2, hP2⟩ : ∃ x, (if cw = mk then pw else pw.map (·.add (mk * 2))) = x := ⟨_, rfl⟩
   obtain ⟨W2, hW2⟩ : ∃ x, (ws.take tq).drop mk = x := ⟨_, rfl⟩
   obtain ⟨C2, hC2⟩ : ∃ x, cw - mk = x := ⟨_, rfl⟩
   have hW2l : W2.length = tq - mk := by rw [← hW2, List.length_drop, List.length_take]; omega
   have hW2o : WrsOk W2 := fun e he => hok e (by rw [← hW2] at he; exact List.mem_of_mem_take (List.mem_of_mem_drop he))
   have h2b := (h2.takeL tq (by rw [List.length_map]; omega)).dropL mk (by rw [List.length_take, List.length_map]; omega)
   rw [hP2, hC2, ← List.map_take, ← List.map_drop, hW2, ← hW2l] at h2b
   refine goCh Hz (.c rfl (fun _ h => y_sliceLHn h mk tq rfl rfl rfl Tryz.underlying26 sz58pu rfl rfl (by omega) (by omega) hP2 hC2 hW2l.symm) <| .len rfl Tryz.underlying26 <| .move rfl <| .nil) ?_
   clear Hz Az; intro Az Hz
   refine wpList_nil ?_
   refine hK32 _ _ ?_; clear hK32; try clear K32
   refine wp_block ?_
   refine wp_loop_ghost (fun g a w => ∃ (k B B6 : Nat) (p : Option Addr) (c : Nat), k ≤ W2.length ∧ g = W2.length - k ∧ Has 98 [(6, .pointer (some ⟨B6, 0, none⟩)), (8, .int .i64 fi), (9, .pointer (some ⟨B, 0, none⟩)), (73, .slice P2 W2.length C2), (74, .int .i64 W2.length), (75, .int .i64 k)] a ∧ MemOk (cn w0) w0 [(6, .box B6 32 [.int .i64 0, .int .i64 0, .int .i64 0, .int .i64 0, .int .i64 0, .int .i64 0, .int .i64 0, .slice none 0 0]), (9, .box B 32 [.int .i64 vo, .int .i64 ch, .int .i64 cnt, .int .i64 sz, .int .i64 mk, .int .i64 tq, .int .i64 (min fl tq), .slice p ((pushL fi cnt (W2.take k)).map wrD).length c]), (10, .row (.slice p ((pushL fi cnt (W2.take k)).map wrD).length c) 58 2 ((pushL fi cnt (W2.take k)).map wrD))] w) (W2.length) ?_ ?_
   · have mz := m347.nilR 10 58 2
     exact ⟨0, _, _, _, _, Nat.zero_le _, rfl, Hz.only [6, 8, 9, 73, 74, 75], mz.ren [(6, 21), (9, 22), (10, 10)] (by decide)⟩
   ·
    clear Hz m347
    rintro g Az w362 ⟨k, B, B6, p, c, hkl, hg, Hz, m362⟩
    refine regS Hz (.lss rfl rfl <| .nil) ?_
    clear Hz Az; intro Az Hz
    refine wp_seq_k (fun K33 hK33 => ?_)
    refine bool_cases Hz (t := 76) rfl ?_ ?_
    ·
     clear Hz; intro hb364 Hz
     try simp only [Q1x, Q2x, Q3x, Q4x, Q5x, Q6x, Q7x, Q8x, Q9x, Q0x, Qax, Qbx] at hb364
     have hk : k < W2.length := by omega
     obtain ⟨⟨xs, xl⟩, hes⟩ : ∃ e, W2[k]? = some e := ⟨_, List.getElem?_eq_getElem hk⟩
     have hok2 := hW2o _ (List.mem_of_getElem? hes)
     dsimp only at hok2
     refine wp_cond_true (Hz.ev (x := .tmp 76) rfl) ?_
     refine wp_skip ?_
     refine hK33 _ _ ?_; clear hK33; try clear K33
     refine wp_seq_k (fun K34 hK34 => ?_)
     refine wp_block ?_
     refine wp_seq_k (fun K35 hK35 => ?_)
     refine wp_region_lit ?_
     obtain ⟨gx366, ox366, vx366, hp366, hl366, hR366, hrg366⟩ := h2b.extA (k) (r := [.v (.int .i64 xs), .l 2 (xl.map itD)]) (wrD_get hes)
     cases hp366; clear hl366
     rcases hR366 with _ | ⟨hd366_0, _ | ⟨hd366_1, _ | _⟩⟩
     obtain rfl := hd366_0.v_out
     clear hd366_0
     obtain ⟨p367, c367, hv367, hw367⟩ := hd366_1.l_shape; subst hv367
     refine goCh Hz (.c rfl (fun _ h => y_idx h rfl rfl Tryz.underlying26 sz58pu (k) rfl hk) <| .loadAt (hrg366 m362 rfl) rfl Tryz.underlying58 rfl sz58pu <| .nil) ?_
     clear Hz Az; intro Az Hz
     refine wpList_plain rfl (fun K hK => ?_)
     refine e_alloc Hz m362 101 zc58pu rfl ?_
     clear Hz Az m362; intro g370 Az w371 Hz m371 hB371 hg371
     clear hB371 hg371
     refine hK _ _ ?_; clear hK K
     refine wpList_plain rfl (fun K hK => ?_)
     refine e_storeW Hz m371 101 rfl rfl rfl rfl rfl sz58pu ?_
     clear m371; intro w372 m372 hB372
     clear hB372
     refine hK _ _ ?_; clear hK K
     refine wpList_nil ?_
     refine hK35 _ _ ?_; clear hK35; try clear K35
     refine wp_seq_k (fun K36 hK36 => ?_)
     refine wp_region_lit ?_
     refine goCh Hz (.loadBR m372 (i := 101) rfl rfl Tryz.underlying58 rfl sz58pu (by simp) (by dsimp only [List.drop, List.take] <;> rfl) <| .move rfl <| .fieldAddr (off := 2) rfl Tryz.underlying32 rfl (s := 0) (by kernel_rfl) rfl <| .loadB1 m372 (i := 9) rfl rfl rfl Tryz.underlying3 rfl <| .nil) ?_
     clear Hz Az; intro Az Hz
     refine wpList_plain rfl (fun K hK => ?_)
     refine e_call Hz Tryz.func26 rfl rfl rfl rfl (itemsOf_any fi cnt _ xl _ _ _ _ ((hd366_1.now' m372 rfl).any) hok2.1 hok2.2 hfb hcb) ?_
     rintro e w381 ⟨p381, c381, rfl, hd381, hb381⟩
     have m382 := m372.callF 102 rfl hb381 hd381
     clear m372
     clear hb381 hd381
     refine ⟨_, rfl, ?_⟩; clear Hz Az; intro Az Hz
     refine hK _ _ ?_; clear hK K
     refine goCh Hz (.assign rfl .nil) ?_
     clear Hz Az; intro Az Hz
     refine wpList_nil ?_
     refine hK36 _ _ ?_; clear hK36; try clear K36
     replace Hz : Has 98 [(6, _), (8, _), (9, _), (73, _), (74, _), (75, _), (11, _), (12, _)] Az := Hz.only [6, 8, 9, 73, 74, 75, 11, 12]
     refine regS Hz (.move rfl <| .len rfl Tryz.underlying48 <| .gtr rfl rfl <| .nil) ?_
     clear Hz Az; intro Az Hz
     refine bool_cases Hz (t := 86) rfl ?_ ?_
     ·
      clear Hz; intro hb389 Hz
      try simp only [Q1x, Q2x, Q3x, Q4x, Q5x, Q6x, Q7x, Q8x, Q9x, Q0x, Qax, Qbx] at hb389
      refine wp_cond_true (Hz.ev (x := .tmp 86) rfl) ?_
      refine wp_region_lit ?_
      refine goCh Hz (.fieldAddr (off := 7) rfl Tryz.underlying32 rfl (s := 0) (by kernel_rfl) rfl <| .loadB1 m382 (i := 9) rfl rfl rfl Tryz.underlying26 rfl <| .fieldAddr (off := 0) rfl Tryz.underlying58 rfl (s := 0) (by kernel_rfl) rfl <| .loadB1 m382 (i := 101) rfl rfl rfl Tryz.underlying2 rfl <| .move rfl <| .build rfl zc58pu fl58pu rfl (by dsimp only [setL, List.set] <;> rfl) <| .nil) ?_
      clear Hz Az; intro Az Hz
      refine wpList_plain rfl (fun K hK => ?_)
      refine e_litR Hz m382 103 (mm := 2) rfl (.cons rfl rfl (.cons (.v _) (.cons (m382.rd (i := 102) rfl) .nil)) <| .nil) Tryz.underlying26 inf58pu rfl rfl rfl rfl rfl ?_
      clear Hz Az m382; intro g396 Az w397 Hz m397
      refine hK _ _ ?_; clear hK K
      have m399 := m397.freezeR 103 rfl; clear m397
      refine wpList_plain rfl (fun K hK => ?_)
      refine e_appR Hz m399 10 rfl rfl rfl (m399.rd (i := 103) rfl) Tryz.underlying26 inf58pu rfl rfl (by decide) (by have := push_len fi cnt (W2.take k); rw [List.length_take] at this; simp; omega) rfl ?_
      clear Hz Az m399; intro p398 c398 Az w400 Hz m400
      refine hK _ _ ?_; clear hK K
      refine goCh Hz (.fieldAddr (off := 7) rfl Tryz.underlying32 rfl (s := 0) (by kernel_rfl) rfl .nil) ?_
      clear Hz Az; intro Az Hz
      refine wpList_plain rfl (fun K hK => ?_)
      refine e_store1 Hz m400 9 rfl rfl rfl rfl rfl sz26pu (by dsimp only [List.set] <;> rfl) ?_
      clear m400; intro w402 m402 hB402
      clear hB402
      refine hK _ _ ?_; clear hK K
      refine wpList_nil ?_
      refine hK34 _ _ ?_; clear hK34; try clear K34
      replace Hz : Has 98 [(6, _), (8, _), (9, _), (73, _), (74, _), (75, _), (86, _)] Az := Hz.only [6, 8, 9, 73, 74, 75, 86]
      refine wp_region_lit ?_
      refine goCh Hz (.add rfl rfl (r := ((k + 1 : Nat) : Int)) (by rw [IntWalk.i64_in _ (by omega)]; omega) <| .move rfl <| .nil) ?_
      clear Hz Az; intro Az Hz
      refine wpList_nil ?_
      show ∃ n', n' < _ ∧ _
      have hE : (pushL fi cnt (W2.take k)).map wrD ++ [[D.v (.int .i64 xs), .l 2 ((itemsL fi cnt xl).map itD)]] = (pushL fi cnt (W2.take (k + 1))).map wrD := by rw [push_yes hes (by have h9 := hb389; rw [List.length_map] at h9; omega), List.map_append]; rfl
      rw [hE] at m402
      exact ⟨W2.length - (k + 1), by omega, k + 1, _, _, _, _, by omega, rfl, Hz.only [6, 8, 9, 73, 74, 75], m402.only [6, 9, 10]⟩
     ·
      clear Hz; intro hb389 Hz
      try simp only [Q1x, Q2x, Q3x, Q4x, Q5x, Q6x, Q7x, Q8x, Q9x, Q0x, Qax, Qbx] at hb389
      refine wp_cond_false (Hz.ev (x := .tmp 86) rfl) ?_
      refine wp_skip ?_
      refine hK34 _ _ ?_; clear hK34; try clear K34
      refine wp_region_lit ?_
      refine goCh Hz (.add rfl rfl (r := ((k + 1 : Nat) : Int)) (by rw [IntWalk.i64_in _ (by omega)]; omega) <| .move rfl <| .nil) ?_
      clear Hz Az; intro Az Hz
      refine wpList_nil ?_
      show ∃ n', n' < _ ∧ _
      have hE : (pushL fi cnt (W2.take k)) = pushL fi cnt (W2.take (k + 1)) := (push_no hes (by have h9 := hb389; rw [List.length_map] at h9; omega)).symm
      rw [hE] at m382
      exact ⟨W2.length - (k + 1), by omega, k + 1, _, _, _, _, by omega, rfl, Hz.only [6, 8, 9, 73, 74, 75], m382.only [6, 9, 10]⟩
    ·
     clear Hz; intro hb364 Hz
     try simp only [Q1x, Q2x, Q3x, Q4x, Q5x, Q6x, Q7x, Q8x, Q9x, Q0x, Qax, Qbx] at hb364
     obtain rfl : k = W2.length := by omega
     refine wp_cond_false (Hz.ev (x := .tmp 76) rfl) ?_
     refine wp_exit ?_
     refine hK31 _ _ ?_; clear hK31; try clear K31
     refine wp_seq_k (fun K37 hK37 => ?_)
     refine wp_region_lit ?_
     refine goCh Hz (.loadBR m362 (i := 9) rfl rfl Tryz.underlying32 rfl sz32pu (by simp) (by dsimp only [List.drop, List.take] <;> rfl) .nil) ?_
     clear Hz Az; intro Az Hz
     refine wpList_plain rfl (fun K hK => ?_)
     refine e_storeW Hz m362 6 rfl rfl rfl rfl rfl sz32pu ?_
     clear m362; intro w410 m410 hB410
     clear hB410
     refine hK _ _ ?_; clear hK K
     refine goCh Hz (.assign rfl .nil) ?_
     clear Hz Az; intro Az Hz
     refine wpList_nil ?_
     refine hK37 _ _ ?_; clear hK37; try clear K37
     refine wp_ret ?_
     try dsimp only [Exit.then, Exit.inBlock]
     refine (retCT (fn := Tryz.f8) Hz m410 (i := 6) rfl rfl rfl rfl Tryz.underlying32 rfl sz32pu ?_)
     rw [List.take_length] at *
     have m412 := m410.freezeR 10 rfl; clear m410
     rw [hW2]
     exact ⟨_, _, rfl, m412.outF (i := 10) rfl, m412.below⟩
end Go.Proofs.YtocfbocdnklllaaGreat.K
