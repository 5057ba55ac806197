/- wal: Append refused; the law's own two records. -/
import Derived.Test.YtogjhjiapinmcaaDoorWalN
namespace Go.Proofs.YtogjhjiapinmcaaDoor.K
open Go.ChangeShapes Go.WideShapes Go.ChangeAt Go.RowKit
set_option linter.unusedVariables false
set_option linter.unusedSimpArgs false

theorem inf24wax : (Tryd.prog.info? 24).map (fun i => (i.zero, i.size, i.bytes)) = some (some (.slice none 0 0), 1, 24) := by kernel_rfl
theorem inf5wkn : (Tryd.prog.info? 5).map (fun i => (i.zero, i.size, i.bytes)) = some (some (.int .u8 0), 1, 1) := by kernel_rfl
theorem inf24wkn : (Tryd.prog.info? 24).map (fun i => (i.zero, i.size, i.bytes)) = some (some (.slice none 0 0), 1, 24) := by kernel_rfl
theorem sz24wkn : (Tryd.prog.info? 24).map (·.size) = some 1 := by kernel_rfl

set_option maxRecDepth 100000
set_option maxHeartbeats 4000000
theorem append_no (X : Cx) (K : Dk) {B S : Nat} (f to : Nat) (gn : Int) (b : List Int) (pb : Option Addr) (cb : Nat) (w0 : World) (hft : f ≤ to) (hno : to < f + (secN (recN b.length))) (hto : to ≤ 1000000) (hbl : b.length ≤ 9000) (h01 : 1 ≤ w0.heap.size) (m0 : MemOk X w0 [(1, K.rb B S), (2, K.ru), (3, K.rs S), (4, .dat (.slice pb b.length cb) (.ns .u8 b)), (5, tabR)] w0) :
   Calls Tryd.prog 11 #[.pointer (some ⟨B, 0, none⟩), .int .i64 f, .int .i64 to, .int .u64 gn, .slice pb b.length cb] w0 fun e w' => e = .returned (.tuple #[.int .i64 0, .int .i64 27]) ∧ MemOk X w0 [(1, K.rb B S), (2, K.ru), (3, K.rs S), (4, .dat (.slice pb b.length cb) (.ns .u8 b)), (5, tabR)] w' := by
 refine enter (fn := Tryd.f11) Tryd.func11 rfl Tryd.ntmps11 rfl (fun Az Hz => ?_)
 simp only [List.zipIdx_cons, List.zipIdx_nil, List.map_cons, List.map_nil, Nat.reduceAdd, Nat.zero_add] at Hz
 refine regS Hz (.assign rfl <| .assign rfl <| .nil) ?_
 clear Hz Az; intro Az Hz
 refine wp_seq_k (fun K0 hK0 => ?_)
 refine regS Hz (.move rfl <| .eqlP rfl rfl Tryd.underlying27 <| .nil) ?_
 clear Hz Az; intro Az Hz
 refine bool_cases Hz (t := 18) rfl ?_ ?_
 · intro hb _; exact absurd hb (by simp)
 clear Hz; intro _ Hz
 refine wp_cond_false (Hz.ev (x := .tmp 18) rfl) ?_
 refine wp_skip ?_
 refine hK0 _ _ ?_; clear hK0; try clear K0
 refine wp_seq_k (fun K1 hK1 => ?_)
 refine regS Hz (.move rfl <| .len rfl Tryd.underlying24 <| .gtr rfl rfl <| .nil) ?_
 clear Hz Az; intro Az Hz
 refine bool_cases Hz (t := 21) rfl ?_ ?_
 · intro hb _; exact absurd hb (by rw [decide_eq_true_eq]; omega)
 clear Hz; intro _ Hz
 refine wp_cond_false (Hz.ev (x := .tmp 21) rfl) ?_
 refine wp_skip ?_
 refine hK1 _ _ ?_; clear hK1; try clear K1
 refine wp_seq_k (fun K2 hK2 => ?_)
 refine wp_seq_k (fun K3 hK3 => ?_)
 refine wp_region_lit ?_
 refine goCh Hz (.move rfl <| .lss rfl rfl <| .move rfl <| .nil) ?_
 clear Hz Az; intro Az Hz
 refine bool_cases Hz (t := 24) rfl ?_ ?_
 · intro hb _; exact absurd hb (by rw [decide_eq_true_eq]; omega)
 clear Hz; intro _ Hz
 refine goCh Hz (.moveZ rfl <| .moveZ rfl <| .gtrZ rfl rfl <| .pickF rfl rfl <| .move rfl <| .nil) ?_
 clear Hz Az; intro Az Hz
 refine bool_cases Hz (t := 29) rfl ?_ ?_
 · intro hb _; exact absurd hb (by rw [decide_eq_true_eq]; omega)
 clear Hz; intro _ Hz
 refine goCh Hz (.moveZ rfl .nil) ?_
 clear Hz Az; intro Az Hz
 refine st_ge Hz rfl rfl rfl rfl (fun K hK => ?_)
 refine e_litR Hz m0 20 (mm := 1) rfl (.cons rfl rfl (.cons (m0.rd (i := 4) rfl) .nil) <| .nil) Tryd.underlying22 inf24wax rfl rfl rfl rfl rfl ?_
 clear Hz Az m0; intro g24 Az w25 Hz m25
 refine hK _ _ ?_; clear hK K
 have m26 := m25.freezeR 20 rfl; clear m25
 refine st_ge Hz rfl rfl rfl rfl (fun K hK => ?_)
 refine e_call Hz Tryd.func13 rfl rfl rfl rfl (need_x [b] _ _ _ (m26.rd (i := 20) rfl).any (by simp) (by simp; omega)) ?_
 rintro e w27 ⟨rfl, hb27⟩
 have m28 := m26.later hb27
 clear m26
 clear hb27
 refine ⟨_, rfl, ?_⟩; clear Hz Az; intro Az Hz
 refine hK _ _ ?_; clear hK K
 refine goCh Hz (.moveZ rfl <| .moveZ rfl <| .subZ rfl rfl (r := (to : Int) - f) (IntWalk.i64_in _ (by omega)) <| .gtrZ rfl rfl <| .pickF rfl rfl <| .nil) ?_
 clear Hz Az; intro Az Hz
 refine wpList_nil ?_
 refine hK3 _ _ ?_; clear hK3; try clear K3
 refine bool_cases Hz (t := 37) rfl ?_ ?_
 rotate_left
 · intro hb _; exact absurd hb (by rw [decide_eq_false_iff_not, Decidable.not_not]; simp only [needN]; omega)
 clear Hz; intro _ Hz
 refine wp_cond_true (Hz.ev (x := .tmp 37) rfl) ?_
 replace Hz : Has 67 [(0, _), (1, _), (3, _), (4, _), (10, _), (11, _)] Az := Hz.only [0, 1, 3, 4, 10, 11]
 refine regS Hz (.assign rfl <| .assign rfl <| .nil) ?_
 clear Hz Az; intro Az Hz
 refine wp_ret ?_
 try dsimp only [Exit.then, Exit.inBlock]
 refine (ret2 (fn := Tryd.f11) Hz rfl rfl rfl ?_)
 exact ⟨rfl, m28.only [1, 2, 3, 4, 5]⟩
theorem append_v (X : Cx) (K : Dk) {B S : Nat} (f to : Nat) (gn : Int) (b : List Int) (pb : Option Addr) (cb : Nat) (w0 : World) {N q : Nat} (hN : (secN (recN b.length)) = N) (hq : f + N = q) (hK : K.ok B S) (hl : K.l = -1) (hn : K.uns.length ≤ 1000000) (hft : q ≤ to) (hts : q ≤ K.secs.length) (hto : to ≤ 1000000) (hbb : BytesL b) (hbl : b.length ≤ 9000) (h01 : 1 ≤ w0.heap.size) (m0 : MemOk X w0 [(1, K.rb B S), (2, K.ru), (3, K.rs S), (4, .dat (.slice pb b.length cb) (.ns .u8 b)), (5, tabR)] w0) :
   Calls Tryd.prog 11 #[.pointer (some ⟨B, 0, none⟩), .int .i64 f, .int .i64 to, .int .u64 gn, .slice pb b.length cb] w0 fun e w' => e = .returned (.tuple #[.int .i64 q, .int .i64 0]) ∧ ∃ K9 : Dk, K9.ok B S ∧ K9.l = -1 ∧ K9.secs = putK K.secs f gn (recV b) N ∧ K9.uns = unsK K.secs K.uns f gn (recV b) N ∧ MemOk X w0 [(1, K9.rb B S), (2, K9.ru), (3, K9.rs S), (4, .dat (.slice pb b.length cb) (.ns .u8 b)), (5, tabR)] w' := by
 subst hN; subst hq
 refine (append_x X K f to gn b pb cb w0 hK hl hn hft hts hto hbb hbl h01 m0).mono fun e w' h => h
theorem kdnew (i : Int) (n : Nat) (hi : i = n) (hn : n ≤ 1048576) (w : World) :
   Calls Tryd.prog 8 #[.int .i64 i] w fun e w' => ∃ B S, e = .returned (.pointer (some ⟨B, 0, none⟩)) ∧ w.heap.size ≤ S ∧ IsDisk w' B S (.slice none 0 0) (List.replicate n zeros) [] (-1) ∧ Below w.heap.size w w' := by
 subst hi; exact new_disk n w hn
theorem MemOk.addTab {X : Cx} {M : Mm} {w0 w : World} (m : MemOk X w0 M w) (i : Nat) (hi : lk M i = none) (hT : TabOk w) (h1 : 1 ≤ w.heap.size) (hF : Free X M 0) : MemOk X w0 ((i, tabR) :: M) w :=
 m.upd i _ (Keep.refl _ _) (fun b hb => by cases hb) (fun hf _ => ⟨hf 0 h1 hF, h1, fun j v hv => by
   have hj : j < 16 := by
     have := (List.getElem?_eq_some_iff.1 hv).1
     rw [List.length_map] at this; exact this
   rw [Nat.zero_add, hT j hj]
   rw [List.getElem?_map] at hv
   rw [List.getD]
   cases hq : tab[j]? with
   | none => rw [hq] at hv; cases hv
   | some x => rw [hq] at hv; simpa using hv⟩)
theorem scan_v {B S : Nat} {vu : Value} {secs : List (List Int)} {uns : List Un} {l : Int} {L : List (List Int)} {o : Int} (f0 to gn : Int) (w0 : World) (hD : IsDisk w0 B S vu secs uns l) (hT : TabOk w0) (h01 : 1 ≤ w0.heap.size) (hf0 : -1000000000 ≤ f0) (hf1 : f0 ≤ 1000000000) (ht0 : -9223372036854775808 ≤ to) (ht1 : to ≤ 9223372036854775807) (hsl : secs.length ≤ 100) (hV : scanF secs to gn (to - f0).toNat f0 = (L, o)) :
   Calls Tryd.prog 15 #[.pointer (some ⟨B, 0, none⟩), .int .i64 f0, .int .i64 to, .int .u64 gn] w0 fun e w' => ∃ (p : Option Addr) (c : Nat), e = .returned (.tuple #[.slice p L.length c, .int .i64 o]) ∧ Rd (New w0) w' (.slice p L.length c) (.l 1 (L.map bD)) ∧ Below w0.heap.size w0 w' := by
 have h := scan_x f0 to gn w0 hD hT h01 hf0 hf1 ht0 ht1 hsl
 rw [hV] at h
 exact h
theorem need_v {N : Nat} (ls : List (List Int)) (q : Option Addr) (cq : Nat) (w0 : World) (hN : needN ls = N) (h0 : Rd (fun _ => True) w0 (.slice q ls.length cq) (.l 1 (ls.map bD))) (hl : ls.length ≤ 1000) (hb : ∀ l ∈ ls, l.length ≤ 1000000) :
   Calls Tryd.prog 13 #[.slice q ls.length cq] w0 fun e w' => e = .returned (.int .i64 (N : Int)) ∧ Below w0.heap.size w0 w' := by
 subst hN; exact need_x ls q cq w0 h0 hl hb
theorem known_scan {s1 s2 : List (List Int)} (hS1 : s1 = putK (List.replicate 9 zeros) 2 7 (recV [97, 98]) 1) (hS2 : s2 = putK s1 3 7 (recV (List.replicate 100 (0 : Int))) 3) : scanF s2 9 7 ((9 : Int) - 2).toNat 2 = ([[97, 98], (List.replicate 100 (0 : Int))], 6) ∧ scanF s2 9 8 ((9 : Int) - 2).toNat 2 = ([], 2) := by
 have hab : secN (recN ([97, 98] : List Int).length) = 1 := by decide +kernel
 have hhu : secN (recN (List.replicate 100 (0 : Int)).length) = 3 := by decide +kernel
 have A : recAt s1 7 2 [97, 98] := by
   have h := recAt_put (secs := (List.replicate 9 zeros)) (f := 2) (gn := 7) (b := [97, 98]) (by rw [hab]; simp)
   rw [hab] at h; rw [hS1]; exact h
 have B : recAt s2 7 2 [97, 98] := by rw [hS2]; exact recAt_keep A (by rw [hab]; omega)
 have C : recAt s2 7 3 (List.replicate 100 (0 : Int)) := by
   have h := recAt_put (secs := s1) (f := 3) (gn := 7) (b := (List.replicate 100 (0 : Int))) (by rw [hhu, hS1, putK_len]; simp)
   rw [hhu] at h; rw [hS2]; exact h
 have hn : needN [[97, 98], (List.replicate 100 (0 : Int))] = 4 := by decide +kernel
 have hz : s2.getD 6 [] = zeros := by rw [hS2, putK_out (by omega), hS1, putK_out (by omega)]; rfl
 constructor
 · have h := scan_recs (secs := s2) (gn := 7) (to := 9) (bs := [[97, 98], (List.replicate 100 (0 : Int))]) (f := 2) (m := 7) ⟨B, by rw [hab]; exact C, trivial⟩ (by simp) (by rw [hn]; omega) (by omega) (by rw [hn]; exact .inl (readV_zero hz))
   rw [hn] at h
   exact h
 · have h0 := (B 0 (by rw [hab]; omega)).2
   exact scanF_none (by omega) (readV_pnone (partV_other (i := 2) h0 (by decide)))
theorem known_x (w0 : World) (hT : TabOk w0) (h01 : 1 ≤ w0.heap.size) :
   Calls Tryd.prog 7 #[] w0 fun e w' => e = .returned (.bool true) ∧ Below w0.heap.size w0 w' := by
 refine enter (fn := Tryd.f7) Tryd.func7 rfl Tryd.ntmps7 rfl (fun Az Hz => ?_)
 simp only [List.zipIdx_cons, List.zipIdx_nil, List.map_cons, List.map_nil, Nat.reduceAdd, Nat.zero_add] at Hz
 have m00 := MemOk.start (fun _ => True) w0
 have m0 := m00.addTab 5 rfl hT h01 ⟨fun _ => trivial, fun ⟨i, r, h, _⟩ => by cases h⟩
 refine regS Hz (.assign rfl <| .nil) ?_
 clear Hz Az; intro Az Hz
 refine wp_seq_k (fun K0 hK0 => ?_)
 refine wp_region_lit ?_
 refine wpList_plain rfl (fun K hK => ?_)
 refine e_call Hz Tryd.func8 rfl rfl rfl rfl (kdnew 9 9 rfl (by omega) _) ?_
 rintro e w2 ⟨B9, S9, rfl, hS2, hD2, hb2⟩
 obtain ⟨hKd, md2⟩ := m0.newD 20 hb2 hS2 hD2
 clear hb2 hS2 hD2
 refine ⟨_, rfl, ?_⟩; clear Hz Az; intro Az Hz
 refine hK _ _ ?_; clear hK K
 have m4 : MemOk _ _ [(20, Dk.rb ⟨.slice none 0 0, [], (List.replicate 9 zeros), [], -1⟩ B9 S9), (21, Dk.ru ⟨.slice none 0 0, [], (List.replicate 9 zeros), [], -1⟩), (22, Dk.rs ⟨.slice none 0 0, [], (List.replicate 9 zeros), [], -1⟩ S9), (5, tabR)] _ := md2; clear md2 m0
 refine goCh Hz (.assign rfl .nil) ?_
 clear Hz Az; intro Az Hz
 refine wpList_nil ?_
 refine hK0 _ _ ?_; clear hK0; try clear K0
 refine wp_seq_k (fun K1 hK1 => ?_)
 refine regS Hz (.move rfl <| .eqlP rfl rfl Tryd.underlying27 <| .nil) ?_
 clear Hz Az; intro Az Hz
 refine bool_cases Hz (t := 14) rfl ?_ ?_
 · intro hb _; exact absurd hb (by simp)
 clear Hz; intro _ Hz
 refine wp_cond_false (Hz.ev (x := .tmp 14) rfl) ?_
 refine wp_skip ?_
 refine hK1 _ _ ?_; clear hK1; try clear K1
 refine wp_seq_k (fun K2 hK2 => ?_)
 refine wp_region_lit ?_
 refine goCh Hz (.move rfl .nil) ?_
 clear Hz Az; intro Az Hz
 refine wpList_plain rfl (fun K hK => ?_)
 refine e_litN Hz m4 30 (k := .u8) rfl rfl Tryd.underlying24 inf5wkn rfl rfl rfl rfl ?_
 clear Hz Az m4; intro g11 Az w12 Hz m12
 refine hK _ _ ?_; clear hK K
 refine wpList_plain rfl (fun K hK => ?_)
 refine e_cvN Hz m12 30 rfl rfl Tryd.underlying24 Tryd.underlying5 rfl ?_
 clear Hz Az m12; intro  Az w13 Hz m13
 refine hK _ _ ?_; clear hK K
 refine wpList_plain rfl (fun K hK => ?_)
 refine e_call Hz Tryd.func11 rfl rfl rfl rfl (append_v _ (⟨.slice none 0 0, [], (List.replicate 9 zeros), [], -1⟩ : Dk) 2 9 7 [97, 98] _ _ _ (N := 1) (q := 3) (by decide) rfl hKd rfl (by simp) (by omega) (by simp) (by omega) (by unfold BytesL; simp) (by simp) (Nat.le_trans h01 m13.keep.2.2.2.1) (m13.into [(1, 20), (2, 21), (3, 22), (4, 30), (5, 5)] (by decide) (passD rfl))) ?_
 rintro e w14 ⟨rfl, Ka, hKa, hl1, hS1, hU1, hm14⟩
 have mx14 := m13.back hm14 [(20, 1), (21, 2), (22, 3), (30, 4), (5, 5)] (by decide); clear hm14 m13
 have m14 : MemOk _ _ [(20, _), (21, _), (22, _), (30, _), (5, _)] _ := mx14.only [20, 21, 22, 30, 5]; clear mx14
 refine ⟨_, rfl, ?_⟩; clear Hz Az; intro Az Hz
 refine hK _ _ ?_; clear hK K
 refine goCh Hz (.move rfl <| .extract rfl rfl <| .extract rfl rfl <| .assign rfl <| .assign rfl <| .nil) ?_
 clear Hz Az; intro Az Hz
 refine wpList_nil ?_
 refine hK2 _ _ ?_; clear hK2; try clear K2
 replace Hz : Has 97 [(0, _), (1, _), (2, _), (3, _)] Az := Hz.only [0, 1, 2, 3]
 refine wp_seq_k (fun K3 hK3 => ?_)
 refine wp_region_lit ?_
 refine goCh Hz (.move rfl <| .move rfl <| .nil) ?_
 clear Hz Az; intro Az Hz
 refine wpList_plain rfl (fun K hK => ?_)
 refine e_makeN Hz m14 31 (100) rfl rfl rfl rfl Tryd.underlying24 inf5wkn (by decide) (by omega) rfl ?_
 clear Hz Az m14; intro p26 c26 Az w27 Hz m27
 refine hK _ _ ?_; clear hK K
 have m28 := m27.freezeN 31 rfl; clear m27
 refine wpList_plain rfl (fun K hK => ?_)
 refine e_call Hz Tryd.func11 rfl rfl rfl rfl (append_v _ Ka 3 9 7 (List.replicate 100 (0 : Int)) _ _ _ (N := 3) (q := 6) (by decide +kernel) rfl hKa hl1 (by rw [hU1]; simp [unsK]) (by omega) (by rw [hS1, putK_len]; simp) (by omega) (fun x hx => by rw [List.eq_of_mem_replicate hx]; omega) (by simp) (Nat.le_trans h01 m28.keep.2.2.2.1) (m28.into [(1, 20), (2, 21), (3, 22), (4, 31), (5, 5)] (by decide) (passD rfl))) ?_
 rintro e w29 ⟨rfl, Kb, hKb, hl2, hS2, hU2, hm29⟩
 have mx29 := m28.back hm29 [(20, 1), (21, 2), (22, 3), (31, 4), (5, 5)] (by decide); clear hm29 m28
 have m29 : MemOk _ _ [(20, _), (21, _), (22, _), (31, _), (5, _), (30, _)] _ := mx29.only [20, 21, 22, 31, 5, 30]; clear mx29
 refine ⟨_, rfl, ?_⟩; clear Hz Az; intro Az Hz
 refine hK _ _ ?_; clear hK K
 refine goCh Hz (.move rfl <| .extract rfl rfl <| .extract rfl rfl <| .assign rfl <| .assign rfl <| .nil) ?_
 clear Hz Az; intro Az Hz
 refine wpList_nil ?_
 refine hK3 _ _ ?_; clear hK3; try clear K3
 replace Hz : Has 97 [(0, _), (1, _), (2, _), (3, _), (4, _), (5, _)] Az := Hz.only [0, 1, 2, 3, 4, 5]
 refine wp_seq_k (fun K4 hK4 => ?_)
 refine wp_region_lit ?_
 refine goCh Hz (.move rfl <| .move rfl <| .nil) ?_
 clear Hz Az; intro Az Hz
 refine wpList_plain rfl (fun K hK => ?_)
 refine e_makeN Hz m29 32 (100) rfl rfl rfl rfl Tryd.underlying24 inf5wkn (by decide) (by omega) rfl ?_
 clear Hz Az m29; intro p41 c41 Az w42 Hz m42
 refine hK _ _ ?_; clear hK K
 have m43 := m42.freezeN 32 rfl; clear m42
 refine wpList_plain rfl (fun K hK => ?_)
 refine e_call Hz Tryd.func11 rfl rfl rfl rfl (append_no _ Kb 6 8 7 (List.replicate 100 (0 : Int)) _ _ _ (by omega) (by rw [show secN (recN (List.replicate 100 (0 : Int)).length) = 3 from by decide +kernel]; omega) (by omega) (by simp) (Nat.le_trans h01 m43.keep.2.2.2.1) (m43.into [(1, 20), (2, 21), (3, 22), (4, 32), (5, 5)] (by decide) (passD rfl))) ?_
 rintro e w44 ⟨rfl, hm44⟩
 have mx44 := m43.back hm44 [(20, 1), (21, 2), (22, 3), (32, 4), (5, 5)] (by decide); clear hm44 m43
 have m44 : MemOk _ _ [(20, _), (21, _), (22, _), (32, _), (5, _), (30, _), (31, _)] _ := mx44.only [20, 21, 22, 32, 5, 30, 31]; clear mx44
 refine ⟨_, rfl, ?_⟩; clear Hz Az; intro Az Hz
 refine hK _ _ ?_; clear hK K
 refine goCh Hz (.move rfl <| .extract rfl rfl <| .extract rfl rfl <| .assign rfl <| .assign rfl <| .nil) ?_
 clear Hz Az; intro Az Hz
 refine wpList_nil ?_
 refine hK4 _ _ ?_; clear hK4; try clear K4
 refine wp_seq_k (fun K5 hK5 => ?_)
 obtain ⟨hV0, hV1⟩ := known_scan hS1 hS2
 ·
  replace Hz : Has 97 [(0, _), (1, _), (2, _), (3, _), (4, _), (5, _), (7, _)] Az := Hz.only [0, 1, 2, 3, 4, 5, 7]
  refine wp_region_lit ?_
  refine goCh Hz (.move rfl .nil) ?_
  clear Hz Az; intro Az Hz
  refine wpList_plain rfl (fun K hK => ?_)
  refine e_call Hz Tryd.func15 rfl rfl rfl rfl (scan_v (L := [[97, 98], (List.replicate 100 (0 : Int))]) (o := 6) 2 9 7 _ (Dk.is hKb m44 (i := 20) (j := 21) (k := 22) rfl rfl rfl) (m44.tabr (i := 5) rfl) (Nat.le_trans h01 m44.keep.2.2.2.1) (by omega) (by omega) (by omega) (by omega) (by rw [hS2, putK_len, hS1, putK_len]; simp) hV0) ?_
  rintro e w53 ⟨p53, c53, rfl, hd53, hb53⟩
  have m54 := m44.callF 33 rfl hb53 hd53
  clear m44
  clear hb53 hd53
  refine ⟨_, rfl, ?_⟩; clear Hz Az; intro Az Hz
  refine hK _ _ ?_; clear hK K
  refine goCh Hz (.move rfl <| .extract rfl rfl <| .extract rfl rfl <| .assign rfl <| .assign rfl <| .nil) ?_
  clear Hz Az; intro Az Hz
  refine wpList_nil ?_
  refine hK5 _ _ ?_; clear hK5; try clear K5
  refine wp_seq_k (fun K6 hK6 => ?_)
  refine wp_region_lit ?_
  refine goCh Hz (.move rfl .nil) ?_
  clear Hz Az; intro Az Hz
  refine wpList_plain rfl (fun K hK => ?_)
  refine e_call Hz Tryd.func15 rfl rfl rfl rfl (scan_v (L := []) (o := 2) 2 9 8 _ (Dk.is hKb m54 (i := 20) (j := 21) (k := 22) rfl rfl rfl) (m54.tabr (i := 5) rfl) (Nat.le_trans h01 m54.keep.2.2.2.1) (by omega) (by omega) (by omega) (by omega) (by rw [hS2, putK_len, hS1, putK_len]; simp) hV1) ?_
  rintro e w63 ⟨p63, c63, rfl, hd63, hb63⟩
  have m64 := m54.callF 34 rfl hb63 hd63
  clear m54
  clear hb63 hd63
  refine ⟨_, rfl, ?_⟩; clear Hz Az; intro Az Hz
  refine hK _ _ ?_; clear hK K
  refine goCh Hz (.move rfl <| .extract rfl rfl <| .extract rfl rfl <| .assign rfl <| .assign rfl <| .nil) ?_
  clear Hz Az; intro Az Hz
  refine wpList_nil ?_
  refine hK6 _ _ ?_; clear hK6; try clear K6
  replace Hz : Has 97 [(0, _), (2, _), (3, _), (4, _), (5, _), (7, _), (8, _), (9, _), (10, _), (11, _)] Az := Hz.only [0, 2, 3, 4, 5, 7, 8, 9, 10, 11]
  refine wp_seq_k (fun K7 hK7 => ?_)
  refine wp_region_lit ?_
  refine goCh Hz (.move rfl <| .eql rfl rfl <| .move rfl <| .nil) ?_
  clear Hz Az; intro Az Hz
  refine bool_cases Hz (t := 48) rfl ?_ ?_
  rotate_left
  · intro hb _; exact absurd hb (by first | decide | (simp; done) | (intro h; revert h; first | decide | (exact fun h => by cases h)) | exact (fun h => absurd (h.symm.trans (by kernel_rfl : _ = true)) (by decide)))
  clear Hz; intro _ Hz
  refine goCh Hz (.moveZ rfl <| .eqlZ rfl rfl <| .pickT rfl rfl <| .move rfl <| .nil) ?_
  clear Hz Az; intro Az Hz
  refine bool_cases Hz (t := 52) rfl ?_ ?_
  rotate_left
  · intro hb _; exact absurd hb (by first | decide | (simp; done) | (intro h; revert h; first | decide | (exact fun h => by cases h)) | exact (fun h => absurd (h.symm.trans (by kernel_rfl : _ = true)) (by decide)))
  clear Hz; intro _ Hz
  refine goCh Hz (.moveZ rfl <| .eqlZ rfl rfl <| .pickT rfl rfl <| .move rfl <| .nil) ?_
  clear Hz Az; intro Az Hz
  refine bool_cases Hz (t := 56) rfl ?_ ?_
  rotate_left
  · intro hb _; exact absurd hb (by first | decide | (simp; done) | (intro h; revert h; first | decide | (exact fun h => by cases h)) | exact (fun h => absurd (h.symm.trans (by kernel_rfl : _ = true)) (by decide)))
  clear Hz; intro _ Hz
  refine goCh Hz (.moveZ rfl <| .eqlZ rfl rfl <| .pickT rfl rfl <| .move rfl <| .nil) ?_
  clear Hz Az; intro Az Hz
  refine bool_cases Hz (t := 60) rfl ?_ ?_
  rotate_left
  · intro hb _; exact absurd hb (by first | decide | (simp; done) | (intro h; revert h; first | decide | (exact fun h => by cases h)) | exact (fun h => absurd (h.symm.trans (by kernel_rfl : _ = true)) (by decide)))
  clear Hz; intro _ Hz
  refine goCh Hz (.moveZ rfl <| .eqlZ rfl rfl <| .pickT rfl rfl <| .move rfl <| .nil) ?_
  clear Hz Az; intro Az Hz
  refine bool_cases Hz (t := 64) rfl ?_ ?_
  rotate_left
  · intro hb _; exact absurd hb (by first | decide | (simp; done) | (intro h; revert h; first | decide | (exact fun h => by cases h)) | exact (fun h => absurd (h.symm.trans (by kernel_rfl : _ = true)) (by decide)))
  clear Hz; intro _ Hz
  refine goCh Hz (.moveZ rfl <| .lenZ rfl Tryd.underlying22 <| .eqlZ rfl rfl <| .pickT rfl rfl <| .move rfl <| .nil) ?_
  clear Hz Az; intro Az Hz
  refine bool_cases Hz (t := 69) rfl ?_ ?_
  rotate_left
  · intro hb _; exact absurd hb (by first | decide | (simp; done) | (intro h; revert h; first | decide | (exact fun h => by cases h)) | exact (fun h => absurd (h.symm.trans (by kernel_rfl : _ = true)) (by decide)))
  clear Hz; intro _ Hz
  refine goCh Hz (.moveZ rfl .nil) ?_
  clear Hz Az; intro Az Hz
  obtain ⟨b106, o106, vs106, hp106, hR106, ho106, m106⟩ := m64.openR (i := 33) rfl (0) (r := bD [97, 98]) rfl 35 rfl
  cases hp106; clear m64 ho106
  rcases hR106 with _ | ⟨hd106_0, _ | _⟩
  obtain ⟨p107, c107, hv107, hc107⟩ := hd106_0.ns_shape; subst hv107
  have m107 := m106.dat 36 rfl (hd106_0.cast (fun _ h => (free_add rfl h))); clear m106 hd106_0
  refine goCh Hz (.g rfl rfl rfl rfl (fun _ h => y_idx h rfl rfl Tryd.underlying22 sz24wkn (0) rfl (by simp)) <| .loadC0Z m107 (i := 35) rfl rfl Tryd.underlying24 rfl <| .strZ rfl (m107.nums (i := 36) rfl) Tryd.underlying24 Tryd.underlying5 Tryd.underlying9 <| .eqlSZ rfl rfl <| .pickT rfl rfl <| .move rfl <| .nil) ?_
  clear Hz Az; intro Az Hz
  refine bool_cases Hz (t := 76) rfl ?_ ?_
  rotate_left
  · intro hb _; exact absurd hb (by first | decide | (simp; done) | (intro h; revert h; first | decide | (exact fun h => by cases h)) | exact (fun h => absurd (h.symm.trans (by kernel_rfl : _ = true)) (by decide)))
  clear Hz; intro _ Hz
  refine goCh Hz (.moveZ rfl <| .eqlZ rfl rfl <| .pickT rfl rfl <| .move rfl <| .nil) ?_
  clear Hz Az; intro Az Hz
  refine bool_cases Hz (t := 80) rfl ?_ ?_
  rotate_left
  · intro hb _; exact absurd hb (by first | decide | (simp; done) | (intro h; revert h; first | decide | (exact fun h => by cases h)) | exact (fun h => absurd (h.symm.trans (by kernel_rfl : _ = true)) (by decide)))
  clear Hz; intro _ Hz
  refine goCh Hz (.moveZ rfl <| .lenZ rfl Tryd.underlying22 <| .eqlZ rfl rfl <| .pickT rfl rfl <| .move rfl <| .nil) ?_
  clear Hz Az; intro Az Hz
  refine bool_cases Hz (t := 85) rfl ?_ ?_
  rotate_left
  · intro hb _; exact absurd hb (by first | decide | (simp; done) | (intro h; revert h; first | decide | (exact fun h => by cases h)) | exact (fun h => absurd (h.symm.trans (by kernel_rfl : _ = true)) (by decide)))
  clear Hz; intro _ Hz
  refine goCh Hz (.moveZ rfl <| .eqlZ rfl rfl <| .pickT rfl rfl <| .move rfl <| .nil) ?_
  clear Hz Az; intro Az Hz
  refine bool_cases Hz (t := 89) rfl ?_ ?_
  rotate_left
  · intro hb _; exact absurd hb (by first | decide | (simp; done) | (intro h; revert h; first | decide | (exact fun h => by cases h)) | exact (fun h => absurd (h.symm.trans (by kernel_rfl : _ = true)) (by decide)))
  clear Hz; intro _ Hz
  refine st_ge Hz rfl rfl rfl rfl (fun K hK => ?_)
  refine e_litN Hz m107 37 (k := .u8) rfl rfl Tryd.underlying24 inf5wkn rfl rfl rfl rfl ?_
  clear Hz Az m107; intro g131 Az w132 Hz m132
  refine hK _ _ ?_; clear hK K
  refine st_ge Hz rfl rfl rfl rfl (fun K hK => ?_)
  refine e_cvN Hz m132 37 rfl rfl Tryd.underlying24 Tryd.underlying5 rfl ?_
  clear Hz Az m132; intro  Az w133 Hz m133
  refine hK _ _ ?_; clear hK K
  refine st_ge Hz rfl rfl rfl rfl (fun K hK => ?_)
  refine e_makeN Hz m133 38 (100) rfl rfl rfl rfl Tryd.underlying24 inf5wkn (by decide) (by omega) rfl ?_
  clear Hz Az m133; intro p134 c134 Az w135 Hz m135
  refine hK _ _ ?_; clear hK K
  have m137 := m135.freezeN 38 rfl; clear m135
  refine st_ge Hz rfl rfl rfl rfl (fun K hK => ?_)
  refine e_litR Hz m137 39 (mm := 1) rfl (.cons rfl rfl (.cons (m137.rd (i := 37) rfl) .nil) <| .cons rfl rfl (.cons (m137.rd (i := 38) rfl) .nil) <| .nil) Tryd.underlying22 inf24wkn rfl rfl rfl rfl rfl ?_
  clear Hz Az m137; intro g136 Az w138 Hz m138
  refine hK _ _ ?_; clear hK K
  have m139 := m138.freezeR 39 rfl; clear m138
  refine st_ge Hz rfl rfl rfl rfl (fun K hK => ?_)
  refine e_call Hz Tryd.func13 rfl rfl rfl rfl (need_v (N := 4) [[97, 98], (List.replicate 100 (0 : Int))] _ _ _ (by decide +kernel) (m139.rd (i := 39) rfl).any (by simp) (by simp)) ?_
  rintro e w140 ⟨rfl, hb140⟩
  have m141 := m139.later hb140
  clear m139
  clear hb140
  refine ⟨_, rfl, ?_⟩; clear Hz Az; intro Az Hz
  refine hK _ _ ?_; clear hK K
  refine goCh Hz (.eqlZ rfl rfl <| .pickT rfl rfl <| .assign rfl <| .nil) ?_
  clear Hz Az; intro Az Hz
  refine wpList_nil ?_
  refine hK7 _ _ ?_; clear hK7; try clear K7
  refine wp_ret ?_
  try dsimp only [Exit.then, Exit.inBlock]
  refine (ret1 (fn := Tryd.f7) Hz rfl rfl ?_)
  exact ⟨by first | rfl | simp, m141.below⟩
end Go.Proofs.YtogjhjiapinmcaaDoor.K
