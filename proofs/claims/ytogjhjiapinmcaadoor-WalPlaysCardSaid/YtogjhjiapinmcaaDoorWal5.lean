/- wal: Append, of a record that there is room for. -/
import Derived.Test.YtogjhjiapinmcaaDoorWal4
namespace Go.Proofs.YtogjhjiapinmcaaDoor.K
open Go.ChangeShapes Go.WideShapes Go.ChangeAt Go.RowKit
set_option linter.unusedVariables false
set_option linter.unusedSimpArgs false

theorem inf5wap : (Tryd.prog.info? 5).map (fun i => (i.zero, i.size, i.bytes)) = some (some (.int .u8 0), 1, 1) := by kernel_rfl
theorem inf24wap : (Tryd.prog.info? 24).map (fun i => (i.zero, i.size, i.bytes)) = some (some (.slice none 0 0), 1, 24) := by kernel_rfl
theorem sz5wap : (Tryd.prog.info? 5).map (·.size) = some 1 := by kernel_rfl

set_option maxRecDepth 100000
set_option maxHeartbeats 4000000
theorem passD {K : Dk} {B S : Nat} {R : Mm} (h : R.all (fun p => p.2.pass) = true) : List.all ((1, K.rb B S) :: (2, K.ru) :: (3, K.rs S) :: R) (fun p => p.2.pass) = true := by
 show (true && (K.ru.pass && (true && List.all R (fun p => p.2.pass)))) = true
 rw [Dk.ru_pass, h]; rfl
abbrev tabR : Res := .cel 0 0 (tab.map (Value.int .u32))
theorem MemOk.tabr {X : Cx} {M : Mm} {w0 w : World} (m : MemOk X w0 M w) {i : Nat} (h : lk M i = some tabR) : TabOk w := fun j hj => by
 obtain ⟨-, -, h3⟩ := m.ok i _ h
 have := h3 j (.int .u32 (tab.getD j 0)) (by rw [List.getElem?_map, List.getD, List.getElem?_eq_getElem (by exact hj)]; rfl)
 rw [Nat.zero_add] at this
 exact this
def pieceP (r : List Int) (k : Nat) : List Int := (r.drop (48 * k)).take 48 ++ List.replicate (48 - ((r.drop (48 * k)).take 48).length) 0
def chunkP (gn : Int) (r : List Int) (k : Nat) : List Int := genB gn ++ (pieceP r k ++ genB gn)
theorem pieceP_len (r : List Int) (k : Nat) : (pieceP r k).length = 48 := by
 unfold pieceP; rw [List.length_append, List.length_replicate, List.length_take]; omega
theorem chunkP_len (gn : Int) (r : List Int) (k : Nat) : (chunkP gn r k).length = 64 := by
 unfold chunkP; rw [List.length_append, List.length_append, pieceP_len, genB_len]
theorem chunkP_bytes (gn : Int) {r : List Int} (h : BytesL r) (k : Nat) : BytesL (chunkP gn r k) := bytesApp (genB_bytes gn) (bytesApp (bytesApp (fun x hx => h x (List.mem_of_mem_drop (List.mem_of_mem_take hx))) (fun x hx => by rw [List.eq_of_mem_replicate hx]; omega)) (genB_bytes gn))
theorem pad_chunk (gn : Int) (r : List Int) (k : Nat) : pad (chunkP gn r k) = chunkP gn r k := by
 unfold pad; rw [chunkP_len]; simp
theorem recV_bytes {b : List Int} (h : BytesL b) (hl : b.length ≤ 1000000 := by omega) : BytesL (recV b) := sealBytes (bytesApp (encBytes (by omega)) h)
theorem drop_min (r : List Int) (k : Nat) : (r.drop (48 * k)).drop (min 48 (r.drop (48 * k)).length) = r.drop (48 * (k + 1)) := by
 rw [List.drop_drop]
 rcases Nat.le_total 48 (r.drop (48 * k)).length with h | h
 · rw [Nat.min_eq_left h]; congr 1
 · rw [Nat.min_eq_right h]
   rw [List.length_drop] at h ⊢
   rw [List.drop_of_length_le (by omega), List.drop_of_length_le (by omega)]
def putK (secs : List (List Int)) (f : Nat) (gn : Int) (r : List Int) : Nat → List (List Int)
 | 0 => secs
 | k + 1 => (putK secs f gn r k).set (f + k) (chunkP gn r k)
def unsK (secs : List (List Int)) (uns : List Un) (f : Nat) (gn : Int) (r : List Int) : Nat → List Un
 | 0 => uns
 | k + 1 => unsK secs uns f gn r k ++ [⟨f + k, (putK secs f gn r k).getD (f + k) [], chunkP gn r k⟩]
theorem putK_len (secs : List (List Int)) (f : Nat) (gn : Int) (r : List Int) : ∀ k, (putK secs f gn r k).length = secs.length
 | 0 => rfl
 | k + 1 => by rw [putK, List.length_set, putK_len]
theorem unsK_len (secs : List (List Int)) (uns : List Un) (f : Nat) (gn : Int) (r : List Int) : ∀ k, (unsK secs uns f gn r k).length = uns.length + k
 | 0 => rfl
 | k + 1 => by rw [unsK, List.length_append, unsK_len]; rfl
theorem append_x (X : Cx) (K : Dk) {B S : Nat} (f to : Nat) (gn : Int) (b : List Int) (pb : Option Addr) (cb : Nat) (w0 : World) (hK : K.ok B S) (hl : K.l = -1) (hn : K.uns.length ≤ 1000000) (hft : f + (secN (recN b.length)) ≤ to) (hts : f + (secN (recN b.length)) ≤ K.secs.length) (hto : to ≤ 1000000) (hbb : BytesL b) (hbl : b.length ≤ 9000) (h01 : 1 ≤ w0.heap.size) (m0 : MemOk X w0 [(1, K.rb B S), (2, K.ru), (3, K.rs S), (4, .dat (.slice pb b.length cb) (.ns .u8 b)), (5, tabR)] w0) :
   Calls Tryd.prog 11 #[.pointer (some ⟨B, 0, none⟩), .int .i64 f, .int .i64 to, .int .u64 gn, .slice pb b.length cb] w0 fun e w' => e = .returned (.tuple #[.int .i64 (f + (secN (recN b.length)) : Nat), .int .i64 0]) ∧ ∃ K9 : Dk, K9.ok B S ∧ K9.l = -1 ∧ K9.secs = putK K.secs f gn (recV b) (secN (recN b.length)) ∧ K9.uns = unsK K.secs K.uns f gn (recV b) (secN (recN b.length)) ∧ MemOk X w0 [(1, K9.rb B S), (2, K9.ru), (3, K9.rs S), (4, .dat (.slice pb b.length cb) (.ns .u8 b)), (5, tabR)] w' := by
 refine enter (fn := Tryd.f11) Tryd.func11 rfl Tryd.ntmps11 rfl (fun Az Hz => ?_)
 simp only [List.zipIdx_cons, List.zipIdx_nil, List.map_cons, List.map_nil, Nat.reduceAdd, Nat.zero_add] at Hz
 refine regS Hz (.assign rfl <| .assign rfl <| .nil) ?_
 clear Hz Az; intro Az Hz
 refine wp_seq_k (fun K0 hK0 => ?_)
 refine regS Hz (.move rfl <| .eqlP rfl rfl Tryd.underlying27 <| .nil) ?_
 clear Hz Az; intro Az Hz
 refine bool_cases Hz (t := 18) rfl ?_ ?_
 · intro hb _; exact absurd hb (by simp)
 clear Hz; intro _ Hz
 refine wp_cond_false (Hz.ev (x := .tmp 18) rfl) ?_
 refine wp_skip ?_
 refine hK0 _ _ ?_; clear hK0; try clear K0
 refine wp_seq_k (fun K1 hK1 => ?_)
 refine regS Hz (.move rfl <| .len rfl Tryd.underlying24 <| .gtr rfl rfl <| .nil) ?_
 clear Hz Az; intro Az Hz
 refine bool_cases Hz (t := 21) rfl ?_ ?_
 · intro hb _; exact absurd hb (by rw [decide_eq_true_eq]; omega)
 clear Hz; intro _ Hz
 refine wp_cond_false (Hz.ev (x := .tmp 21) rfl) ?_
 refine wp_skip ?_
 refine hK1 _ _ ?_; clear hK1; try clear K1
 refine wp_seq_k (fun K2 hK2 => ?_)
 refine wp_seq_k (fun K3 hK3 => ?_)
 refine wp_region_lit ?_
 refine goCh Hz (.move rfl <| .lss rfl rfl <| .move rfl <| .nil) ?_
 clear Hz Az; intro Az Hz
 refine bool_cases Hz (t := 24) rfl ?_ ?_
 · intro hb _; exact absurd hb (by rw [decide_eq_true_eq]; omega)
 clear Hz; intro _ Hz
 refine goCh Hz (.moveZ rfl <| .moveZ rfl <| .gtrZ rfl rfl <| .pickF rfl rfl <| .move rfl <| .nil) ?_
 clear Hz Az; intro Az Hz
 refine bool_cases Hz (t := 29) rfl ?_ ?_
 · intro hb _; exact absurd hb (by rw [decide_eq_true_eq]; omega)
 clear Hz; intro _ Hz
 refine goCh Hz (.moveZ rfl .nil) ?_
 clear Hz Az; intro Az Hz
 refine st_ge Hz rfl rfl rfl rfl (fun K hK => ?_)
 refine e_litR Hz m0 20 (mm := 1) rfl (.cons rfl rfl (.cons (m0.rd (i := 4) rfl) .nil) <| .nil) Tryd.underlying22 inf24wap rfl rfl rfl rfl rfl ?_
 clear Hz Az m0; intro g24 Az w25 Hz m25
 refine hK _ _ ?_; clear hK K
 have m26 := m25.freezeR 20 rfl; clear m25
 refine st_ge Hz rfl rfl rfl rfl (fun K hK => ?_)
 refine e_call Hz Tryd.func13 rfl rfl rfl rfl (need_x [b] _ _ _ (m26.rd (i := 20) rfl).any (by simp) (by simp; omega)) ?_
 rintro e w27 ⟨rfl, hb27⟩
 have m28 := m26.later hb27
 clear m26
 clear hb27
 refine ⟨_, rfl, ?_⟩; clear Hz Az; intro Az Hz
 refine hK _ _ ?_; clear hK K
 refine goCh Hz (.moveZ rfl <| .moveZ rfl <| .subZ rfl rfl (r := (to : Int) - f) (IntWalk.i64_in _ (by omega)) <| .gtrZ rfl rfl <| .pickF rfl rfl <| .nil) ?_
 clear Hz Az; intro Az Hz
 refine wpList_nil ?_
 refine hK3 _ _ ?_; clear hK3; try clear K3
 refine bool_cases Hz (t := 37) rfl ?_ ?_
 · intro hb _; exact absurd hb (by rw [decide_eq_true_eq]; simp only [needN]; omega)
 clear Hz; intro _ Hz
 refine wp_cond_false (Hz.ev (x := .tmp 37) rfl) ?_
 refine wp_skip ?_
 refine hK2 _ _ ?_; clear hK2; try clear K2
 replace Hz : Has 67 [(0, _), (1, _), (3, _), (4, _), (10, _), (11, _)] Az := Hz.only [0, 1, 3, 4, 10, 11]
 refine wp_seq_k (fun K4 hK4 => ?_)
 refine wp_region_lit ?_
 refine goCh Hz (.move rfl .nil) ?_
 clear Hz Az; intro Az Hz
 refine wpList_plain rfl (fun K hK => ?_)
 refine e_call Hz Tryd.func24 rfl rfl rfl rfl (gens_x gn _) ?_
 rintro e w39 ⟨p39, c39, rfl, ho39, hb39⟩
 have m40 := m28.newN 21 hb39 ho39
 clear m28
 clear hb39 ho39
 refine ⟨_, rfl, ?_⟩; clear Hz Az; intro Az Hz
 refine hK _ _ ?_; clear hK K
 have m42 := m40.freezeN 21 rfl; clear m40
 refine goCh Hz (.assign rfl .nil) ?_
 clear Hz Az; intro Az Hz
 refine wpList_nil ?_
 refine hK4 _ _ ?_; clear hK4; try clear K4
 refine wp_seq_k (fun K5 hK5 => ?_)
 refine wp_region_lit ?_
 refine goCh Hz (.move rfl .nil) ?_
 clear Hz Az; intro Az Hz
 refine wpList_plain rfl (fun K hK => ?_)
 refine e_call Hz Tryd.func26 rfl rfl rfl rfl (plump_x b _ _ _ (m42.rd (i := 4) rfl).any (by omega)) ?_
 rintro e w46 ⟨p46, c46, rfl, ho46, hb46⟩
 have m47 := m42.newN 22 hb46 ho46
 clear m42
 clear hb46 ho46
 refine ⟨_, rfl, ?_⟩; clear Hz Az; intro Az Hz
 refine hK _ _ ?_; clear hK K
 have m49 := m47.freezeN 22 rfl; clear m47
 refine wpList_plain rfl (fun K hK => ?_)
 refine e_call Hz Tryd.func25 rfl rfl rfl rfl (pseal_x _ (enc b.length ++ b) _ (m49.tabr (i := 5) rfl) (Nat.le_trans h01 m49.keep.2.2.2.1) (m49.rd (i := 22) rfl).any (bytesApp (encBytes (by omega)) hbb) (by rw [List.length_append]; have := (enc_len (b.length : Int)).1; omega)) ?_
 rintro e w50 ⟨p50, c50, rfl, ho50, hb50⟩
 have m51 := m49.newN 23 hb50 ho50
 clear m49
 clear hb50 ho50
 refine ⟨_, rfl, ?_⟩; clear Hz Az; intro Az Hz
 refine hK _ _ ?_; clear hK K
 have m53 := m51.freezeN 23 rfl; clear m51
 refine goCh Hz (.assign rfl .nil) ?_
 clear Hz Az; intro Az Hz
 refine wpList_nil ?_
 refine hK5 _ _ ?_; clear hK5; try clear K5
 refine wp_seq_k (fun K6 hK6 => ?_)
 refine wp_block ?_
 refine wp_loop_ghost (fun g a w => ∃ (k : Nat) (K9 : Dk) (p : Option Addr) (c : Nat), k ≤ (secN (recN b.length)) ∧ g = (secN (recN b.length)) - k ∧ K9.ok B S ∧ K9.l = -1 ∧ K9.secs = putK K.secs f gn (recV b) k ∧ K9.uns = unsK K.secs K.uns f gn (recV b) k ∧ Has 67 [(0, .pointer (some ⟨B, 0, none⟩)), (1, .int .i64 (f + k : Nat)), (12, .slice p39 (genB gn).length c39), (13, .slice p ((recV b).drop (48 * k)).length c)] a ∧ MemOk X w0 [(1, K9.rb B S), (2, K9.ru), (3, K9.rs S), (4, .dat (.slice pb b.length cb) (.ns .u8 b)), (5, tabR), (21, .dat (.slice p39 (genB gn).length c39) (.ns .u8 (genB gn))), (23, .dat (.slice p ((recV b).drop (48 * k)).length c) (.ns .u8 ((recV b).drop (48 * k))))] w) ((secN (recN b.length))) ?_ ?_
 · exact ⟨0, K, _, _, Nat.zero_le _, rfl, hK, hl, rfl, rfl, Hz.only [0, 1, 12, 13], m53.only [1, 2, 3, 4, 5, 21, 23]⟩
 ·
  clear Hz m53
  rintro g Az w55 ⟨k, K9, p, c, hkN, hg, hK9, hl9, hS9, hU9, Hz, m55⟩
  refine wp_seq_k (fun K7 hK7 => ?_)
  refine regS Hz (.move rfl <| .len rfl Tryd.underlying24 <| .gtr rfl rfl <| .nil) ?_
  clear Hz Az; intro Az Hz
  refine bool_cases Hz (t := 45) rfl ?_ ?_
  ·
   clear Hz; intro hb59 Hz
   try simp only [Q1x, Q2x, Q3x, Q4x, Q5x, Q6x, Q7x, Q8x, Q9x, Q0x, Qax, Qbx] at hb59
   have hk : k < (secN (recN b.length)) := by have := hb59; rw [List.length_drop, recV_len] at this; unfold secN; omega
   refine wp_cond_true (Hz.ev (x := .tmp 45) rfl) ?_
   refine wp_skip ?_
   refine hK7 _ _ ?_; clear hK7; try clear K7
   refine wp_block ?_
   refine wp_seq_k (fun K8 hK8 => ?_)
   refine wp_region_lit ?_
   refine wpList_plain rfl (fun K hK => ?_)
   refine e_makeN Hz m55 100 (48) rfl rfl rfl rfl Tryd.underlying24 inf5wap (by decide) (by omega) rfl ?_
   clear Hz Az m55; intro p60 c60 Az w61 Hz m61
   refine hK _ _ ?_; clear hK K
   refine goCh Hz (.assign rfl .nil) ?_
   clear Hz Az; intro Az Hz
   refine wpList_nil ?_
   refine hK8 _ _ ?_; clear hK8; try clear K8
   refine wp_seq_k (fun K9 hK9 => ?_)
   refine wp_region_lit ?_
   refine goCh Hz (.move rfl <| .move rfl <| .nil) ?_
   clear Hz Az; intro Az Hz
   refine wpList_plain rfl (fun K hK => ?_)
   refine e_copyN Hz m61 100 rfl rfl rfl (m61.nums (i := 23) rfl) Tryd.underlying24 sz5wap (by simp) rfl ?_
   clear Hz Az m61; intro  Az w67 Hz m67
   refine hK _ _ ?_; clear hK K
   refine goCh Hz (.assign rfl .nil) ?_
   clear Hz Az; intro Az Hz
   refine wpList_nil ?_
   refine hK9 _ _ ?_; clear hK9; try clear K9
   refine wp_seq_k (fun K10 hK10 => ?_)
   replace Hz : Has 67 [(0, _), (1, _), (12, _), (13, _), (14, _), (15, _)] Az := Hz.only [0, 1, 12, 13, 14, 15]
   refine wp_seq_k (fun K11 hK11 => ?_)
   refine wp_region_lit ?_
   refine goCh Hz (.move rfl <| .move rfl <| .move rfl <| .move rfl <| .move rfl <| .nil) ?_
   clear Hz Az; intro Az Hz
   have e80 : ((recV b).drop (48 * k)).take (List.replicate 48 (0 : Int)).length ++ (List.replicate 48 (0 : Int)).drop (((recV b).drop (48 * k)).take (List.replicate 48 (0 : Int)).length).length = pieceP (recV b) k := by unfold pieceP; rw [List.length_replicate, List.drop_replicate]
   rw [e80] at m67
   have m82 := m67.freezeN 100 rfl; clear m67
   refine wpList_plain rfl (fun K hK => ?_)
   refine e_litR Hz m82 101 (mm := 1) rfl (.cons rfl rfl (.cons (m82.rd (i := 21) rfl) .nil) <| .cons rfl rfl (.cons (m82.rd (i := 100) rfl) .nil) <| .cons rfl rfl (.cons (m82.rd (i := 21) rfl) .nil) <| .nil) Tryd.underlying22 inf24wap rfl rfl rfl rfl rfl ?_
   clear Hz Az m82; intro g81 Az w83 Hz m83
   refine hK _ _ ?_; clear hK K
   have m84 := m83.freezeR 101 rfl; clear m83
   refine wpList_plain rfl (fun K hK => ?_)
   refine e_call Hz Tryd.func27 rfl rfl rfl rfl (pjoin_is (ls := [genB gn, pieceP (recV b) k, genB gn]) (S := chunkP gn (recV b) k) ((m84.rd (i := 101) rfl).any) (by simp) (by simp [sumLen, genB_len, pieceP_len]) (by simp [chunkP])) ?_
   rintro e w85 ⟨p85, c85, rfl, ho85, hb85⟩
   have m86 := m84.newN 102 hb85 ho85
   clear m84
   clear hb85 ho85
   refine ⟨_, rfl, ?_⟩; clear Hz Az; intro Az Hz
   refine hK _ _ ?_; clear hK K
   have m88 := m86.freezeN 102 rfl; clear m86
   refine wpList_plain rfl (fun K hK => ?_)
   refine e_call Hz Tryd.func18 rfl rfl rfl rfl (kwrite (i := f + k) hK9 (m88.into [(1, 1), (2, 2), (3, 3), (4, 102)] (by decide) (passD rfl)) (by rw [hS9, putK_len]; omega) (by rw [chunkP_len]; omega) (chunkP_bytes gn (recV_bytes hbb) k) hl9 (by rw [hU9, unsK_len]; omega)) ?_
   rintro e w89 ⟨rfl, vu89, cur89, hK89, hm89⟩
   have mx89 := m88.back hm89 [(1, 1), (2, 2), (3, 3), (102, 4)] (by decide); clear hm89 m88
   have m89 : MemOk _ _ [(1, _), (2, _), (3, _), (102, _), (4, _), (5, _), (21, _), (23, _), (100, _), (101, _)] _ := mx89.only [1, 2, 3, 102, 4, 5, 21, 23, 100, 101]; clear mx89
   refine ⟨_, rfl, ?_⟩; clear Hz Az; intro Az Hz
   refine hK _ _ ?_; clear hK K
   refine goCh Hz (.assign rfl .nil) ?_
   clear Hz Az; intro Az Hz
   refine wpList_nil ?_
   refine hK11 _ _ ?_; clear hK11; try clear K11
   replace Hz : Has 67 [(0, _), (1, _), (12, _), (13, _), (15, _), (16, _)] Az := Hz.only [0, 1, 12, 13, 15, 16]
   refine regS Hz (.move rfl <| .neq rfl rfl <| .nil) ?_
   clear Hz Az; intro Az Hz
   refine bool_cases Hz (t := 59) rfl ?_ ?_
   · intro hb _; exact absurd hb (by simp)
   clear Hz; intro _ Hz
   refine wp_cond_false (Hz.ev (x := .tmp 59) rfl) ?_
   refine wp_skip ?_
   refine hK10 _ _ ?_; clear hK10; try clear K10
   refine wp_seq_k (fun K12 hK12 => ?_)
   refine wp_region_lit ?_
   refine goCh Hz (.move rfl <| .move rfl <| .nil) ?_
   clear Hz Az; intro Az Hz
   have m101 := m89.dropN (i := 23) rfl (min 48 ((recV b).drop (48 * k)).length) (Nat.min_le_right _ _) 103 rfl; clear m89
   refine goCh Hz (.c rfl (fun _ h => y_sliceLn h (min 48 ((recV b).drop (48 * k)).length) rfl rfl Tryd.underlying24 sz5wap (by rw [List.length_replicate]) (Nat.min_le_right _ _)) <| .assign rfl <| .nil) ?_
   clear Hz Az; intro Az Hz
   refine wpList_nil ?_
   refine hK12 _ _ ?_; clear hK12; try clear K12
   replace Hz : Has 67 [(0, _), (1, _), (12, _), (13, _)] Az := Hz.only [0, 1, 12, 13]
   refine wp_region_lit ?_
   refine goCh Hz (.move rfl <| .add rfl rfl (r := ((f + (k + 1) : Nat) : Int)) (by rw [IntWalk.i64_in _ (by omega)]; omega) <| .assign rfl <| .nil) ?_
   clear Hz Az; intro Az Hz
   refine wpList_nil ?_
   show ∃ n', n' < _ ∧ _
   have e8 : ((recV b).drop (48 * k)).drop (min 48 ((recV b).drop (48 * k)).length) = (recV b).drop (48 * (k + 1)) := drop_min _ _
   have e7 : ((recV b).drop (48 * k)).length - (min 48 ((recV b).drop (48 * k)).length) = ((recV b).drop (48 * (k + 1))).length := List.length_drop.symm.trans (congrArg List.length e8)
   rw [e8, e7] at m101
   rw [e7] at Hz
   exact ⟨(secN (recN b.length)) - (k + 1), by omega, k + 1, _, _, _, by omega, rfl, hK89, rfl, by dsimp only [putK]; rw [hS9, pad_chunk], by dsimp only [unsK]; rw [hU9, hS9, pad_chunk], Hz.only [0, 1, 12, 13], m101.ren [(1, 1), (2, 2), (3, 3), (4, 4), (5, 5), (21, 21), (23, 103)] (by decide)⟩
  ·
   clear Hz; intro hb59 Hz
   try simp only [Q1x, Q2x, Q3x, Q4x, Q5x, Q6x, Q7x, Q8x, Q9x, Q0x, Qax, Qbx] at hb59
   obtain rfl : k = (secN (recN b.length)) := by have := hb59; rw [List.length_drop, recV_len] at this; unfold secN at hkN ⊢; omega
   refine wp_cond_false (Hz.ev (x := .tmp 45) rfl) ?_
   refine wp_exit ?_
   refine hK6 _ _ ?_; clear hK6; try clear K6
   refine regS Hz (.move rfl <| .assign rfl <| .assign rfl <| .nil) ?_
   clear Hz Az; intro Az Hz
   refine wp_ret ?_
   try dsimp only [Exit.then, Exit.inBlock]
   refine (ret2 (fn := Tryd.f11) Hz rfl rfl rfl ?_)
   exact ⟨rfl, K9, hK9, hl9, hS9, hU9, m55.only [1, 2, 3, 4, 5]⟩
end Go.Proofs.YtogjhjiapinmcaaDoor.K
