/- WalGens. -/
import Derived.Test.YtogjhjiapinmcaaDoorWalG
import Derived.Test.YtogjhjiapinmcaaDoorWalBo
namespace Go.Proofs.YtogjhjiapinmcaaDoor.K
open Go.ChangeShapes Go.WideShapes Go.ChangeAt Go.RowKit
set_option linter.unusedVariables false
set_option linter.unusedSimpArgs false

theorem sz24wgp : (Tryd.prog.info? 24).map (·.size) = some 1 := by kernel_rfl
theorem inf24wgs : (Tryd.prog.info? 24).map (fun i => (i.zero, i.size, i.bytes)) = some (some (.slice none 0 0), 1, 24) := by kernel_rfl
theorem sz24wgs : (Tryd.prog.info? 24).map (·.size) = some 1 := by kernel_rfl
theorem sz27wgs : (Tryd.prog.info? 27).map (·.size) = some 1 := by kernel_rfl
theorem zc27wgs : ((Tryd.prog.info? 27).bind (·.zero)).map (·.cells.toList) = some [.pointer none] := by kernel_rfl

set_option maxRecDepth 100000
set_option maxHeartbeats 4000000
theorem needN_sub (ls : List (List Int)) (k : Nat) : needN (ls.take k) ≤ needN ls := by
 have h := needN_app (ls.take k) (ls.drop k)
 rw [List.take_append_drop] at h
 omega
theorem needN_two : ∀ {ls : List (List Int)}, (∀ l ∈ ls, l.length ≤ 40) → needN ls ≤ 2 * ls.length
 | [], _ => Nat.zero_le _
 | b :: t, h => by
   have h1 := h b List.mem_cons_self
   have h2 := needN_two (ls := t) (fun l hl => h l (List.mem_cons_of_mem _ hl))
   have h3 := recN_le (n := b.length)
   rw [needN, List.length_cons]
   unfold secN
   omega
theorem put_x (X : Cx) (K : Dk) {B S : Nat} (gn : Int) (ls : List (List Int)) (q : Option Addr) (cq : Nat) (gD : Nat) (w0 : World) (hK : K.ok B S) (hl : K.l = -1) (hun : K.uns.length ≤ 1000) (hsl : K.secs.length = 60) (hll : ls.length ≤ 1000) (hnd : needN ls ≤ 59) (hls : ∀ l ∈ ls, l.length ≤ 40 ∧ BytesL l) (h01 : 1 ≤ w0.heap.size) (m0 : MemOk X w0 [(1, K.rb B S), (2, K.ru), (3, K.rs S), (4, .dat (.slice q ls.length cq) (.l 1 (ls.map bD))), (5, tabR), (6, .box gD 27 [.pointer (some ⟨B, 0, none⟩)])] w0) :
   Calls Tryd.prog 22 #[.slice q ls.length cq, .int .u64 gn, .pointer (some ⟨gD, 0, none⟩)] w0 fun e w' => e = .returned (.bool true) ∧ ∃ K9 : Dk, K9.ok B S ∧ K9.l = -1 ∧ K9.secs = putRs K.secs gn 0 ls ∧ K9.uns.length = K.uns.length + needN ls ∧ MemOk X w0 [(1, K9.rb B S), (2, K9.ru), (3, K9.rs S), (4, .dat (.slice q ls.length cq) (.l 1 (ls.map bD))), (5, tabR), (6, .box gD 27 [.pointer (some ⟨B, 0, none⟩)])] w' := by
 refine enter (fn := Tryd.f22) Tryd.func22 rfl Tryd.ntmps22 rfl (fun Az Hz => ?_)
 simp only [List.zipIdx_cons, List.zipIdx_nil, List.map_cons, List.map_nil, Nat.reduceAdd, Nat.zero_add] at Hz
 refine regS Hz (.assign rfl <| .nil) ?_
 clear Hz Az; intro Az Hz
 refine regS Hz (.assign rfl <| .nil) ?_
 clear Hz Az; intro Az Hz
 refine wp_seq_k (fun K0 hK0 => ?_)
 refine regS Hz (.assign rfl <| .nil) ?_
 clear Hz Az; intro Az Hz
 refine wp_block ?_
 refine wp_loop_ghost (fun g a w => ∃ (k : Nat) (K9 : Dk), k ≤ ls.length ∧ g = ls.length - k ∧ K9.ok B S ∧ K9.l = -1 ∧ K9.secs = putRs K.secs gn 0 (ls.take k) ∧ K9.uns.length = K.uns.length + needN (ls.take k) ∧ Has 30 [(0, .slice q ls.length cq), (1, .int .u64 gn), (2, .pointer (some ⟨gD, 0, none⟩)), (6, .int .i64 (needN (ls.take k) : Nat)), (7, .int .i64 k)] a ∧ MemOk X w0 [(1, K9.rb B S), (2, K9.ru), (3, K9.rs S), (4, .dat (.slice q ls.length cq) (.l 1 (ls.map bD))), (5, tabR), (6, .box gD 27 [.pointer (some ⟨B, 0, none⟩)])] w) (ls.length) ?_ ?_
 · exact ⟨0, K, Nat.zero_le _, rfl, hK, hl, rfl, rfl, Hz.only [0, 1, 2, 6, 7], m0.only [1, 2, 3, 4, 5, 6]⟩
 ·
  clear Hz m0
  rintro g Az w4 ⟨k, K9, hkl, hg, hK9, hl9, hS9, hU9, Hz, m4⟩
  refine wp_seq_k (fun K1 hK1 => ?_)
  refine regS Hz (.move rfl <| .move rfl <| .len rfl Tryd.underlying22 <| .lss rfl rfl <| .nil) ?_
  clear Hz Az; intro Az Hz
  refine bool_cases Hz (t := 13) rfl ?_ ?_
  ·
   clear Hz; intro hb9 Hz
   try simp only [Q1x, Q2x, Q3x, Q4x, Q5x, Q6x, Q7x, Q8x, Q9x, Q0x, Qax, Qbx] at hb9
   have hk : k < ls.length := by have := hb9; first | omega | (simp at this; omega)
   have hlm : (ls.getD k []) ∈ ls := by rw [List.getD, List.getElem?_eq_getElem hk]; exact List.getElem_mem hk
   have hlk : (ls.getD k []).length ≤ 40 := (hls _ hlm).1
   have hlb : BytesL (ls.getD k []) := (hls _ hlm).2
   have hn1 := needN_sub ls (k + 1)
   have hn0 := needN_sub ls k
   refine wp_cond_true (Hz.ev (x := .tmp 13) rfl) ?_
   refine wp_skip ?_
   refine hK1 _ _ ?_; clear hK1; try clear K1
   refine wp_seq_k (fun K2 hK2 => ?_)
   refine wp_block ?_
   refine wp_seq_k (fun K3 hK3 => ?_)
   obtain ⟨b10, o10, vs10, hp10, hR10, ho10, m10⟩ := m4.openR (i := 4) rfl (k) (r := bD (ls.getD k [])) (bD_at hk) 100 rfl
   cases hp10; clear m4 ho10
   rcases hR10 with _ | ⟨hd10_0, _ | _⟩
   obtain ⟨p11, c11, hv11, hc11⟩ := hd10_0.ns_shape; subst hv11
   have m11 := m10.dat 101 rfl (hd10_0.cast (fun _ h => (free_add rfl h))); clear m10 hd10_0
   have m12 : MemOk _ _ [(1, _), (2, _), (3, _), (4, _), (5, _), (6, _), (100, _), (101, _)] _ := m11.only [1, 2, 3, 4, 5, 6, 100, 101]; clear m11
   refine region_p 7 (B := [(1, _), (2, _), (3, _), (4, _), (5, _), (6, _), (100, _), (101, _)]) (m12.to ⟨il, il, il, il, il, il, il, il, trivial⟩) m12 (by kernel_rfl) (fun w13 hP13 m13 => ?_); clear m12
   refine goR hP13 [0, 1, 2, 3, 4, 5, 6] [0, 6] 7 0 127 Hz (m13.to ⟨il, il, il, il, il, il, il, il, trivial⟩) (.loadB1 hh (i := 6) rfl rfl rfl Tryd.underlying27 rfl <| .move rfl <| .move rfl <| .move rfl <| .move rfl <| .p (fun _ _ h => y_idx h rfl rfl Tryd.underlying22 sz24wgp (k) rfl hk) <| .loadC0 hh (i := 100) rfl rfl Tryd.underlying24 rfl <| .nil) ?_
   clear Hz Az; intro Az Hz
   refine stepE_end 7 rfl (by kernel_rfl) rfl (by rfl) (fun K hK => ?_)
   refine e_call Hz Tryd.func11 rfl rfl rfl rfl (append_v _ K9 (needN (ls.take k)) 60 gn (ls.getD k []) _ _ _ (N := secN (recN (ls.getD k []).length)) (q := needN (ls.take (k + 1))) rfl (needN_take hk).symm hK9 hl9 (by omega) (by omega) (by rw [hS9, putRs_len]; omega) (by omega) hlb (by omega) (Nat.le_trans h01 m13.keep.2.2.2.1) (m13.into [(1, 1), (2, 2), (3, 3), (4, 101), (5, 5)] (by decide) (passD rfl))) ?_
   rintro e w21 ⟨rfl, KD, hKD, hlD, hSD, hUD, hm21⟩
   have mx21 := m13.back hm21 [(1, 1), (2, 2), (3, 3), (101, 4), (5, 5)] (by decide); clear hm21 m13
   have m21 : MemOk _ _ [(1, _), (2, _), (3, _), (101, _), (5, _), (4, _), (6, _), (100, _)] _ := mx21.only [1, 2, 3, 101, 5, 4, 6, 100]; clear mx21
   refine ⟨_, rfl, ?_⟩; clear Hz Az; intro Az Hz
   refine hK _ _ ?_; clear hK K
   refine goB hP13 [8, 9, 10, 11, 12] 5 255 8191 Hz (.move rfl <| .extract rfl rfl <| .extract rfl rfl <| .assign rfl <| .assign rfl <| .nil) ?_
   clear Hz Az; intro Az Hz
   refine wpAnyE_done (by kernel_rfl) ?_ _
   refine hK3 _ _ ?_; clear hK3; try clear K3
   refine wp_seq_k (fun K4 hK4 => ?_)
   replace Hz : Has 30 [(0, _), (1, _), (2, _), (6, _), (7, _), (8, _), (9, _)] Az := Hz.only [0, 1, 2, 6, 7, 8, 9]
   refine regS Hz (.move rfl <| .neq rfl rfl <| .nil) ?_
   clear Hz Az; intro Az Hz
   refine bool_cases Hz (t := 28) rfl ?_ ?_
   · intro hb _; exact absurd hb (by simp)
   clear Hz; intro _ Hz
   refine wp_cond_false (Hz.ev (x := .tmp 28) rfl) ?_
   refine wp_skip ?_
   refine hK4 _ _ ?_; clear hK4; try clear K4
   refine wp_region_lit ?_
   refine goCh Hz (.move rfl <| .assign rfl <| .nil) ?_
   clear Hz Az; intro Az Hz
   refine wpList_nil ?_
   refine hK2 _ _ ?_; clear hK2; try clear K2
   refine wp_region_lit ?_
   refine goCh Hz (.move rfl <| .add rfl rfl (r := ((k + 1 : Nat) : Int)) (by rw [IntWalk.i64_in _ (by omega)]; omega) <| .assign rfl <| .nil) ?_
   clear Hz Az; intro Az Hz
   refine wpList_nil ?_
   show ∃ n', n' < _ ∧ _
   exact ⟨ls.length - (k + 1), by omega, k + 1, KD, by omega, rfl, hKD, hlD, by rw [hSD, hS9, putRs_take hk, Nat.zero_add], by rw [hUD, unsK_len, hU9, needN_take hk]; omega, Hz.only [0, 1, 2, 6, 7], m21.only [1, 2, 3, 4, 5, 6]⟩
  ·
   clear Hz; intro hb9 Hz
   try simp only [Q1x, Q2x, Q3x, Q4x, Q5x, Q6x, Q7x, Q8x, Q9x, Q0x, Qax, Qbx] at hb9
   obtain rfl : k = ls.length := by have := hb9; first | omega | (simp at this; omega)
   refine wp_cond_false (Hz.ev (x := .tmp 13) rfl) ?_
   refine wp_exit ?_
   refine hK0 _ _ ?_; clear hK0; try clear K0
   refine regS Hz (.assign rfl <| .nil) ?_
   clear Hz Az; intro Az Hz
   refine wp_ret ?_
   try dsimp only [Exit.then, Exit.inBlock]
   refine (ret1 (fn := Tryd.f22) Hz rfl rfl ?_)
   rw [List.take_length] at hS9 hU9
   exact ⟨rfl, K9, hK9, hl9, hS9, hU9, m4.only [1, 2, 3, 4, 5, 6]⟩
theorem gens_walk (la lb : List (List Int)) (x y : Int) (pa pb : Option Addr) (ca cb : Nat) (w0 : World) (hT : TabOk w0) (h01 : 1 ≤ w0.heap.size) (ha0 : Rd (fun _ => True) w0 (.slice pa la.length ca) (.l 1 (la.map bD))) (hb0' : Rd (fun _ => True) w0 (.slice pb lb.length cb) (.l 1 (lb.map bD))) (hab : ∀ l ∈ la, BytesL l) (hbb : ∀ l ∈ lb, BytesL l) (hx : 0 ≤ x ∧ x ≤ 18446744073709551615) (hy : 0 ≤ y ∧ y ≤ 18446744073709551615) :
   Calls Tryd.prog 6 #[.slice pa la.length ca, .slice pb lb.length cb, .int .u64 x, .int .u64 y] w0 fun e w' => e = .returned (.bool true) ∧ Below w0.heap.size w0 w' := by
 refine enter (fn := Tryd.f6) Tryd.func6 rfl Tryd.ntmps6 rfl (fun Az Hz => ?_)
 simp only [List.zipIdx_cons, List.zipIdx_nil, List.map_cons, List.map_nil, Nat.reduceAdd, Nat.zero_add] at Hz
 have hll9 : (la ++ lb).length = la.length + lb.length := List.length_append
 have m00 := MemOk.start (fun _ => True) w0
 have m01 := m00.addTab 5 rfl hT h01 ⟨fun _ => trivial, fun ⟨i, r, h, _⟩ => by cases h⟩
 have m02 := m01.dat 1 rfl (m01.old ha0)
 have m0 := m02.dat 2 rfl (m02.old hb0')
 clear m00 m01 m02
 refine regS Hz (.assign rfl <| .nil) ?_
 clear Hz Az; intro Az Hz
 refine wp_seq_k (fun K0 hK0 => ?_)
 refine wp_seq_k (fun K1 hK1 => ?_)
 refine wp_region_lit ?_
 refine wpList_plain rfl (fun K hK => ?_)
 refine e_call Hz Tryd.func7 rfl rfl rfl rfl (known_x _ (hT.below m0.below h01) (Nat.le_trans h01 m0.below.size)) ?_
 rintro e w2 ⟨rfl, hb2⟩
 have m3 := m0.later hb2
 clear m0
 clear hb2
 refine ⟨_, rfl, ?_⟩; clear Hz Az; intro Az Hz
 refine hK _ _ ?_; clear hK K
 refine goCh Hz (.not rfl .nil) ?_
 clear Hz Az; intro Az Hz
 refine wpList_nil ?_
 refine hK1 _ _ ?_; clear hK1; try clear K1
 refine wp_cond_false (Hz.ev (x := .tmp 18) rfl) ?_
 refine wp_skip ?_
 refine hK0 _ _ ?_; clear hK0; try clear K0
 refine wp_seq_k (fun K2 hK2 => ?_)
 refine wp_seq_k (fun K3 hK3 => ?_)
 refine wp_region_lit ?_
 refine goCh Hz (.move rfl <| .len rfl Tryd.underlying22 <| .gtr rfl rfl <| .move rfl <| .nil) ?_
 clear Hz Az; intro Az Hz
 refine bool_cases Hz (t := 22) rfl ?_ ?_
 ·
  clear Hz; intro hb14 Hz
  try simp only [Q1x, Q2x, Q3x, Q4x, Q5x, Q6x, Q7x, Q8x, Q9x, Q0x, Qax, Qbx] at hb14
  refine goCh Hz (.sk <| .sk <| .sk <| .pickT rfl rfl <| .move rfl <| .sk <| .sk <| .sk <| .pickT rfl rfl <| .nil) ?_
  clear Hz Az; intro Az Hz
  refine wpList_nil ?_
  refine hK3 _ _ ?_; clear hK3; try clear K3
  refine wp_cond_true (Hz.ev (x := .tmp 31) rfl) ?_
  replace Hz : Has 106 [(0, _), (1, _), (2, _), (3, _), (8, _)] Az := Hz.only [0, 1, 2, 3, 8]
  refine regS Hz (.assign rfl <| .nil) ?_
  clear Hz Az; intro Az Hz
  refine wp_ret ?_
  try dsimp only [Exit.then, Exit.inBlock]
  refine (ret1 (fn := Tryd.f6) Hz rfl rfl ?_)
  exact ⟨by first | rfl | simp, m3.below⟩
 ·
  clear Hz; intro hb14 Hz
  try simp only [Q1x, Q2x, Q3x, Q4x, Q5x, Q6x, Q7x, Q8x, Q9x, Q0x, Qax, Qbx] at hb14
  have hla6 : la.length ≤ 6 := by have := hb14; first | omega | (simp at this; omega)
  refine goCh Hz (.moveZ rfl <| .lenZ rfl Tryd.underlying22 <| .gtrZ rfl rfl <| .pickF rfl rfl <| .move rfl <| .nil) ?_
  clear Hz Az; intro Az Hz
  refine bool_cases Hz (t := 27) rfl ?_ ?_
  ·
   clear Hz; intro hb31 Hz
   try simp only [Q1x, Q2x, Q3x, Q4x, Q5x, Q6x, Q7x, Q8x, Q9x, Q0x, Qax, Qbx] at hb31
   refine goCh Hz (.sk <| .sk <| .sk <| .pickT rfl rfl <| .nil) ?_
   clear Hz Az; intro Az Hz
   refine wpList_nil ?_
   refine hK3 _ _ ?_; clear hK3; try clear K3
   refine wp_cond_true (Hz.ev (x := .tmp 31) rfl) ?_
   replace Hz : Has 106 [(0, _), (1, _), (2, _), (3, _), (8, _)] Az := Hz.only [0, 1, 2, 3, 8]
   refine regS Hz (.assign rfl <| .nil) ?_
   clear Hz Az; intro Az Hz
   refine wp_ret ?_
   try dsimp only [Exit.then, Exit.inBlock]
   refine (ret1 (fn := Tryd.f6) Hz rfl rfl ?_)
   exact ⟨by first | rfl | simp, m3.below⟩
  ·
   clear Hz; intro hb31 Hz
   try simp only [Q1x, Q2x, Q3x, Q4x, Q5x, Q6x, Q7x, Q8x, Q9x, Q0x, Qax, Qbx] at hb31
   have hlb6 : lb.length ≤ 6 := by have := hb31; first | omega | (simp at this; omega)
   refine goCh Hz (.moveZ rfl <| .moveZ rfl <| .eqlZ rfl rfl <| .pickF rfl rfl <| .nil) ?_
   clear Hz Az; intro Az Hz
   refine wpList_nil ?_
   refine hK3 _ _ ?_; clear hK3; try clear K3
   refine bool_cases Hz (t := 31) rfl ?_ ?_
   ·
    clear Hz; intro hb42 Hz
    try simp only [Q1x, Q2x, Q3x, Q4x, Q5x, Q6x, Q7x, Q8x, Q9x, Q0x, Qax, Qbx] at hb42
    refine wp_cond_true (Hz.ev (x := .tmp 31) rfl) ?_
    replace Hz : Has 106 [(0, _), (1, _), (2, _), (3, _), (8, _)] Az := Hz.only [0, 1, 2, 3, 8]
    refine regS Hz (.assign rfl <| .nil) ?_
    clear Hz Az; intro Az Hz
    refine wp_ret ?_
    try dsimp only [Exit.then, Exit.inBlock]
    refine (ret1 (fn := Tryd.f6) Hz rfl rfl ?_)
    exact ⟨by first | rfl | simp, m3.below⟩
   ·
    clear Hz; intro hb42 Hz
    try simp only [Q1x, Q2x, Q3x, Q4x, Q5x, Q6x, Q7x, Q8x, Q9x, Q0x, Qax, Qbx] at hb42
    have hxy : x ≠ y := by have := hb42; simpa using this
    refine wp_cond_false (Hz.ev (x := .tmp 31) rfl) ?_
    refine wp_skip ?_
    refine hK2 _ _ ?_; clear hK2; try clear K2
    refine wp_seq_k (fun K4 hK4 => ?_)
    have hC4 : ∀ (a : Act) (w : World), (∃ (B9 S9 gD : Nat), Dk.ok (⟨.slice none 0 0, [], (List.replicate 60 zeros), [], -1⟩ : Dk) B9 S9 ∧ Has 106 [(0, .slice pa la.length ca), (1, .slice pb lb.length cb), (2, .int .u64 x), (3, .int .u64 y), (9, .pointer (some ⟨gD, 0, none⟩))] a ∧ MemOk (cxt w0) w0 [(20, Dk.rb (⟨.slice none 0 0, [], (List.replicate 60 zeros), [], -1⟩ : Dk) B9 S9), (21, Dk.ru (⟨.slice none 0 0, [], (List.replicate 60 zeros), [], -1⟩ : Dk)), (22, Dk.rs (⟨.slice none 0 0, [], (List.replicate 60 zeros), [], -1⟩ : Dk) S9), (1, .dat (.slice pa la.length ca) (.l 1 (la.map bD))), (2, .dat (.slice pb lb.length cb) (.l 1 (lb.map bD))), (5, tabR), (6, .box gD 27 [.pointer (some ⟨B9, 0, none⟩)])] w) → K4 a w := by
      clear Hz m3
      rintro Az w45 ⟨B9, S9, gD, hKd, Hz, m45⟩
      refine hK4 _ _ ?_; clear hK4; try clear K4
      refine regS Hz (.makeFunc rfl <| .assign rfl <| .nil) ?_
      clear Hz Az; intro Az Hz
      refine wp_seq_k (fun K5 hK5 => ?_)
      refine regS Hz (.assign rfl <| .nil) ?_
      clear Hz Az; intro Az Hz
      refine wp_block ?_
      refine wp_loop_ghost (fun g a w => ∃ (k : Nat), k ≤ (la ++ lb).length ∧ g = (la ++ lb).length - k ∧ (∀ j, j < k → ((la ++ lb).getD j []).length ≤ 40) ∧ Has 106 [(0, .slice pa la.length ca), (1, .slice pb lb.length cb), (2, .int .u64 x), (3, .int .u64 y), (9, .pointer (some ⟨gD, 0, none⟩)), (10, .func (.func 22) #[] #[.pointer (some ⟨gD, 0, none⟩)]), (11, .int .i64 k)] a ∧ MemOk (cxt w0) w0 [(20, Dk.rb (⟨.slice none 0 0, [], (List.replicate 60 zeros), [], -1⟩ : Dk) B9 S9), (21, Dk.ru (⟨.slice none 0 0, [], (List.replicate 60 zeros), [], -1⟩ : Dk)), (22, Dk.rs (⟨.slice none 0 0, [], (List.replicate 60 zeros), [], -1⟩ : Dk) S9), (1, .dat (.slice pa la.length ca) (.l 1 (la.map bD))), (2, .dat (.slice pb lb.length cb) (.l 1 (lb.map bD))), (5, tabR), (6, .box gD 27 [.pointer (some ⟨B9, 0, none⟩)])] w) ((la ++ lb).length) ?_ ?_
      · exact ⟨0, Nat.zero_le _, rfl, fun j hj => by omega, Hz.only [0, 1, 2, 3, 9, 10, 11], m45.only [20, 21, 22, 1, 2, 5, 6]⟩
      ·
       clear Hz m45
       rintro g Az w49 ⟨k, hkl, hg, hsm, Hz, m49⟩
       refine wp_seq_k (fun K6 hK6 => ?_)
       refine regS Hz (.move rfl <| .move rfl <| .len rfl Tryd.underlying22 <| .move rfl <| .len rfl Tryd.underlying22 <| .add rfl rfl (r := (((la ++ lb).length : Nat) : Int)) (by rw [List.length_append, IntWalk.i64_in _ (by omega)]; omega) <| .lss rfl rfl <| .nil) ?_
       clear Hz Az; intro Az Hz
       refine bool_cases Hz (t := 40) rfl ?_ ?_
       ·
        clear Hz; intro hb57 Hz
        try simp only [Q1x, Q2x, Q3x, Q4x, Q5x, Q6x, Q7x, Q8x, Q9x, Q0x, Qax, Qbx] at hb57
        have hk0 : (k : Int) < (la ++ lb).length := by have := hb57; first | omega | (simp at this; omega)
        have hk : k < (la ++ lb).length := by omega
        refine wp_cond_true (Hz.ev (x := .tmp 40) rfl) ?_
        refine wp_skip ?_
        refine hK6 _ _ ?_; clear hK6; try clear K6
        refine wp_seq_k (fun K7 hK7 => ?_)
        refine wp_block ?_
        replace Hz : Has 106 [(0, _), (1, _), (2, _), (3, _), (9, _), (10, _), (11, _)] Az := Hz.only [0, 1, 2, 3, 9, 10, 11]
        refine wp_seq_k (fun K8 hK8 => ?_)
        refine wp_region_lit ?_
        refine goCh Hz (.move rfl .nil) ?_
        clear Hz Az; intro Az Hz
        have m61 := m49.nilR 200 24 1
        clear m49
        refine wpList_plain rfl (fun K hK => ?_)
        refine e_appR Hz m61 200 rfl rfl rfl (m61.rd (i := 1) rfl) Tryd.underlying22 inf24wgs rfl rfl (by decide) (by simp; omega) rfl ?_
        clear Hz Az m61; intro p62 c62 Az w63 Hz m63
        refine hK _ _ ?_; clear hK K
        refine goCh Hz (.move rfl .nil) ?_
        clear Hz Az; intro Az Hz
        refine wpList_plain rfl (fun K hK => ?_)
        refine e_appR Hz m63 200 rfl rfl rfl (m63.rd (i := 2) rfl) Tryd.underlying22 inf24wgs rfl rfl (by decide) (by simp; omega) rfl ?_
        clear Hz Az m63; intro p65 c65 Az w66 Hz m66
        refine hK _ _ ?_; clear hK K
        have m67 := m66.freezeR 200 rfl; clear m66
        refine goCh Hz (.move rfl .nil) ?_
        clear Hz Az; intro Az Hz
        obtain ⟨b69, o69, vs69, hp69, hR69, ho69, m69⟩ := m67.openR (i := 200) rfl (k) (r := bD ((la ++ lb).getD k [])) (show (([] : List (List D)) ++ la.map bD ++ lb.map bD)[k]? = some (bD ((la ++ lb).getD k [])) from by rw [List.nil_append, ← List.map_append]; exact bD_at hk) 201 rfl
        cases hp69; clear m67 ho69
        rcases hR69 with _ | ⟨hd69_0, _ | _⟩
        obtain ⟨p70, c70, hv70, hc70⟩ := hd69_0.ns_shape; subst hv70
        have m70 := m69.dat 202 rfl (hd69_0.cast (fun _ h => (free_add rfl h))); clear m69 hd69_0
        refine goCh Hz (.c rfl (fun _ h => y_idx h rfl rfl Tryd.underlying22 sz24wgs (k) rfl (show k < (([] : List (List D)) ++ la.map bD ++ lb.map bD).length from by rw [List.nil_append, ← List.map_append, List.length_map]; exact hk)) <| .loadC0 m70 (i := 201) rfl rfl Tryd.underlying24 rfl <| .assign rfl <| .nil) ?_
        clear Hz Az; intro Az Hz
        refine wpList_nil ?_
        refine hK8 _ _ ?_; clear hK8; try clear K8
        replace Hz : Has 106 [(0, _), (1, _), (2, _), (3, _), (9, _), (10, _), (11, _), (12, _)] Az := Hz.only [0, 1, 2, 3, 9, 10, 11, 12]
        refine regS Hz (.move rfl <| .len rfl Tryd.underlying24 <| .gtr rfl rfl <| .nil) ?_
        clear Hz Az; intro Az Hz
        refine bool_cases Hz (t := 52) rfl ?_ ?_
        ·
         clear Hz; intro hb78 Hz
         try simp only [Q1x, Q2x, Q3x, Q4x, Q5x, Q6x, Q7x, Q8x, Q9x, Q0x, Qax, Qbx] at hb78
         refine wp_cond_true (Hz.ev (x := .tmp 52) rfl) ?_
         refine regS Hz (.assign rfl <| .nil) ?_
         clear Hz Az; intro Az Hz
         refine wp_ret ?_
         try dsimp only [Exit.then, Exit.inBlock]
         refine (ret1 (fn := Tryd.f6) Hz rfl rfl ?_)
         exact ⟨by first | rfl | simp, m70.below⟩
        ·
         clear Hz; intro hb78 Hz
         try simp only [Q1x, Q2x, Q3x, Q4x, Q5x, Q6x, Q7x, Q8x, Q9x, Q0x, Qax, Qbx] at hb78
         have hlk : ((la ++ lb).getD k []).length ≤ 40 := by have := hb78; first | omega | (simp at this; simpa using this) | (simp at this ⊢; omega)
         refine wp_cond_false (Hz.ev (x := .tmp 52) rfl) ?_
         refine wp_skip ?_
         refine hK7 _ _ ?_; clear hK7; try clear K7
         refine wp_region_lit ?_
         refine goCh Hz (.move rfl <| .add rfl rfl (r := ((k + 1 : Nat) : Int)) (by rw [IntWalk.i64_in _ (by omega)]; omega) <| .assign rfl <| .nil) ?_
         clear Hz Az; intro Az Hz
         refine wpList_nil ?_
         show ∃ n', n' < _ ∧ _
         have hsm2 : ∀ j, j < k + 1 → ((la ++ lb).getD j []).length ≤ 40 := fun j hj => (Nat.lt_or_ge j k).elim (hsm j) (fun h => by rw [show j = k by omega]; exact hlk)
         exact ⟨(la ++ lb).length - (k + 1), by omega, k + 1, by omega, rfl, hsm2, Hz.only [0, 1, 2, 3, 9, 10, 11], m70.only [20, 21, 22, 1, 2, 5, 6]⟩
       ·
        clear Hz; intro hb57 Hz
        try simp only [Q1x, Q2x, Q3x, Q4x, Q5x, Q6x, Q7x, Q8x, Q9x, Q0x, Qax, Qbx] at hb57
        obtain rfl : k = (la ++ lb).length := by have := hb57; first | omega | (simp at this; simp; omega)
        have hall : ∀ l ∈ la ++ lb, l.length ≤ 40 := fun l hl => by
          obtain ⟨j, hj, rfl⟩ := List.getElem_of_mem hl
          have := hsm j hj
          rw [List.getD, List.getElem?_eq_getElem hj] at this; exact this
        have hla : ∀ l ∈ la, l.length ≤ 40 ∧ BytesL l := fun l hl => ⟨hall l (List.mem_append_left _ hl), hab l hl⟩
        have hlb : ∀ l ∈ lb, l.length ≤ 40 ∧ BytesL l := fun l hl => ⟨hall l (List.mem_append_right _ hl), hbb l hl⟩
        have hna := needN_two (fun l hl => (hla l hl).1)
        have hnb := needN_two (fun l hl => (hlb l hl).1)
        refine wp_cond_false (Hz.ev (x := .tmp 40) rfl) ?_
        refine wp_exit ?_
        refine hK5 _ _ ?_; clear hK5; try clear K5
        refine wp_seq_k (fun K9 hK9 => ?_)
        replace Hz : Has 106 [(0, _), (1, _), (2, _), (3, _), (9, _), (10, _), (11, _)] Az := Hz.only [0, 1, 2, 3, 9, 10, 11]
        refine wp_seq_k (fun K10 hK10 => ?_)
        refine wp_region_lit ?_
        refine goCh Hz (.move rfl <| .move rfl <| .move rfl <| .nil) ?_
        clear Hz Az; intro Az Hz
        refine wpList_plain rfl (fun K hK => ?_)
        refine e_callC Hz rfl Tryd.func22 rfl rfl rfl rfl (put_x _ (⟨.slice none 0 0, [], (List.replicate 60 zeros), [], -1⟩ : Dk) x la _ _ _ _ hKd rfl (by simp) (by simp) (by omega) (by omega) hla (Nat.le_trans h01 m49.keep.2.2.2.1) (m49.into [(1, 20), (2, 21), (3, 22), (4, 1), (5, 5), (6, 6)] (by decide) (passD rfl))) ?_
        rintro e w90 ⟨rfl, Ka, hKa, hla9, hSa, hUa, hm90⟩
        have mx90 := m49.back hm90 [(20, 1), (21, 2), (22, 3), (1, 4), (5, 5), (6, 6)] (by decide); clear hm90 m49
        have m90 : MemOk _ _ [(20, _), (21, _), (22, _), (1, _), (5, _), (6, _), (2, _)] _ := mx90.only [20, 21, 22, 1, 5, 6, 2]; clear mx90
        refine ⟨_, rfl, ?_⟩; clear Hz Az; intro Az Hz
        refine hK _ _ ?_; clear hK K
        refine goCh Hz (.not rfl <| .move rfl <| .moveZ rfl <| .moveZ rfl <| .moveZ rfl <| .nil) ?_
        clear Hz Az; intro Az Hz
        refine st_ge Hz rfl rfl rfl rfl (fun K hK => ?_)
        refine e_callC Hz rfl Tryd.func22 rfl rfl rfl rfl (put_x _ Ka y lb _ _ _ _ hKa hla9 (by rw [hUa]; simp; omega) (by rw [hSa, putRs_len]; simp) (by omega) (by omega) hlb (Nat.le_trans h01 m90.keep.2.2.2.1) (m90.into [(1, 20), (2, 21), (3, 22), (4, 2), (5, 5), (6, 6)] (by decide) (passD rfl))) ?_
        rintro e w97 ⟨rfl, Kb, hKb, hlb9, hSb, hUb, hm97⟩
        have mx97 := m90.back hm97 [(20, 1), (21, 2), (22, 3), (2, 4), (5, 5), (6, 6)] (by decide); clear hm97 m90
        have m97 : MemOk _ _ [(20, _), (21, _), (22, _), (2, _), (5, _), (6, _), (1, _)] _ := mx97.only [20, 21, 22, 2, 5, 6, 1]; clear mx97
        refine ⟨_, rfl, ?_⟩; clear Hz Az; intro Az Hz
        refine hK _ _ ?_; clear hK K
        refine goCh Hz (.notZ rfl <| .pickF rfl rfl <| .nil) ?_
        clear Hz Az; intro Az Hz
        refine wpList_nil ?_
        refine hK10 _ _ ?_; clear hK10; try clear K10
        refine wp_cond_false (Hz.ev (x := .tmp 64) rfl) ?_
        refine wp_skip ?_
        refine hK9 _ _ ?_; clear hK9; try clear K9
        refine wp_seq_k (fun K11 hK11 => ?_)
        obtain ⟨hV0, hV1⟩ := gens_scan hx hy hxy (by omega) (by omega) (fun l hl => by have := (hla l hl).1; omega) (fun l hl => by have := (hlb l hl).1; omega) hSa hSb
        by_cases hb0 : lb = []
        ·
         rw [if_pos hb0] at hV1
         replace Hz : Has 106 [(0, _), (1, _), (2, _), (3, _), (9, _), (10, _), (11, _)] Az := Hz.only [0, 1, 2, 3, 9, 10, 11]
         refine wp_region_lit ?_
         refine goCh Hz (.loadB1 m97 (i := 6) rfl rfl rfl Tryd.underlying27 rfl <| .move rfl <| .nil) ?_
         clear Hz Az; intro Az Hz
         refine wpList_plain rfl (fun K hK => ?_)
         refine e_call Hz Tryd.func15 rfl rfl rfl rfl (scan_v (L := lb) (o := (needN lb : Int)) 0 60 y _ (Dk.is hKb m97 (i := 20) (j := 21) (k := 22) rfl rfl rfl) (m97.tabr (i := 5) rfl) (Nat.le_trans h01 m97.keep.2.2.2.1) (by omega) (by omega) (by omega) (by omega) (by rw [hSb, putRs_len, hSa, putRs_len]; simp) hV0) ?_
         rintro e w104 ⟨p104, c104, rfl, hd104, hb104⟩
         have m105 := m97.callF 200 rfl hb104 hd104
         clear m97
         clear hb104 hd104
         refine ⟨_, rfl, ?_⟩; clear Hz Az; intro Az Hz
         refine hK _ _ ?_; clear hK K
         refine goCh Hz (.move rfl <| .extract rfl rfl <| .extract rfl rfl <| .assign rfl <| .assign rfl <| .nil) ?_
         clear Hz Az; intro Az Hz
         refine wpList_nil ?_
         refine hK11 _ _ ?_; clear hK11; try clear K11
         replace Hz : Has 106 [(0, _), (1, _), (2, _), (3, _), (9, _), (10, _), (11, _), (13, _), (14, _)] Az := Hz.only [0, 1, 2, 3, 9, 10, 11, 13, 14]
         refine wp_seq_k (fun K12 hK12 => ?_)
         refine wp_region_lit ?_
         refine goCh Hz (.loadB1 m105 (i := 6) rfl rfl rfl Tryd.underlying27 rfl <| .move rfl <| .nil) ?_
         clear Hz Az; intro Az Hz
         refine wpList_plain rfl (fun K hK => ?_)
         refine e_call Hz Tryd.func15 rfl rfl rfl rfl (scan_v (L := la) (o := (needN la : Int)) 0 60 x _ (Dk.is hKb m105 (i := 20) (j := 21) (k := 22) rfl rfl rfl) (m105.tabr (i := 5) rfl) (Nat.le_trans h01 m105.keep.2.2.2.1) (by omega) (by omega) (by omega) (by omega) (by rw [hSb, putRs_len, hSa, putRs_len]; simp) hV1) ?_
         rintro e w117 ⟨p117, c117, rfl, hd117, hb117⟩
         have m118 := m105.callF 201 rfl hb117 hd117
         clear m105
         clear hb117 hd117
         refine ⟨_, rfl, ?_⟩; clear Hz Az; intro Az Hz
         refine hK _ _ ?_; clear hK K
         refine goCh Hz (.move rfl <| .extract rfl rfl <| .extract rfl rfl <| .assign rfl <| .assign rfl <| .nil) ?_
         clear Hz Az; intro Az Hz
         refine wpList_nil ?_
         refine hK12 _ _ ?_; clear hK12; try clear K12
         replace Hz : Has 106 [(0, _), (1, _), (2, _), (3, _), (9, _), (10, _), (11, _), (13, _), (14, _), (15, _)] Az := Hz.only [0, 1, 2, 3, 9, 10, 11, 13, 14, 15]
         refine wp_seq_k (fun K13 hK13 => ?_)
         refine wp_region_lit ?_
         refine goCh Hz (.move rfl <| .move rfl <| .nil) ?_
         clear Hz Az; intro Az Hz
         refine wpList_plain rfl (fun K hK => ?_)
         refine e_call Hz Tryd.func17 rfl rfl rfl rfl (bodies_any lb _ _ _ _ _ _ _ (m118.rd (i := 200) rfl).any (m118.rd (i := 2) rfl).any (by omega)) ?_
         rintro e w130 ⟨rfl, hb130⟩
         have m131 := m118.later hb130
         clear m118
         clear hb130
         refine ⟨_, rfl, ?_⟩; clear Hz Az; intro Az Hz
         refine hK _ _ ?_; clear hK K
         refine goCh Hz (.move rfl <| .moveZ rfl <| .moveZ rfl <| .nil) ?_
         clear Hz Az; intro Az Hz
         refine st_ge Hz rfl rfl rfl rfl (fun K hK => ?_)
         refine e_call Hz Tryd.func13 rfl rfl rfl rfl (need_x lb _ _ _ (m131.rd (i := 2) rfl).any (by omega) (fun l hl => by have := (hlb l hl).1; omega)) ?_
         rintro e w136 ⟨rfl, hb136⟩
         have m137 := m131.later hb136
         clear m131
         clear hb136
         refine ⟨_, rfl, ?_⟩; clear Hz Az; intro Az Hz
         refine hK _ _ ?_; clear hK K
         refine goCh Hz (.eqlZ rfl rfl <| .pickT rfl rfl <| .move rfl <| .nil) ?_
         clear Hz Az; intro Az Hz
         refine bool_cases Hz (t := 86) rfl ?_ ?_
         rotate_left
         · intro hb _; exact absurd hb (by simp)
         clear Hz; intro _ Hz
         refine goCh Hz (.moveZ rfl <| .lenZ rfl Tryd.underlying22 <| .gtrZ rfl rfl <| .moveZ rfl <| .nil) ?_
         clear Hz Az; intro Az Hz
         refine bool_cases Hz (t := 90) rfl ?_ ?_
         · intro hb _; exact absurd hb (by rw [hb0]; simp)
         clear Hz; intro _ Hz
         refine goCh Hz (.sk <| .sk <| .sk <| .pickFZ rfl rfl <| .moveZ rfl <| .moveZ rfl <| .lenZ rfl Tryd.underlying22 <| .eqlZ rfl rfl <| .moveZ rfl <| .nil) ?_
         clear Hz Az; intro Az Hz
         refine bool_cases Hz (t := 99) rfl ?_ ?_
         rotate_left
         · intro hb _; exact absurd hb (by rw [hb0]; simp)
         clear Hz; intro _ Hz
         refine goCh Hz (.moveZ rfl <| .moveZ rfl <| .nil) ?_
         clear Hz Az; intro Az Hz
         refine st_ge Hz rfl rfl rfl rfl (fun K hK => ?_)
         refine e_call Hz Tryd.func17 rfl rfl rfl rfl (bodies_any la _ _ _ _ _ _ _ (m137.rd (i := 201) rfl).any (m137.rd (i := 1) rfl).any (by omega)) ?_
         rintro e w160 ⟨rfl, hb160⟩
         have m161 := m137.later hb160
         clear m137
         clear hb160
         refine ⟨_, rfl, ?_⟩; clear Hz Az; intro Az Hz
         refine hK _ _ ?_; clear hK K
         refine goCh Hz (.pickTZ rfl rfl <| .pickFZ rfl rfl <| .pickT rfl rfl <| .assign rfl <| .nil) ?_
         clear Hz Az; intro Az Hz
         refine wpList_nil ?_
         refine hK13 _ _ ?_; clear hK13; try clear K13
         refine wp_ret ?_
         try dsimp only [Exit.then, Exit.inBlock]
         refine (ret1 (fn := Tryd.f6) Hz rfl rfl ?_)
         exact ⟨by first | rfl | simp, m161.below⟩
        ·
         rw [if_neg hb0] at hV1
         have hb1 : 0 < lb.length := List.length_pos_iff.2 hb0
         replace Hz : Has 106 [(0, _), (1, _), (2, _), (3, _), (9, _), (10, _), (11, _)] Az := Hz.only [0, 1, 2, 3, 9, 10, 11]
         refine wp_region_lit ?_
         refine goCh Hz (.loadB1 m97 (i := 6) rfl rfl rfl Tryd.underlying27 rfl <| .move rfl <| .nil) ?_
         clear Hz Az; intro Az Hz
         refine wpList_plain rfl (fun K hK => ?_)
         refine e_call Hz Tryd.func15 rfl rfl rfl rfl (scan_v (L := lb) (o := (needN lb : Int)) 0 60 y _ (Dk.is hKb m97 (i := 20) (j := 21) (k := 22) rfl rfl rfl) (m97.tabr (i := 5) rfl) (Nat.le_trans h01 m97.keep.2.2.2.1) (by omega) (by omega) (by omega) (by omega) (by rw [hSb, putRs_len, hSa, putRs_len]; simp) hV0) ?_
         rintro e w170 ⟨p170, c170, rfl, hd170, hb170⟩
         have m171 := m97.callF 200 rfl hb170 hd170
         clear m97
         clear hb170 hd170
         refine ⟨_, rfl, ?_⟩; clear Hz Az; intro Az Hz
         refine hK _ _ ?_; clear hK K
         refine goCh Hz (.move rfl <| .extract rfl rfl <| .extract rfl rfl <| .assign rfl <| .assign rfl <| .nil) ?_
         clear Hz Az; intro Az Hz
         refine wpList_nil ?_
         refine hK11 _ _ ?_; clear hK11; try clear K11
         replace Hz : Has 106 [(0, _), (1, _), (2, _), (3, _), (9, _), (10, _), (11, _), (13, _), (14, _)] Az := Hz.only [0, 1, 2, 3, 9, 10, 11, 13, 14]
         refine wp_seq_k (fun K14 hK14 => ?_)
         refine wp_region_lit ?_
         refine goCh Hz (.loadB1 m171 (i := 6) rfl rfl rfl Tryd.underlying27 rfl <| .move rfl <| .nil) ?_
         clear Hz Az; intro Az Hz
         refine wpList_plain rfl (fun K hK => ?_)
         refine e_call Hz Tryd.func15 rfl rfl rfl rfl (scan_v (L := []) (o := 0) 0 60 x _ (Dk.is hKb m171 (i := 20) (j := 21) (k := 22) rfl rfl rfl) (m171.tabr (i := 5) rfl) (Nat.le_trans h01 m171.keep.2.2.2.1) (by omega) (by omega) (by omega) (by omega) (by rw [hSb, putRs_len, hSa, putRs_len]; simp) hV1) ?_
         rintro e w183 ⟨p183, c183, rfl, hd183, hb183⟩
         have m184 := m171.callF 201 rfl hb183 hd183
         clear m171
         clear hb183 hd183
         refine ⟨_, rfl, ?_⟩; clear Hz Az; intro Az Hz
         refine hK _ _ ?_; clear hK K
         refine goCh Hz (.move rfl <| .extract rfl rfl <| .extract rfl rfl <| .assign rfl <| .assign rfl <| .nil) ?_
         clear Hz Az; intro Az Hz
         refine wpList_nil ?_
         refine hK14 _ _ ?_; clear hK14; try clear K14
         replace Hz : Has 106 [(0, _), (1, _), (2, _), (3, _), (9, _), (10, _), (11, _), (13, _), (14, _), (15, _)] Az := Hz.only [0, 1, 2, 3, 9, 10, 11, 13, 14, 15]
         refine wp_seq_k (fun K15 hK15 => ?_)
         refine wp_region_lit ?_
         refine goCh Hz (.move rfl <| .move rfl <| .nil) ?_
         clear Hz Az; intro Az Hz
         refine wpList_plain rfl (fun K hK => ?_)
         refine e_call Hz Tryd.func17 rfl rfl rfl rfl (bodies_any lb _ _ _ _ _ _ _ (m184.rd (i := 200) rfl).any (m184.rd (i := 2) rfl).any (by omega)) ?_
         rintro e w196 ⟨rfl, hb196⟩
         have m197 := m184.later hb196
         clear m184
         clear hb196
         refine ⟨_, rfl, ?_⟩; clear Hz Az; intro Az Hz
         refine hK _ _ ?_; clear hK K
         refine goCh Hz (.move rfl <| .moveZ rfl <| .moveZ rfl <| .nil) ?_
         clear Hz Az; intro Az Hz
         refine st_ge Hz rfl rfl rfl rfl (fun K hK => ?_)
         refine e_call Hz Tryd.func13 rfl rfl rfl rfl (need_x lb _ _ _ (m197.rd (i := 2) rfl).any (by omega) (fun l hl => by have := (hlb l hl).1; omega)) ?_
         rintro e w202 ⟨rfl, hb202⟩
         have m203 := m197.later hb202
         clear m197
         clear hb202
         refine ⟨_, rfl, ?_⟩; clear Hz Az; intro Az Hz
         refine hK _ _ ?_; clear hK K
         refine goCh Hz (.eqlZ rfl rfl <| .pickT rfl rfl <| .move rfl <| .nil) ?_
         clear Hz Az; intro Az Hz
         refine bool_cases Hz (t := 86) rfl ?_ ?_
         rotate_left
         · intro hb _; exact absurd hb (by simp)
         clear Hz; intro _ Hz
         refine goCh Hz (.moveZ rfl <| .lenZ rfl Tryd.underlying22 <| .gtrZ rfl rfl <| .moveZ rfl <| .nil) ?_
         clear Hz Az; intro Az Hz
         refine bool_cases Hz (t := 90) rfl ?_ ?_
         rotate_left
         · intro hb _; exact absurd hb (by rw [decide_eq_false_iff_not, Decidable.not_not]; omega)
         clear Hz; intro _ Hz
         refine goCh Hz (.moveZ rfl <| .lenZ rfl Tryd.underlying22 <| .eqlZ rfl rfl <| .pickTZ rfl rfl <| .moveZ rfl <| .nil) ?_
         clear Hz Az; intro Az Hz
         refine bool_cases Hz (t := 95) rfl ?_ ?_
         rotate_left
         · intro hb _; exact absurd hb (by simp)
         clear Hz; intro _ Hz
         refine goCh Hz (.sk <| .sk <| .sk <| .sk <| .nil) ?_
         clear Hz Az; intro Az Hz
         refine st_skipU Hz rfl rfl rfl rfl ?_
         clear Hz Az; intro Az Hz
         refine st_skipU Hz rfl rfl rfl rfl ?_
         clear Hz Az; intro Az Hz
         refine st_skipU Hz rfl rfl rfl rfl ?_
         clear Hz Az; intro Az Hz
         refine goCh Hz (.sk <| .pickTZ rfl rfl <| .pickT rfl rfl <| .assign rfl <| .nil) ?_
         clear Hz Az; intro Az Hz
         refine wpList_nil ?_
         refine hK15 _ _ ?_; clear hK15; try clear K15
         refine wp_ret ?_
         try dsimp only [Exit.then, Exit.inBlock]
         refine (ret1 (fn := Tryd.f6) Hz rfl rfl ?_)
         exact ⟨by first | rfl | simp, m203.below⟩
    replace Hz : Has 106 [(0, _), (1, _), (2, _), (3, _), (8, _)] Az := Hz.only [0, 1, 2, 3, 8]
    refine wp_region_lit ?_
    refine wpList_plain rfl (fun K hK => ?_)
    refine e_call Hz Tryd.func8 rfl rfl rfl rfl (kdnew 60 60 rfl (by omega) _) ?_
    rintro e w232 ⟨B9, S9, rfl, hS232, hD232, hb232⟩
    obtain ⟨hKd, md232⟩ := m3.newD 20 hb232 hS232 hD232
    clear hb232 hS232 hD232
    refine ⟨_, rfl, ?_⟩; clear Hz Az; intro Az Hz
    refine hK _ _ ?_; clear hK K
    have m234 : MemOk _ _ [(20, Dk.rb (⟨.slice none 0 0, [], (List.replicate 60 zeros), [], -1⟩ : Dk) B9 S9), (21, Dk.ru (⟨.slice none 0 0, [], (List.replicate 60 zeros), [], -1⟩ : Dk)), (22, Dk.rs (⟨.slice none 0 0, [], (List.replicate 60 zeros), [], -1⟩ : Dk) S9), (1, _), (2, _), (5, _)] _ := md232.only [20, 21, 22, 1, 2, 5]; clear md232 m3
    refine wpList_plain rfl (fun K hK => ?_)
    refine e_alloc Hz m234 30 zc27wgs rfl ?_
    clear Hz Az m234; intro g235 Az w236 Hz m236 hB236 hg236
    clear hB236 hg236
    refine hK _ _ ?_; clear hK K
    refine wpList_plain rfl (fun K hK => ?_)
    refine e_store1 Hz m236 30 rfl rfl rfl rfl rfl sz27wgs (by dsimp only [List.set] <;> rfl) ?_
    clear m236; intro w237 m237 hB237
    clear hB237
    refine hK _ _ ?_; clear hK K
    refine wpList_nil ?_
    show K4 _ _
    exact hC4 _ _ ⟨_, _, _, hKd, Hz.only [0, 1, 2, 3, 9], m237.ren [(20, 20), (21, 21), (22, 22), (1, 1), (2, 2), (5, 5), (6, 30)] (by decide)⟩
end Go.Proofs.YtogjhjiapinmcaaDoor.K
