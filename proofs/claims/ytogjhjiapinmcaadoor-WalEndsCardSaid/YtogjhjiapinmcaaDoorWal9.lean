/- WalEnds. -/
import Derived.Test.YtogjhjiapinmcaaDoorWalE
import Derived.Test.YtogjhjiapinmcaaDoorWalBo
namespace Go.Proofs.YtogjhjiapinmcaaDoor.K
open Go.ChangeShapes Go.WideShapes Go.ChangeAt Go.RowKit
set_option linter.unusedVariables false
set_option linter.unusedSimpArgs false

theorem inf24wen : (Tryd.prog.info? 24).map (fun i => (i.zero, i.size, i.bytes)) = some (some (.slice none 0 0), 1, 24) := by kernel_rfl
theorem sz24wen : (Tryd.prog.info? 24).map (·.size) = some 1 := by kernel_rfl

set_option maxRecDepth 100000
set_option maxHeartbeats 4000000
theorem needN_60 : ∀ {ls : List (List Int)}, (∀ l ∈ ls, l.length ≤ 60) → needN ls ≤ 2 * ls.length
 | [], _ => Nat.zero_le _
 | b :: t, h => by
   have h1 := h b List.mem_cons_self
   have h2 := needN_60 (ls := t) (fun l hl => h l (List.mem_cons_of_mem _ hl))
   have h3 := recN_le (n := b.length)
   rw [needN, List.length_cons]
   unfold secN
   omega
theorem take_all {ls : List (List Int)} {k : Nat} {hk : k < ls.length} (hsm : ∀ j, j < k → (ls.getD j []).length ≤ 60) (hlk : (ls.getD k []).length ≤ 60) : ∀ l ∈ ls.take (k + 1), l.length ≤ 60 := fun l hl => by
 obtain ⟨j, hj, rfl⟩ := List.getElem_of_mem hl
 rw [List.length_take] at hj
 rw [List.getElem_take]
 have h1 : (ls.getD j []).length ≤ 60 := (Nat.lt_or_ge j k).elim (hsm j) (fun h => by rw [show j = k by omega]; exact hlk)
 rw [List.getD, List.getElem?_eq_getElem (by omega)] at h1
 exact h1
theorem takeB {ls : List (List Int)} {k : Nat} (hk : k < ls.length) : (ls.take (k + 1)).map bD = (ls.take k).map bD ++ [[D.ns .u8 (ls.getD k [])]] := by
 rw [List.take_succ_eq_append_getElem hk, List.map_append, List.getD, List.getElem?_eq_getElem hk]; rfl
theorem needN_pre {sure l : List (List Int)} {k : Nat} (h : sure.length ≤ k) : needN sure ≤ needN ((sure ++ l).take k) := by
 rw [List.take_append, List.take_of_length_le h, needN_app]; omega
theorem getD_left {sure l : List (List Int)} {k : Nat} (h : k < sure.length) : (sure ++ l).getD k [] = sure.getD k [] := by
 rw [List.getD, List.getElem?_append_left h]; rfl
theorem getD_right {sure l : List (List Int)} {k : Nat} (h : sure.length ≤ k) : (sure ++ l).getD k [] = l.getD (k - sure.length) [] := by
 rw [List.getD, List.getElem?_append_right h]; rfl
theorem rdCap {S : Nat → Prop} {w : World} {p : Option Addr} {n c mm : Nat} {rows : List (List D)} (h : Rd S w (.slice p n c) (.l mm rows)) : rows.length ≤ c := by
 obtain ⟨p', c', hv, hc⟩ := h.l_shape
 injection hv with _ _ e
 omega
theorem rdTakeL {S : Nat → Prop} {w : World} {p : Option Addr} {c j : Nat} {ls : List (List Int)} (h : Rd S w (.slice p ls.length c) (.l 1 (ls.map bD))) (hj : j ≤ ls.length) : Rd S w (.slice p (ls.take j).length c) (.l 1 ((ls.take j).map bD)) := by
 have h1 := h.takeL j (by rw [List.length_map]; exact hj)
 rw [← List.map_take] at h1
 rw [show (ls.take j).length = j by rw [List.length_take]; omega]
 exact h1
theorem ends_walk (sure l : List (List Int)) (mask torn : Int) (ps pl : Option Addr) (cs cl : Nat) (w0 : World) (hT : TabOk w0) (h01 : 1 ≤ w0.heap.size) (ha0 : Rd (fun _ => True) w0 (.slice ps sure.length cs) (.l 1 (sure.map bD))) (hb0' : Rd (fun _ => True) w0 (.slice pl l.length cl) (.l 1 (l.map bD))) (hLb : ∀ x ∈ sure ++ l, BytesL x) (hm0 : 0 ≤ mask) (hm1 : mask ≤ 18446744073709551615) (ht0 : -9223372036854775808 ≤ torn) (ht1 : torn ≤ 9223372036854775807) :
   Calls Tryd.prog 4 #[.slice ps sure.length cs, .slice pl l.length cl, .int .u64 mask, .int .i64 torn] w0 fun e w' => e = .returned (.bool true) ∧ Below w0.heap.size w0 w' := by
 refine enter (fn := Tryd.f4) Tryd.func4 rfl Tryd.ntmps4 rfl (fun Az Hz => ?_)
 simp only [List.zipIdx_cons, List.zipIdx_nil, List.map_cons, List.map_nil, Nat.reduceAdd, Nat.zero_add] at Hz
 have hll9 : (sure ++ l).length = sure.length + l.length := List.length_append
 have m00 := MemOk.start (fun _ => True) w0
 have m01 := m00.addTab 5 rfl hT h01 ⟨fun _ => trivial, fun ⟨i, r, h, _⟩ => by cases h⟩
 have m02 := m01.dat 1 rfl (m01.old ha0)
 have m0 := m02.dat 2 rfl (m02.old hb0')
 clear m00 m01 m02
 refine regS Hz (.assign rfl <| .nil) ?_
 clear Hz Az; intro Az Hz
 refine wp_seq_k (fun K0 hK0 => ?_)
 refine wp_seq_k (fun K1 hK1 => ?_)
 refine wp_region_lit ?_
 refine wpList_plain rfl (fun K hK => ?_)
 refine e_call Hz Tryd.func7 rfl rfl rfl rfl (known_x _ (hT.below m0.below h01) (Nat.le_trans h01 m0.below.size)) ?_
 rintro e w2 ⟨rfl, hb2⟩
 have m3 := m0.later hb2
 clear m0
 clear hb2
 refine ⟨_, rfl, ?_⟩; clear Hz Az; intro Az Hz
 refine hK _ _ ?_; clear hK K
 refine goCh Hz (.not rfl .nil) ?_
 clear Hz Az; intro Az Hz
 refine wpList_nil ?_
 refine hK1 _ _ ?_; clear hK1; try clear K1
 refine wp_cond_false (Hz.ev (x := .tmp 19) rfl) ?_
 refine wp_skip ?_
 refine hK0 _ _ ?_; clear hK0; try clear K0
 refine wp_seq_k (fun K2 hK2 => ?_)
 refine wp_seq_k (fun K3 hK3 => ?_)
 refine wp_region_lit ?_
 refine goCh Hz (.move rfl <| .len rfl Tryd.underlying22 <| .gtr rfl rfl <| .move rfl <| .nil) ?_
 clear Hz Az; intro Az Hz
 refine bool_cases Hz (t := 23) rfl ?_ ?_
 ·
  clear Hz; intro hb14 Hz
  try simp only [Q1x, Q2x, Q3x, Q4x, Q5x, Q6x, Q7x, Q8x, Q9x, Q0x, Qax, Qbx] at hb14
  refine goCh Hz (.sk <| .sk <| .sk <| .pickT rfl rfl <| .nil) ?_
  clear Hz Az; intro Az Hz
  refine wpList_nil ?_
  refine hK3 _ _ ?_; clear hK3; try clear K3
  refine wp_cond_true (Hz.ev (x := .tmp 27) rfl) ?_
  replace Hz : Has 110 [(0, _), (1, _), (2, _), (3, _), (8, _)] Az := Hz.only [0, 1, 2, 3, 8]
  refine regS Hz (.assign rfl <| .nil) ?_
  clear Hz Az; intro Az Hz
  refine wp_ret ?_
  try dsimp only [Exit.then, Exit.inBlock]
  refine (ret1 (fn := Tryd.f4) Hz rfl rfl ?_)
  exact ⟨by first | rfl | simp, m3.below⟩
 ·
  clear Hz; intro hb14 Hz
  try simp only [Q1x, Q2x, Q3x, Q4x, Q5x, Q6x, Q7x, Q8x, Q9x, Q0x, Qax, Qbx] at hb14
  have hs5 : sure.length ≤ 5 := by have := hb14; first | omega | (simp at this; omega)
  refine goCh Hz (.moveZ rfl <| .lenZ rfl Tryd.underlying22 <| .gtrZ rfl rfl <| .pickF rfl rfl <| .nil) ?_
  clear Hz Az; intro Az Hz
  refine wpList_nil ?_
  refine hK3 _ _ ?_; clear hK3; try clear K3
  refine bool_cases Hz (t := 27) rfl ?_ ?_
  ·
   clear Hz; intro hb25 Hz
   try simp only [Q1x, Q2x, Q3x, Q4x, Q5x, Q6x, Q7x, Q8x, Q9x, Q0x, Qax, Qbx] at hb25
   refine wp_cond_true (Hz.ev (x := .tmp 27) rfl) ?_
   replace Hz : Has 110 [(0, _), (1, _), (2, _), (3, _), (8, _)] Az := Hz.only [0, 1, 2, 3, 8]
   refine regS Hz (.assign rfl <| .nil) ?_
   clear Hz Az; intro Az Hz
   refine wp_ret ?_
   try dsimp only [Exit.then, Exit.inBlock]
   refine (ret1 (fn := Tryd.f4) Hz rfl rfl ?_)
   exact ⟨by first | rfl | simp, m3.below⟩
  ·
   clear Hz; intro hb25 Hz
   try simp only [Q1x, Q2x, Q3x, Q4x, Q5x, Q6x, Q7x, Q8x, Q9x, Q0x, Qax, Qbx] at hb25
   have hl5 : l.length ≤ 5 := by have := hb25; first | omega | (simp at this; omega)
   refine wp_cond_false (Hz.ev (x := .tmp 27) rfl) ?_
   refine wp_skip ?_
   refine hK2 _ _ ?_; clear hK2; try clear K2
   replace Hz : Has 110 [(0, _), (1, _), (2, _), (3, _), (8, _)] Az := Hz.only [0, 1, 2, 3, 8]
   refine wp_seq_k (fun K4 hK4 => ?_)
   refine wp_region_lit ?_
   refine wpList_plain rfl (fun K hK => ?_)
   refine e_call Hz Tryd.func8 rfl rfl rfl rfl (kdnew 40 40 rfl (by omega) _) ?_
   rintro e w29 ⟨B9, S9, rfl, hS29, hD29, hb29⟩
   obtain ⟨hKd, md29⟩ := m3.newD 20 hb29 hS29 hD29
   clear hb29 hS29 hD29
   refine ⟨_, rfl, ?_⟩; clear Hz Az; intro Az Hz
   refine hK _ _ ?_; clear hK K
   have m31 : MemOk _ _ [(20, Dk.rb (⟨.slice none 0 0, [], (List.replicate 40 zeros), [], -1⟩ : Dk) B9 S9), (21, Dk.ru (⟨.slice none 0 0, [], (List.replicate 40 zeros), [], -1⟩ : Dk)), (22, Dk.rs (⟨.slice none 0 0, [], (List.replicate 40 zeros), [], -1⟩ : Dk) S9), (1, _), (2, _), (5, _)] _ := md29.only [20, 21, 22, 1, 2, 5]; clear md29 m3
   refine goCh Hz (.assign rfl .nil) ?_
   clear Hz Az; intro Az Hz
   refine wpList_nil ?_
   refine hK4 _ _ ?_; clear hK4; try clear K4
   refine regS Hz (.assign rfl <| .nil) ?_
   clear Hz Az; intro Az Hz
   refine regS Hz (.assign rfl <| .nil) ?_
   clear Hz Az; intro Az Hz
   refine wp_seq_k (fun K5 hK5 => ?_)
   refine regS Hz (.assign rfl <| .nil) ?_
   clear Hz Az; intro Az Hz
   refine wp_block ?_
   refine wp_loop_ghost (fun g a w => ∃ (k : Nat) (KH : Dk) (p : Option Addr) (c : Nat), k ≤ (sure ++ l).length ∧ g = (sure ++ l).length - k ∧ (∀ j, j < k → ((sure ++ l).getD j []).length ≤ 60) ∧ KH.ok B9 S9 ∧ KH.l = -1 ∧ KH.secs = putRs (List.replicate 40 zeros) 9 0 ((sure ++ l).take k) ∧ KH.uns.length ≤ 2 * k ∧ (sure.length < k → Uns KH.secs KH.uns (putRs (List.replicate 40 zeros) 9 0 sure) (needN sure) (needN ((sure ++ l).take k))) ∧ Has 110 [(0, .slice ps sure.length cs), (1, .slice pl l.length cl), (2, .int .u64 mask), (3, .int .i64 torn), (9, .pointer (some ⟨B9, 0, none⟩)), (10, .slice p ((sure ++ l).take k).length c), (11, .int .i64 (needN ((sure ++ l).take k) : Nat)), (12, .int .i64 k)] a ∧ MemOk (cxt w0) w0 [(20, KH.rb B9 S9), (21, KH.ru), (22, KH.rs S9), (1, .dat (.slice ps sure.length cs) (.l 1 (sure.map bD))), (2, .dat (.slice pl l.length cl) (.l 1 (l.map bD))), (5, tabR), (8, .row (.slice p ((sure ++ l).take k).length c) 24 1 (((sure ++ l).take k).map bD))] w) ((sure ++ l).length) ?_ ?_
   · have mz := m31.nilR 8 24 1
     exact ⟨0, (⟨.slice none 0 0, [], (List.replicate 40 zeros), [], -1⟩ : Dk), _, _, Nat.zero_le _, rfl, fun j hj => by omega, hKd, rfl, rfl, by simp, fun h => by omega, Hz.only [0, 1, 2, 3, 9, 10, 11, 12], mz.only [20, 21, 22, 1, 2, 5, 8]⟩
   ·
    clear Hz m31
    rintro g Az w36 ⟨k, KH, p, c, hkl, hg, hsm, hKH, hl9, hS9, hUl, hU9, Hz, m36⟩
    refine wp_seq_k (fun K6 hK6 => ?_)
    refine regS Hz (.move rfl <| .move rfl <| .len rfl Tryd.underlying22 <| .move rfl <| .len rfl Tryd.underlying22 <| .add rfl rfl (r := (((sure ++ l).length : Nat) : Int)) (by rw [List.length_append, IntWalk.i64_in _ (by omega)]; omega) <| .lss rfl rfl <| .nil) ?_
    clear Hz Az; intro Az Hz
    refine bool_cases Hz (t := 35) rfl ?_ ?_
    ·
     clear Hz; intro hb44 Hz
     try simp only [Q1x, Q2x, Q3x, Q4x, Q5x, Q6x, Q7x, Q8x, Q9x, Q0x, Qax, Qbx] at hb44
     have hk0 : (k : Int) < (sure ++ l).length := by have := hb44; first | omega | (simp at this; omega)
     have hk : k < (sure ++ l).length := by omega
     have hLbk : BytesL ((sure ++ l).getD k []) := hLb _ (by rw [List.getD, List.getElem?_eq_getElem hk]; exact List.getElem_mem hk)
     refine wp_cond_true (Hz.ev (x := .tmp 35) rfl) ?_
     refine wp_skip ?_
     refine hK6 _ _ ?_; clear hK6; try clear K6
     refine wp_seq_k (fun K7 hK7 => ?_)
     refine wp_block ?_
     refine wp_seq_k (fun K8 hK8 => ?_)
     have hC8 : ∀ (a : Act) (w : World), (∃ (KE : Dk), KE.ok B9 S9 ∧ KE.l = -1 ∧ KE.secs = putRs (List.replicate 40 zeros) 9 0 ((sure ++ l).take k) ∧ KE.uns.length ≤ 2 * k ∧ (sure.length ≤ k → Uns KE.secs KE.uns (putRs (List.replicate 40 zeros) 9 0 sure) (needN sure) (needN ((sure ++ l).take k))) ∧ Has 110 [(0, .slice ps sure.length cs), (1, .slice pl l.length cl), (2, .int .u64 mask), (3, .int .i64 torn), (9, .pointer (some ⟨B9, 0, none⟩)), (10, .slice p ((sure ++ l).take k).length c), (11, .int .i64 (needN ((sure ++ l).take k) : Nat)), (12, .int .i64 k)] a ∧ MemOk (cxt w0) w0 [(20, KE.rb B9 S9), (21, KE.ru), (22, KE.rs S9), (1, .dat (.slice ps sure.length cs) (.l 1 (sure.map bD))), (2, .dat (.slice pl l.length cl) (.l 1 (l.map bD))), (5, tabR), (8, .row (.slice p ((sure ++ l).take k).length c) 24 1 (((sure ++ l).take k).map bD))] w) → K8 a w := by
       clear Hz m36
       rintro Az w45 ⟨KE, hKE, hl8, hS8, hUl8, hU8, Hz, m45⟩
       refine hK8 _ _ ?_; clear hK8; try clear K8
       refine regS Hz (.assign rfl <| .nil) ?_
       clear Hz Az; intro Az Hz
       refine wp_seq_k (fun K9 hK9 => ?_)
       have hC9 : ∀ (a : Act) (w : World), (∃ (pz : Option Addr) (cz : Nat), Has 110 [(0, .slice ps sure.length cs), (1, .slice pl l.length cl), (2, .int .u64 mask), (3, .int .i64 torn), (9, .pointer (some ⟨B9, 0, none⟩)), (10, .slice p ((sure ++ l).take k).length c), (11, .int .i64 (needN ((sure ++ l).take k) : Nat)), (12, .int .i64 k), (13, .slice pz ((sure ++ l).getD k []).length cz)] a ∧ MemOk (cxt w0) w0 [(20, KE.rb B9 S9), (21, KE.ru), (22, KE.rs S9), (1, .dat (.slice ps sure.length cs) (.l 1 (sure.map bD))), (2, .dat (.slice pl l.length cl) (.l 1 (l.map bD))), (5, tabR), (8, .row (.slice p ((sure ++ l).take k).length c) 24 1 (((sure ++ l).take k).map bD)), (7, .dat (.slice pz ((sure ++ l).getD k []).length cz) (.ns .u8 ((sure ++ l).getD k [])))] w) → K9 a w := by
         clear Hz m45
         rintro Az w47 ⟨pz, cz, Hz, m47⟩
         refine hK9 _ _ ?_; clear hK9; try clear K9
         refine wp_seq_k (fun K10 hK10 => ?_)
         refine regS Hz (.move rfl <| .len rfl Tryd.underlying24 <| .gtr rfl rfl <| .nil) ?_
         clear Hz Az; intro Az Hz
         refine bool_cases Hz (t := 61) rfl ?_ ?_
         ·
          clear Hz; intro hb51 Hz
          try simp only [Q1x, Q2x, Q3x, Q4x, Q5x, Q6x, Q7x, Q8x, Q9x, Q0x, Qax, Qbx] at hb51
          refine wp_cond_true (Hz.ev (x := .tmp 61) rfl) ?_
          refine regS Hz (.assign rfl <| .nil) ?_
          clear Hz Az; intro Az Hz
          refine wp_ret ?_
          try dsimp only [Exit.then, Exit.inBlock]
          refine (ret1 (fn := Tryd.f4) Hz rfl rfl ?_)
          exact ⟨by first | rfl | simp, m47.below⟩
         ·
          clear Hz; intro hb51 Hz
          try simp only [Q1x, Q2x, Q3x, Q4x, Q5x, Q6x, Q7x, Q8x, Q9x, Q0x, Qax, Qbx] at hb51
          have hlk : ((sure ++ l).getD k []).length ≤ 60 := by have := hb51; first | omega | (simp at this; simpa using this) | (simp at this ⊢; omega)
          have hnk : needN ((sure ++ l).take (k + 1)) ≤ 2 * (k + 1) := by
            have h9 := needN_60 (ls := ((sure ++ l).take (k + 1))) (take_all (hk := hk) hsm hlk)
            rw [List.length_take] at h9; omega
          have hNt9 := needN_take hk
          have hsec : secN (recN ((sure ++ l).getD k []).length) ≤ 2 := by have := recN_le (n := ((sure ++ l).getD k []).length); unfold secN; omega
          refine wp_cond_false (Hz.ev (x := .tmp 61) rfl) ?_
          refine wp_skip ?_
          refine hK10 _ _ ?_; clear hK10; try clear K10
          refine wp_seq_k (fun K11 hK11 => ?_)
          refine wp_region_lit ?_
          refine goCh Hz (.move rfl <| .move rfl <| .move rfl <| .nil) ?_
          clear Hz Az; intro Az Hz
          refine wpList_plain rfl (fun K hK => ?_)
          refine e_call Hz Tryd.func11 rfl rfl rfl rfl (append_v _ KE (needN ((sure ++ l).take k)) 40 9 ((sure ++ l).getD k []) _ _ _ (N := secN (recN ((sure ++ l).getD k []).length)) (q := needN ((sure ++ l).take (k + 1))) rfl (needN_take hk).symm hKE hl8 (by omega) (by omega) (by rw [hS8, putRs_len, List.length_replicate]; omega) (by omega) hLbk (by omega) (Nat.le_trans h01 m47.keep.2.2.2.1) (m47.into [(1, 20), (2, 21), (3, 22), (4, 7), (5, 5)] (by decide) (passD rfl))) ?_
          rintro e w59 ⟨rfl, KD, hKD, hlD, hSD, hUD, hm59⟩
          have mx59 := m47.back hm59 [(20, 1), (21, 2), (22, 3), (7, 4), (5, 5)] (by decide); clear hm59 m47
          have m59 : MemOk _ _ [(20, _), (21, _), (22, _), (7, _), (5, _), (1, _), (2, _), (8, _)] _ := mx59.only [20, 21, 22, 7, 5, 1, 2, 8]; clear mx59
          refine ⟨_, rfl, ?_⟩; clear Hz Az; intro Az Hz
          refine hK _ _ ?_; clear hK K
          refine goCh Hz (.move rfl <| .extract rfl rfl <| .extract rfl rfl <| .assign rfl <| .assign rfl <| .nil) ?_
          clear Hz Az; intro Az Hz
          refine wpList_nil ?_
          refine hK11 _ _ ?_; clear hK11; try clear K11
          refine wp_seq_k (fun K12 hK12 => ?_)
          replace Hz : Has 110 [(0, _), (1, _), (2, _), (3, _), (9, _), (10, _), (11, _), (12, _), (13, _), (14, _), (15, _)] Az := Hz.only [0, 1, 2, 3, 9, 10, 11, 12, 13, 14, 15]
          refine regS Hz (.move rfl <| .neq rfl rfl <| .nil) ?_
          clear Hz Az; intro Az Hz
          refine bool_cases Hz (t := 70) rfl ?_ ?_
          · intro hb _; exact absurd hb (by simp)
          clear Hz; intro _ Hz
          refine wp_cond_false (Hz.ev (x := .tmp 70) rfl) ?_
          refine wp_skip ?_
          refine hK12 _ _ ?_; clear hK12; try clear K12
          refine wp_region_lit ?_
          refine goCh Hz (.move rfl <| .move rfl <| .nil) ?_
          clear Hz Az; intro Az Hz
          refine wpList_plain rfl (fun K hK => ?_)
          refine e_litR Hz m59 300 (mm := 1) rfl (.cons rfl rfl (.cons (m59.rd (i := 7) rfl) .nil) <| .nil) Tryd.underlying22 inf24wen rfl rfl rfl rfl rfl ?_
          clear Hz Az m59; intro g72 Az w73 Hz m73
          refine hK _ _ ?_; clear hK K
          have m75 := m73.freezeR 300 rfl; clear m73
          refine wpList_plain rfl (fun K hK => ?_)
          refine e_appR Hz m75 8 rfl rfl rfl (m75.rd (i := 300) rfl) Tryd.underlying22 inf24wen rfl rfl (by decide) (by rw [List.length_map, List.length_take]; simp; omega) rfl ?_
          clear Hz Az m75; intro p74 c74 Az w76 Hz m76
          refine hK _ _ ?_; clear hK K
          refine goCh Hz (.move rfl <| .assign rfl <| .assign rfl <| .nil) ?_
          clear Hz Az; intro Az Hz
          refine wpList_nil ?_
          refine hK7 _ _ ?_; clear hK7; try clear K7
          replace Hz : Has 110 [(0, _), (1, _), (2, _), (3, _), (9, _), (10, _), (11, _), (12, _)] Az := Hz.only [0, 1, 2, 3, 9, 10, 11, 12]
          refine wp_region_lit ?_
          refine goCh Hz (.move rfl <| .add rfl rfl (r := ((k + 1 : Nat) : Int)) (by rw [IntWalk.i64_in _ (by omega)]; omega) <| .assign rfl <| .nil) ?_
          clear Hz Az; intro Az Hz
          refine wpList_nil ?_
          show ∃ n', n' < _ ∧ _
          have e9 : ((sure ++ l).take k).map bD ++ [[D.ns .u8 ((sure ++ l).getD k [])]] = ((sure ++ l).take (k + 1)).map bD := (takeB hk).symm
          rw [e9, List.length_map] at Hz m76
          have hsm2 : ∀ j, j < k + 1 → ((sure ++ l).getD j []).length ≤ 60 := fun j hj => (Nat.lt_or_ge j k).elim (hsm j) (fun h => by rw [show j = k by omega]; exact hlk)
          exact ⟨(sure ++ l).length - (k + 1), by omega, k + 1, KD, _, _, by omega, rfl, hsm2, hKD, hlD, by rw [hSD, hS8, putRs_take hk, Nat.zero_add], by rw [hUD, unsK_len]; omega, fun h => by rw [hSD, hUD, needN_take hk]; exact (hU8 (by omega)).put (needN_pre (by omega)) (by rw [hS8, putRs_len, List.length_replicate]; omega), Hz.only [0, 1, 2, 3, 9, 10, 11, 12], m76.only [20, 21, 22, 1, 2, 5, 8]⟩
       refine regS Hz (.move rfl <| .move rfl <| .len rfl Tryd.underlying22 <| .lss rfl rfl <| .nil) ?_
       clear Hz Az; intro Az Hz
       refine bool_cases Hz (t := 47) rfl ?_ ?_
       ·
        clear Hz; intro hb88 Hz
        try simp only [Q1x, Q2x, Q3x, Q4x, Q5x, Q6x, Q7x, Q8x, Q9x, Q0x, Qax, Qbx] at hb88
        have hks : k < sure.length := by have := hb88; first | omega | (simp at this; omega)
        have e9 : sure.getD k [] = ((sure ++ l).getD k []) := (getD_left hks).symm
        refine wp_cond_true (Hz.ev (x := .tmp 47) rfl) ?_
        refine wp_region_lit ?_
        refine goCh Hz (.move rfl <| .move rfl <| .nil) ?_
        clear Hz Az; intro Az Hz
        obtain ⟨b91, o91, vs91, hp91, hR91, ho91, m91⟩ := m45.openR (i := 1) rfl (k) (r := bD (sure.getD k [])) (bD_at hks) 200 rfl
        cases hp91; clear m45 ho91
        rcases hR91 with _ | ⟨hd91_0, _ | _⟩
        obtain ⟨p92, c92, hv92, hc92⟩ := hd91_0.ns_shape; subst hv92
        have m92 := m91.dat 201 rfl (hd91_0.cast (fun _ h => (free_add rfl h))); clear m91 hd91_0
        refine goCh Hz (.c rfl (fun _ h => y_idx h rfl rfl Tryd.underlying22 sz24wen (k) rfl hks) <| .loadC0 m92 (i := 200) rfl rfl Tryd.underlying24 rfl <| .assign rfl <| .nil) ?_
        clear Hz Az; intro Az Hz
        refine wpList_nil ?_
        rw [e9] at Hz m92
        show K9 _ _
        exact hC9 _ _ ⟨_, _, Hz.only [0, 1, 2, 3, 9, 10, 11, 12, 13], m92.ren [(20, 20), (21, 21), (22, 22), (1, 1), (2, 2), (5, 5), (8, 8), (7, 201)] (by decide)⟩
       ·
        clear Hz; intro hb88 Hz
        try simp only [Q1x, Q2x, Q3x, Q4x, Q5x, Q6x, Q7x, Q8x, Q9x, Q0x, Qax, Qbx] at hb88
        have hks : sure.length ≤ k := by have := hb88; first | omega | (simp at this; omega)
        have hkl2 : k - sure.length < l.length := by omega
        have e9 : l.getD (k - sure.length) [] = ((sure ++ l).getD k []) := (getD_right hks).symm
        refine wp_cond_false (Hz.ev (x := .tmp 47) rfl) ?_
        refine wp_region_lit ?_
        refine goCh Hz (.move rfl <| .move rfl <| .move rfl <| .len rfl Tryd.underlying22 <| .sub rfl rfl (r := ((k - sure.length : Nat) : Int)) (by rw [IntWalk.i64_in _ (by omega)]; omega) <| .nil) ?_
        clear Hz Az; intro Az Hz
        obtain ⟨b101, o101, vs101, hp101, hR101, ho101, m101⟩ := m45.openR (i := 2) rfl ((k - sure.length)) (r := bD (l.getD (k - sure.length) [])) (bD_at hkl2) 200 rfl
        cases hp101; clear m45 ho101
        rcases hR101 with _ | ⟨hd101_0, _ | _⟩
        obtain ⟨p102, c102, hv102, hc102⟩ := hd101_0.ns_shape; subst hv102
        have m102 := m101.dat 201 rfl (hd101_0.cast (fun _ h => (free_add rfl h))); clear m101 hd101_0
        refine goCh Hz (.c rfl (fun _ h => y_idx h rfl rfl Tryd.underlying22 sz24wen ((k - sure.length)) rfl hkl2) <| .loadC0 m102 (i := 200) rfl rfl Tryd.underlying24 rfl <| .assign rfl <| .nil) ?_
        clear Hz Az; intro Az Hz
        refine wpList_nil ?_
        rw [e9] at Hz m102
        show K9 _ _
        exact hC9 _ _ ⟨_, _, Hz.only [0, 1, 2, 3, 9, 10, 11, 12, 13], m102.ren [(20, 20), (21, 21), (22, 22), (1, 1), (2, 2), (5, 5), (8, 8), (7, 201)] (by decide)⟩
     replace Hz : Has 110 [(0, _), (1, _), (2, _), (3, _), (9, _), (10, _), (11, _), (12, _)] Az := Hz.only [0, 1, 2, 3, 9, 10, 11, 12]
     refine regS Hz (.move rfl <| .move rfl <| .len rfl Tryd.underlying22 <| .eql rfl rfl <| .nil) ?_
     clear Hz Az; intro Az Hz
     refine bool_cases Hz (t := 41) rfl ?_ ?_
     ·
      clear Hz; intro hb111 Hz
      try simp only [Q1x, Q2x, Q3x, Q4x, Q5x, Q6x, Q7x, Q8x, Q9x, Q0x, Qax, Qbx] at hb111
      have hke : k = sure.length := by have := hb111; first | omega | (simp at this; omega)
      have htk : ((sure ++ l).take k) = sure := by rw [hke]; exact List.take_left
      refine wp_cond_true (Hz.ev (x := .tmp 41) rfl) ?_
      refine wp_region_lit ?_
      refine goCh Hz (.move rfl .nil) ?_
      clear Hz Az; intro Az Hz
      refine wpList_plain rfl (fun K hK => ?_)
      refine e_call Hz Tryd.func20 rfl rfl rfl rfl (kflush hKH (m36.into [(1, 20), (2, 21), (3, 22)] (by decide) (passD rfl)) hl9) ?_
      rintro e w113 ⟨rfl, cur113, hKf113, hm113⟩
      have mx113 := m36.back hm113 [(20, 1), (21, 2), (22, 3)] (by decide); clear hm113 m36
      have m113 : MemOk _ _ [(20, _), (21, _), (22, _), (1, _), (2, _), (5, _), (8, _)] _ := mx113.only [20, 21, 22, 1, 2, 5, 8]; clear mx113
      refine ⟨_, rfl, ?_⟩; clear Hz Az; intro Az Hz
      refine hK _ _ ?_; clear hK K
      refine wpList_nil ?_
      show K8 _ _
      exact hC8 _ _ ⟨_, hKf113, rfl, hS9, by simp, fun _ => ⟨by rw [hS9, htk]; rfl, fun u hu => by cases hu⟩, Hz.only [0, 1, 2, 3, 9, 10, 11, 12], m113.only [20, 21, 22, 1, 2, 5, 8]⟩
     ·
      clear Hz; intro hb111 Hz
      try simp only [Q1x, Q2x, Q3x, Q4x, Q5x, Q6x, Q7x, Q8x, Q9x, Q0x, Qax, Qbx] at hb111
      have hkn : k ≠ sure.length := by have := hb111; first | omega | (simp at this; omega)
      refine wp_cond_false (Hz.ev (x := .tmp 41) rfl) ?_
      refine wp_skip ?_
      show K8 _ _
      exact hC8 _ _ ⟨KH, hKH, hl9, hS9, hUl, fun h => hU9 (by omega), Hz.only [0, 1, 2, 3, 9, 10, 11, 12], m36.only [20, 21, 22, 1, 2, 5, 8]⟩
    ·
     clear Hz; intro hb44 Hz
     try simp only [Q1x, Q2x, Q3x, Q4x, Q5x, Q6x, Q7x, Q8x, Q9x, Q0x, Qax, Qbx] at hb44
     obtain rfl : k = (sure ++ l).length := by have := hb44; first | omega | (simp at this; simp; omega)
     simp only [List.take_length] at Hz m36 hS9 hU9
     have hall : ∀ l1 ∈ (sure ++ l), l1.length ≤ 60 := fun l1 hl1 => by
       obtain ⟨j, hj, rfl⟩ := List.getElem_of_mem hl1
       have := hsm j hj
       rw [List.getD, List.getElem?_eq_getElem hj] at this; exact this
     have hnn := needN_60 hall
     refine wp_cond_false (Hz.ev (x := .tmp 35) rfl) ?_
     refine wp_exit ?_
     refine hK5 _ _ ?_; clear hK5; try clear K5
     refine wp_seq_k (fun K13 hK13 => ?_)
     have hC13 : ∀ (a : Act) (w : World), (∃ (KE : Dk), KE.ok B9 S9 ∧ KE.l = -1 ∧ KE.secs = putRs (List.replicate 40 zeros) 9 0 (sure ++ l) ∧ KE.uns.length ≤ 1000 ∧ Uns KE.secs KE.uns (putRs (List.replicate 40 zeros) 9 0 sure) (needN sure) (needN (sure ++ l)) ∧ Has 110 [(0, .slice ps sure.length cs), (2, .int .u64 mask), (3, .int .i64 torn), (9, .pointer (some ⟨B9, 0, none⟩)), (10, .slice p (sure ++ l).length c)] a ∧ MemOk (cxt w0) w0 [(20, KE.rb B9 S9), (21, KE.ru), (22, KE.rs S9), (1, .dat (.slice ps sure.length cs) (.l 1 (sure.map bD))), (2, .dat (.slice pl l.length cl) (.l 1 (l.map bD))), (5, tabR), (8, .row (.slice p (sure ++ l).length c) 24 1 ((sure ++ l).map bD))] w) → K13 a w := by
       clear Hz m36
       rintro Az w115 ⟨KE, hKE, hl8, hS8, hUl8, hU8, Hz, m115⟩
       refine hK13 _ _ ?_; clear hK13; try clear K13
       refine wp_seq_k (fun K14 hK14 => ?_)
       refine wp_region_lit ?_
       refine goCh Hz (.move rfl <| .move rfl <| .move rfl <| .nil) ?_
       clear Hz Az; intro Az Hz
       refine wpList_plain rfl (fun K hK => ?_)
       refine e_call Hz Tryd.func21 rfl rfl rfl rfl (kcrash hKE (m115.into [(1, 20), (2, 21), (3, 22)] (by decide) (passD rfl)) mask torn hm0 hm1 ht0 ht1 (by omega)) ?_
       rintro e w122 ⟨rfl, curC, hKC, hm122⟩
       have mx122 := m115.back hm122 [(20, 1), (21, 2), (22, 3)] (by decide); clear hm122 m115
       have m122 : MemOk _ _ [(20, _), (21, _), (22, _), (1, _), (2, _), (5, _), (8, _)] _ := mx122.only [20, 21, 22, 1, 2, 5, 8]; clear mx122
       refine ⟨_, rfl, ?_⟩; clear Hz Az; intro Az Hz
       refine hK _ _ ?_; clear hK K
       refine wpList_nil ?_
       refine hK14 _ _ ?_; clear hK14; try clear K14
       refine wp_seq_k (fun K15 hK15 => ?_)
       have hjz := hKE.2.2.2.1
       obtain ⟨j, o, hj1, hj2, hV⟩ := ends_scan (by omega) (fun b hb => by have := hall b hb; omega) hS8 hU8 hjz mask torn
       have hjl : ((sure ++ l).take j).length = j := by rw [List.length_take]; omega
       ·
        refine wp_region_lit ?_
        refine goCh Hz (.move rfl .nil) ?_
        clear Hz Az; intro Az Hz
        refine wpList_plain rfl (fun K hK => ?_)
        refine e_call Hz Tryd.func15 rfl rfl rfl rfl (scan_v (L := (sure ++ l).take j) (o := o) 0 40 9 _ (Dk.is hKC m122 (i := 20) (j := 21) (k := 22) rfl rfl rfl) (m122.tabr (i := 5) rfl) (Nat.le_trans h01 m122.keep.2.2.2.1) (by omega) (by omega) (by omega) (by omega) (by rw [crashed_len, hS8, putRs_len]; simp) hV) ?_
        rintro e w125 ⟨p125, c125, rfl, hd125, hb125⟩
        have m126 := m122.callF 200 rfl hb125 hd125
        clear m122
        clear hb125 hd125
        refine ⟨_, rfl, ?_⟩; clear Hz Az; intro Az Hz
        refine hK _ _ ?_; clear hK K
        refine goCh Hz (.move rfl <| .extract rfl rfl <| .extract rfl rfl <| .assign rfl <| .assign rfl <| .nil) ?_
        clear Hz Az; intro Az Hz
        refine wpList_nil ?_
        refine hK15 _ _ ?_; clear hK15; try clear K15
        replace Hz : Has 110 [(0, _), (2, _), (3, _), (9, _), (10, _), (16, _)] Az := Hz.only [0, 2, 3, 9, 10, 16]
        refine wp_seq_k (fun K16 hK16 => ?_)
        refine wp_region_lit ?_
        refine goCh Hz (.move rfl <| .len rfl Tryd.underlying22 <| .move rfl <| .len rfl Tryd.underlying22 <| .geq rfl rfl <| .move rfl <| .nil) ?_
        clear Hz Az; intro Az Hz
        refine bool_cases Hz (t := 95) rfl ?_ ?_
        rotate_left
        · intro hb _; exact absurd hb (by rw [decide_eq_false_iff_not, Decidable.not_not]; omega)
        clear Hz; intro _ Hz
        refine goCh Hz (.moveZ rfl <| .lenZ rfl Tryd.underlying22 <| .moveZ rfl <| .lenZ rfl Tryd.underlying22 <| .leqZ rfl rfl <| .pickT rfl rfl <| .move rfl <| .nil) ?_
        clear Hz Az; intro Az Hz
        refine bool_cases Hz (t := 102) rfl ?_ ?_
        rotate_left
        · intro hb _; exact absurd hb (by rw [decide_eq_false_iff_not, Decidable.not_not]; omega)
        clear Hz; intro _ Hz
        refine goCh Hz (.moveZ rfl <| .moveZ rfl <| .moveZ rfl <| .lenZ rfl Tryd.underlying22 <| .nil) ?_
        clear Hz Az; intro Az Hz
        have m159 := m126.freezeR 8 rfl; clear m126
        have hcap160 := rdCap (m159.rd (i := 8) rfl)
        refine goCh Hz (.g rfl rfl rfl rfl (fun _ h => y_sliceHn h ((sure ++ l).take j).length rfl rfl Tryd.underlying22 sz24wen rfl (by rw [List.length_map] at hcap160; omega)) .nil) ?_
        clear Hz Az; intro Az Hz
        refine st_ge Hz rfl rfl rfl rfl (fun K hK => ?_)
        refine e_call Hz Tryd.func17 rfl rfl rfl rfl (bodies_any ((sure ++ l).take j) _ _ _ _ _ _ _ (m159.rd (i := 200) rfl).any (rdTakeL (m159.rd (i := 8) rfl).any hj2) (by omega)) ?_
        rintro e w162 ⟨rfl, hb162⟩
        have m163 := m159.later hb162
        clear m159
        clear hb162
        refine ⟨_, rfl, ?_⟩; clear Hz Az; intro Az Hz
        refine hK _ _ ?_; clear hK K
        refine goCh Hz (.pickT rfl rfl <| .assign rfl <| .nil) ?_
        clear Hz Az; intro Az Hz
        refine wpList_nil ?_
        refine hK16 _ _ ?_; clear hK16; try clear K16
        refine wp_ret ?_
        try dsimp only [Exit.then, Exit.inBlock]
        refine (ret1 (fn := Tryd.f4) Hz rfl rfl ?_)
        exact ⟨by first | rfl | simp, m163.below⟩
     replace Hz : Has 110 [(0, _), (1, _), (2, _), (3, _), (9, _), (10, _), (11, _), (12, _)] Az := Hz.only [0, 1, 2, 3, 9, 10, 11, 12]
     refine regS Hz (.move rfl <| .len rfl Tryd.underlying22 <| .eql rfl rfl <| .nil) ?_
     clear Hz Az; intro Az Hz
     refine bool_cases Hz (t := 78) rfl ?_ ?_
     ·
      clear Hz; intro hb171 Hz
      try simp only [Q1x, Q2x, Q3x, Q4x, Q5x, Q6x, Q7x, Q8x, Q9x, Q0x, Qax, Qbx] at hb171
      have hl0 : l = [] := List.length_eq_zero_iff.1 (by have := hb171; first | omega | (simp at this; simp [this]))
      refine wp_cond_true (Hz.ev (x := .tmp 78) rfl) ?_
      refine wp_region_lit ?_
      refine goCh Hz (.move rfl .nil) ?_
      clear Hz Az; intro Az Hz
      refine wpList_plain rfl (fun K hK => ?_)
      refine e_call Hz Tryd.func20 rfl rfl rfl rfl (kflush hKH (m36.into [(1, 20), (2, 21), (3, 22)] (by decide) (passD rfl)) hl9) ?_
      rintro e w173 ⟨rfl, cur173, hKf173, hm173⟩
      have mx173 := m36.back hm173 [(20, 1), (21, 2), (22, 3)] (by decide); clear hm173 m36
      have m173 : MemOk _ _ [(20, _), (21, _), (22, _), (1, _), (2, _), (5, _), (8, _)] _ := mx173.only [20, 21, 22, 1, 2, 5, 8]; clear mx173
      refine ⟨_, rfl, ?_⟩; clear Hz Az; intro Az Hz
      refine hK _ _ ?_; clear hK K
      refine wpList_nil ?_
      show K13 _ _
      exact hC13 _ _ ⟨_, hKf173, rfl, hS9, by simp, ⟨by rw [hS9, hl0, List.append_nil]; rfl, fun u hu => by cases hu⟩, Hz.only [0, 2, 3, 9, 10], m173.only [20, 21, 22, 1, 2, 5, 8]⟩
     ·
      clear Hz; intro hb171 Hz
      try simp only [Q1x, Q2x, Q3x, Q4x, Q5x, Q6x, Q7x, Q8x, Q9x, Q0x, Qax, Qbx] at hb171
      have hlp : 0 < l.length := by have := hb171; first | omega | (simp at this; exact List.length_pos_iff.2 this)
      refine wp_cond_false (Hz.ev (x := .tmp 78) rfl) ?_
      refine wp_skip ?_
      show K13 _ _
      exact hC13 _ _ ⟨KH, hKH, hl9, hS9, by omega, hU9 (by omega), Hz.only [0, 2, 3, 9, 10], m36.only [20, 21, 22, 1, 2, 5, 8]⟩
end Go.Proofs.YtogjhjiapinmcaaDoor.K
