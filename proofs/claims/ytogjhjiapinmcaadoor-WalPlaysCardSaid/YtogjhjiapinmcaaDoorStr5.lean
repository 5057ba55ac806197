/- stream: the program's reader of bytes, in the frame: just what is read. -/
import Derived.Test.YtogjhjiapinmcaaDoorStr5y
namespace Go.Proofs.YtogjhjiapinmcaaDoor.K
open Go.ChangeShapes Go.WideShapes Go.ChangeAt Go.RowKit
set_option linter.unusedVariables false
set_option linter.unusedSimpArgs false

theorem sz24pfa : (Tryd.prog.info? 24).map (·.size) = some 1 := by kernel_rfl
theorem sz33pfa : (Tryd.prog.info? 33).map (·.size) = some 1 := by kernel_rfl
theorem sz5pno : (Tryd.prog.info? 5).map (·.size) = some 1 := by kernel_rfl
theorem sz24pno : (Tryd.prog.info? 24).map (·.size) = some 1 := by kernel_rfl
theorem sz5pne : (Tryd.prog.info? 5).map (·.size) = some 1 := by kernel_rfl
theorem sz24pne : (Tryd.prog.info? 24).map (·.size) = some 1 := by kernel_rfl





set_option maxRecDepth 100000
set_option maxHeartbeats 4000000
theorem pfail_x (X : Cx) (B : Nat) (v : Value) (er cd : Int) (w0 : World) (m0 : MemOk X w0 [(1, .box B 102 [v, .int .i64 er])] w0) :
   Calls Tryd.prog 60 #[.pointer (some ⟨B, 0, none⟩), .int .i64 cd] w0 fun e w' => e = .returned (.tuple #[]) ∧ MemOk X w0 [(1, .box B 102 [.slice none 0 0, .int .i64 cd])] w' := by
 refine enter (fn := Tryd.f60) Tryd.func60 rfl Tryd.ntmps60 rfl (fun Az Hz => ?_)
 simp only [List.zipIdx_cons, List.zipIdx_nil, List.map_cons, List.map_nil, Nat.reduceAdd, Nat.zero_add] at Hz
 refine wp_region_lit ?_
 refine goCh Hz (.move rfl <| .move rfl <| .move rfl <| .nilCheck rfl <| .fieldAddr (off := 0) rfl Tryd.underlying100 rfl (s := 0) (by kernel_rfl) rfl <| .nil) ?_
 clear Hz Az; intro Az Hz
 refine wpList_plain rfl (fun K hK => ?_)
 refine e_store1 Hz m0 1 rfl rfl rfl rfl rfl sz24pfa (by dsimp only [List.set] <;> rfl) ?_
 clear m0; intro w6 m6 hB6
 clear hB6
 refine hK _ _ ?_; clear hK K
 refine goCh Hz (.nilCheck rfl <| .fieldAddr (off := 1) rfl Tryd.underlying100 rfl (s := 0) (by kernel_rfl) rfl <| .nil) ?_
 clear Hz Az; intro Az Hz
 refine wpList_plain rfl (fun K hK => ?_)
 refine e_store1 Hz m6 1 rfl rfl rfl rfl rfl sz33pfa (by dsimp only [List.set] <;> rfl) ?_
 clear m6; intro w9 m9 hB9
 clear hB9
 refine hK _ _ ?_; clear hK K
 refine wpList_nil ?_
 try dsimp only [Exit.then]
 try refine out_here ?_
 refine (ret0 (fn := Tryd.f60) Hz rfl ?_)
 exact ⟨rfl, m9.only [1]⟩
theorem pnumber_ok (X : Cx) (B : Nat) (b : List Int) (er : Int) (p : Option Addr) (c : Nat) (w0 : World) (n j : Nat) (hb : b.length ≤ 1000000) (hbb : BytesL b) (hd : dec 0 0 b = .ok n j) (m0 : MemOk X w0 [(1, .box B 102 [.slice p (b).length c, .int .i64 er]), (2, .dat (.slice p (b).length c) (.ns .u8 (b)))] w0) :
   Calls Tryd.prog 59 #[.pointer (some ⟨B, 0, none⟩)] w0 fun e w' => ∃ (p' : Option Addr) (c' : Nat), e = .returned (.tuple #[.int .u64 (n : Int), .int .i64 0]) ∧ MemOk X w0 [(1, .box B 102 [.slice p' (b.drop j).length c', .int .i64 er]), (2, .dat (.slice p' (b.drop j).length c') (.ns .u8 (b.drop j)))] w' := by
 refine enter (fn := Tryd.f59) Tryd.func59 rfl Tryd.ntmps59 rfl (fun Az Hz => ?_)
 simp only [List.zipIdx_cons, List.zipIdx_nil, List.map_cons, List.map_nil, Nat.reduceAdd, Nat.zero_add] at Hz
 refine regS Hz (.assign rfl <| .assign rfl <| .nil) ?_
 clear Hz Az; intro Az Hz
 refine regS Hz (.assign rfl <| .nil) ?_
 clear Hz Az; intro Az Hz
 refine wp_seq_k (fun K0 hK0 => ?_)
 refine regS Hz (.move rfl <| .nilCheck rfl <| .fieldAddr (off := 0) rfl Tryd.underlying100 rfl (s := 0) (by kernel_rfl) rfl <| .loadB1 m0 (i := 1) rfl rfl rfl Tryd.underlying24 rfl <| .len rfl Tryd.underlying24 <| .move rfl <| .nil) ?_
 clear Hz Az; intro Az Hz
 refine wp_block ?_
 refine wp_loop_ghost (fun g a w => ∃ (k u : Nat), k ≤ b.length ∧ k ≤ 9 ∧ g = b.length - k ∧ u < 2 ^ (7 * k) ∧ dec u k (b.drop k) = dec 0 0 b ∧ Has 53 [(0, .pointer (some ⟨B, 0, none⟩)), (4, .int .u64 (u : Int)), (10, .slice p b.length c), (11, .int .i64 b.length), (12, .int .i64 k)] a ∧ MemOk X w0 [(1, .box B 102 [.slice p (b).length c, .int .i64 er]), (2, .dat (.slice p (b).length c) (.ns .u8 (b)))] w) (b.length) ?_ ?_
 · exact ⟨0, 0, Nat.zero_le _, Nat.zero_le _, rfl, by decide, rfl, Hz.only [0, 4, 10, 11, 12], m0.only [1, 2]⟩
 ·
  clear Hz m0
  rintro g Az w10 ⟨k, u, hkl, hk9, hg, hu, hD0, Hz, m10⟩
  refine regS Hz (.lss rfl rfl <| .nil) ?_
  clear Hz Az; intro Az Hz
  refine wp_seq_k (fun K1 hK1 => ?_)
  refine bool_cases Hz (t := 13) rfl ?_ ?_
  ·
   clear Hz; intro hb12 Hz
   try simp only [Q1x, Q2x, Q3x, Q4x, Q5x, Q6x, Q7x, Q8x, Q9x, Q0x, Qax, Qbx] at hb12
   have hk : k < b.length := by omega
   have hxb := getD_bd hbb hk
   have hD := hD0
   rw [dec_at hk] at hD
   refine wp_cond_true (Hz.ev (x := .tmp 13) rfl) ?_
   refine wp_skip ?_
   refine hK1 _ _ ?_; clear hK1; try clear K1
   refine wp_seq_k (fun K2 hK2 => ?_)
   refine wp_block ?_
   refine wp_seq_k (fun K3 hK3 => ?_)
   refine wp_region_lit ?_
   refine goCh Hz (.move rfl .nil) ?_
   clear Hz Az; intro Az Hz
   obtain ⟨b16, o16, hp16, m16⟩ := m10.openN (i := 2) rfl (k) hk 100 rfl
   cases hp16; clear m10
   refine goCh Hz (.c rfl (fun _ h => y_idx h rfl rfl Tryd.underlying24 sz5pno (k) rfl hk) <| .loadC0 m16 (i := 100) rfl rfl Tryd.underlying5 rfl <| .assign rfl <| .assign rfl <| .nil) ?_
   clear Hz Az; intro Az Hz
   refine wpList_nil ?_
   refine hK3 _ _ ?_; clear hK3; try clear K3
   refine wp_seq_k (fun K4 hK4 => ?_)
   refine wp_seq_k (fun K5 hK5 => ?_)
   refine wp_region_lit ?_
   refine goCh Hz (.move rfl <| .eql rfl rfl <| .move rfl <| .nil) ?_
   clear Hz Az; intro Az Hz
   refine bool_cases Hz (t := 19) rfl ?_ ?_
   ·
    clear Hz; intro hb27 Hz
    try simp only [Q1x, Q2x, Q3x, Q4x, Q5x, Q6x, Q7x, Q8x, Q9x, Q0x, Qax, Qbx] at hb27
    refine goCh Hz (.moveZ rfl <| .gtrZ rfl rfl <| .pickT rfl rfl <| .move rfl <| .nil) ?_
    clear Hz Az; intro Az Hz
    refine bool_cases Hz (t := 23) rfl ?_ ?_
    ·
     clear Hz; intro hb32 Hz
     try simp only [Q1x, Q2x, Q3x, Q4x, Q5x, Q6x, Q7x, Q8x, Q9x, Q0x, Qax, Qbx] at hb32
     have hE : dec 0 0 b = .err 20 := by rw [← hD, if_pos (by omega)]
     refine goCh Hz (.sk <| .sk <| .sk <| .nil) ?_
     clear Hz Az; intro Az Hz
     refine st_skipU Hz rfl rfl rfl rfl ?_
     clear Hz Az; intro Az Hz
     refine st_skipU Hz rfl rfl rfl rfl ?_
     clear Hz Az; intro Az Hz
     refine goCh Hz (.sk <| .pickT rfl rfl <| .nil) ?_
     clear Hz Az; intro Az Hz
     refine wpList_nil ?_
     refine hK5 _ _ ?_; clear hK5; try clear K5
     refine wp_cond_true (Hz.ev (x := .tmp 30) rfl) ?_
     replace Hz : Has 53 [(0, _), (4, _), (10, _), (11, _), (12, _), (5, _), (6, _), (19, _), (23, _), (26, _), (30, _)] Az := Hz.only [0, 4, 10, 11, 12, 5, 6, 19, 23, 26, 30]
     refine regS Hz (.assign rfl <| .assign rfl <| .nil) ?_
     clear Hz Az; intro Az Hz
     refine wp_ret ?_
     try dsimp only [Exit.then, Exit.inBlock]
     refine (ret2 (fn := Tryd.f59) Hz rfl rfl rfl ?_)
     rw [hE] at hd; cases hd
    ·
     clear Hz; intro hb32 Hz
     try simp only [Q1x, Q2x, Q3x, Q4x, Q5x, Q6x, Q7x, Q8x, Q9x, Q0x, Qax, Qbx] at hb32
     refine goCh Hz (.moveZ rfl <| .gtrZ rfl rfl <| .moveZ rfl <| .nil) ?_
     clear Hz Az; intro Az Hz
     refine bool_cases Hz (t := 26) rfl ?_ ?_
     ·
      clear Hz; intro hb46 Hz
      try simp only [Q1x, Q2x, Q3x, Q4x, Q5x, Q6x, Q7x, Q8x, Q9x, Q0x, Qax, Qbx] at hb46
      refine goCh Hz (.moveZ rfl <| .eqlZ rfl rfl <| .pickTZ rfl rfl <| .pickF rfl rfl <| .nil) ?_
      clear Hz Az; intro Az Hz
      refine wpList_nil ?_
      refine hK5 _ _ ?_; clear hK5; try clear K5
      refine bool_cases Hz (t := 30) rfl ?_ ?_
      ·
       clear Hz; intro hb51 Hz
       try simp only [Q1x, Q2x, Q3x, Q4x, Q5x, Q6x, Q7x, Q8x, Q9x, Q0x, Qax, Qbx] at hb51
       have hE : dec 0 0 b = .err 20 := by rw [← hD, if_pos (by omega)]
       refine wp_cond_true (Hz.ev (x := .tmp 30) rfl) ?_
       replace Hz : Has 53 [(0, _), (4, _), (10, _), (11, _), (12, _), (5, _), (6, _), (19, _), (23, _), (26, _), (30, _)] Az := Hz.only [0, 4, 10, 11, 12, 5, 6, 19, 23, 26, 30]
       refine regS Hz (.assign rfl <| .assign rfl <| .nil) ?_
       clear Hz Az; intro Az Hz
       refine wp_ret ?_
       try dsimp only [Exit.then, Exit.inBlock]
       refine (ret2 (fn := Tryd.f59) Hz rfl rfl rfl ?_)
       rw [hE] at hd; cases hd
      ·
       clear Hz; intro hb51 Hz
       try simp only [Q1x, Q2x, Q3x, Q4x, Q5x, Q6x, Q7x, Q8x, Q9x, Q0x, Qax, Qbx] at hb51
       have hno : ¬ ((k = 9 ∧ 1 < (b.getD k 0)) ∨ (0 < k ∧ (b.getD k 0) = 0)) := by omega
       have h9 : k = 9 → (b.getD k 0) ≤ 1 := by omega
       obtain ⟨v, hv⟩ : ∃ v, u + ((b.getD k 0) % 128).toNat * 2 ^ (7 * k) = v := ⟨_, rfl⟩
       refine wp_cond_false (Hz.ev (x := .tmp 30) rfl) ?_
       refine wp_skip ?_
       refine hK4 _ _ ?_; clear hK4; try clear K4
       replace Hz : Has 53 [(0, _), (4, _), (10, _), (11, _), (12, _), (5, _), (6, _), (19, _), (23, _), (26, _), (30, _)] Az := Hz.only [0, 4, 10, 11, 12, 5, 6, 19, 23, 26, 30]
       refine regS Hz (.move rfl <| .move rfl <| .c rfl (fun _ h => y_andNot h rfl rfl (r := (b.getD k 0) % 128) (andNot128 _ hxb.1 hxb.2)) <| .conv rfl Tryd.underlying5 Tryd.underlying32 (r := (b.getD k 0) % 128) (IntWalk.u64_in _ (by omega)) <| .move rfl <| .mul rfl rfl (r := 7 * (k : Int)) (IntWalk.i64_in _ (by omega)) <| .shl rfl rfl (by omega) (r := IntKind.u64.wrap ((b.getD k 0) % 128 * 2 ^ (7 * k))) (by rw [shx hk9]) <| .or rfl rfl (r := (v : Int)) (by rw [← hv]; exact or_shift u k (b.getD k 0) hu hk9 hxb.1 hxb.2 h9) <| .assign rfl <| .nil) ?_
       clear Hz Az; intro Az Hz
       replace Hz : Has 53 [(0, _), (4, _), (10, _), (11, _), (12, _), (5, _), (6, _), (19, _), (23, _), (26, _), (30, _)] Az := Hz.only [0, 4, 10, 11, 12, 5, 6, 19, 23, 26, 30]
       refine regS Hz (.move rfl <| .lss rfl rfl <| .nil) ?_
       clear Hz Az; intro Az Hz
       refine bool_cases Hz (t := 40) rfl ?_ ?_
       ·
        clear Hz; intro hb68 Hz
        try simp only [Q1x, Q2x, Q3x, Q4x, Q5x, Q6x, Q7x, Q8x, Q9x, Q0x, Qax, Qbx] at hb68
        have hO : dec 0 0 b = .ok v (k + 1) := by rw [← hD, if_neg hno, if_pos (by omega), hv]
        refine wp_cond_true (Hz.ev (x := .tmp 40) rfl) ?_
        refine wp_seq_k (fun K6 hK6 => ?_)
        refine wp_region_lit ?_
        refine goCh Hz (.move rfl <| .move rfl <| .nilCheck rfl <| .fieldAddr (off := 0) rfl Tryd.underlying100 rfl (s := 0) (by kernel_rfl) rfl <| .loadB1 m16 (i := 1) rfl rfl rfl Tryd.underlying24 rfl <| .move rfl <| .add rfl rfl (r := ((k + 1 : Nat) : Int)) (by rw [IntWalk.i64_in _ (by omega)]; omega) <| .nil) ?_
        clear Hz Az; intro Az Hz
        have m84 := m16.dropN (i := 2) rfl (k + 1) (show k + 1 ≤ b.length by omega) 101 rfl; clear m16
        refine goCh Hz (.c rfl (fun _ h => y_sliceLn h (k + 1) rfl rfl Tryd.underlying24 sz5pno rfl (show k + 1 ≤ b.length by omega)) <| .nilCheck rfl <| .fieldAddr (off := 0) rfl Tryd.underlying100 rfl (s := 0) (by kernel_rfl) rfl <| .nil) ?_
        clear Hz Az; intro Az Hz
        refine wpList_plain rfl (fun K hK => ?_)
        refine e_store1 Hz m84 1 rfl rfl rfl rfl rfl sz24pno (by dsimp only [List.set] <;> rfl) ?_
        clear m84; intro w88 m88 hB88
        clear hB88
        refine hK _ _ ?_; clear hK K
        refine wpList_nil ?_
        refine hK6 _ _ ?_; clear hK6; try clear K6
        replace Hz : Has 53 [(0, _), (4, _), (10, _), (11, _), (12, _), (19, _), (23, _), (26, _), (30, _), (40, _)] Az := Hz.only [0, 4, 10, 11, 12, 19, 23, 26, 30, 40]
        refine regS Hz (.move rfl <| .assign rfl <| .assign rfl <| .nil) ?_
        clear Hz Az; intro Az Hz
        refine wp_ret ?_
        try dsimp only [Exit.then, Exit.inBlock]
        refine (ret2 (fn := Tryd.f59) Hz rfl rfl rfl ?_)
        have hl9 : b.length - (k + 1) = (b.drop (k + 1)).length := by rw [List.length_drop]
        rw [hl9] at m88
        obtain ⟨rfl, rfl⟩ : n = v ∧ j = k + 1 := by rw [hO] at hd; injection hd with q1 q2; exact ⟨q1.symm, q2.symm⟩
        exact ⟨_, _, rfl, m88.ren [(1, 1), (2, 101)] (by decide)⟩
       ·
        clear Hz; intro hb68 Hz
        try simp only [Q1x, Q2x, Q3x, Q4x, Q5x, Q6x, Q7x, Q8x, Q9x, Q0x, Qax, Qbx] at hb68
        refine wp_cond_false (Hz.ev (x := .tmp 40) rfl) ?_
        refine wp_skip ?_
        refine hK2 _ _ ?_; clear hK2; try clear K2
        refine wp_region_lit ?_
        refine goCh Hz (.add rfl rfl (r := ((k + 1 : Nat) : Int)) (by rw [IntWalk.i64_in _ (by omega)]; omega) <| .move rfl <| .nil) ?_
        clear Hz Az; intro Az Hz
        refine wpList_nil ?_
        show ∃ n', n' < _ ∧ _
        exact ⟨b.length - (k + 1), by omega, k + 1, v, by omega, by omega, rfl, by rw [← hv]; exact acc_bound u k (b.getD k 0) hu, by rw [← hD, if_neg hno, if_neg (by omega), hv], Hz.only [0, 4, 10, 11, 12], m16.only [1, 2]⟩
     ·
      clear Hz; intro hb46 Hz
      try simp only [Q1x, Q2x, Q3x, Q4x, Q5x, Q6x, Q7x, Q8x, Q9x, Q0x, Qax, Qbx] at hb46
      have hno : ¬ ((k = 9 ∧ 1 < (b.getD k 0)) ∨ (0 < k ∧ (b.getD k 0) = 0)) := by omega
      have h9 : k = 9 → (b.getD k 0) ≤ 1 := by omega
      obtain ⟨v, hv⟩ : ∃ v, u + ((b.getD k 0) % 128).toNat * 2 ^ (7 * k) = v := ⟨_, rfl⟩
      refine goCh Hz (.sk <| .sk <| .pickFZ rfl rfl <| .pickF rfl rfl <| .nil) ?_
      clear Hz Az; intro Az Hz
      refine wpList_nil ?_
      refine hK5 _ _ ?_; clear hK5; try clear K5
      refine wp_cond_false (Hz.ev (x := .tmp 30) rfl) ?_
      refine wp_skip ?_
      refine hK4 _ _ ?_; clear hK4; try clear K4
      replace Hz : Has 53 [(0, _), (4, _), (10, _), (11, _), (12, _), (5, _), (6, _), (19, _), (23, _), (26, _), (30, _)] Az := Hz.only [0, 4, 10, 11, 12, 5, 6, 19, 23, 26, 30]
      refine regS Hz (.move rfl <| .move rfl <| .c rfl (fun _ h => y_andNot h rfl rfl (r := (b.getD k 0) % 128) (andNot128 _ hxb.1 hxb.2)) <| .conv rfl Tryd.underlying5 Tryd.underlying32 (r := (b.getD k 0) % 128) (IntWalk.u64_in _ (by omega)) <| .move rfl <| .mul rfl rfl (r := 7 * (k : Int)) (IntWalk.i64_in _ (by omega)) <| .shl rfl rfl (by omega) (r := IntKind.u64.wrap ((b.getD k 0) % 128 * 2 ^ (7 * k))) (by rw [shx hk9]) <| .or rfl rfl (r := (v : Int)) (by rw [← hv]; exact or_shift u k (b.getD k 0) hu hk9 hxb.1 hxb.2 h9) <| .assign rfl <| .nil) ?_
      clear Hz Az; intro Az Hz
      replace Hz : Has 53 [(0, _), (4, _), (10, _), (11, _), (12, _), (5, _), (6, _), (19, _), (23, _), (26, _), (30, _)] Az := Hz.only [0, 4, 10, 11, 12, 5, 6, 19, 23, 26, 30]
      refine regS Hz (.move rfl <| .lss rfl rfl <| .nil) ?_
      clear Hz Az; intro Az Hz
      refine bool_cases Hz (t := 40) rfl ?_ ?_
      ·
       clear Hz; intro hb112 Hz
       try simp only [Q1x, Q2x, Q3x, Q4x, Q5x, Q6x, Q7x, Q8x, Q9x, Q0x, Qax, Qbx] at hb112
       have hO : dec 0 0 b = .ok v (k + 1) := by rw [← hD, if_neg hno, if_pos (by omega), hv]
       refine wp_cond_true (Hz.ev (x := .tmp 40) rfl) ?_
       refine wp_seq_k (fun K7 hK7 => ?_)
       refine wp_region_lit ?_
       refine goCh Hz (.move rfl <| .move rfl <| .nilCheck rfl <| .fieldAddr (off := 0) rfl Tryd.underlying100 rfl (s := 0) (by kernel_rfl) rfl <| .loadB1 m16 (i := 1) rfl rfl rfl Tryd.underlying24 rfl <| .move rfl <| .add rfl rfl (r := ((k + 1 : Nat) : Int)) (by rw [IntWalk.i64_in _ (by omega)]; omega) <| .nil) ?_
       clear Hz Az; intro Az Hz
       have m128 := m16.dropN (i := 2) rfl (k + 1) (show k + 1 ≤ b.length by omega) 101 rfl; clear m16
       refine goCh Hz (.c rfl (fun _ h => y_sliceLn h (k + 1) rfl rfl Tryd.underlying24 sz5pno rfl (show k + 1 ≤ b.length by omega)) <| .nilCheck rfl <| .fieldAddr (off := 0) rfl Tryd.underlying100 rfl (s := 0) (by kernel_rfl) rfl <| .nil) ?_
       clear Hz Az; intro Az Hz
       refine wpList_plain rfl (fun K hK => ?_)
       refine e_store1 Hz m128 1 rfl rfl rfl rfl rfl sz24pno (by dsimp only [List.set] <;> rfl) ?_
       clear m128; intro w132 m132 hB132
       clear hB132
       refine hK _ _ ?_; clear hK K
       refine wpList_nil ?_
       refine hK7 _ _ ?_; clear hK7; try clear K7
       replace Hz : Has 53 [(0, _), (4, _), (10, _), (11, _), (12, _), (19, _), (23, _), (26, _), (30, _), (40, _)] Az := Hz.only [0, 4, 10, 11, 12, 19, 23, 26, 30, 40]
       refine regS Hz (.move rfl <| .assign rfl <| .assign rfl <| .nil) ?_
       clear Hz Az; intro Az Hz
       refine wp_ret ?_
       try dsimp only [Exit.then, Exit.inBlock]
       refine (ret2 (fn := Tryd.f59) Hz rfl rfl rfl ?_)
       have hl9 : b.length - (k + 1) = (b.drop (k + 1)).length := by rw [List.length_drop]
       rw [hl9] at m132
       obtain ⟨rfl, rfl⟩ : n = v ∧ j = k + 1 := by rw [hO] at hd; injection hd with q1 q2; exact ⟨q1.symm, q2.symm⟩
       exact ⟨_, _, rfl, m132.ren [(1, 1), (2, 101)] (by decide)⟩
      ·
       clear Hz; intro hb112 Hz
       try simp only [Q1x, Q2x, Q3x, Q4x, Q5x, Q6x, Q7x, Q8x, Q9x, Q0x, Qax, Qbx] at hb112
       refine wp_cond_false (Hz.ev (x := .tmp 40) rfl) ?_
       refine wp_skip ?_
       refine hK2 _ _ ?_; clear hK2; try clear K2
       refine wp_region_lit ?_
       refine goCh Hz (.add rfl rfl (r := ((k + 1 : Nat) : Int)) (by rw [IntWalk.i64_in _ (by omega)]; omega) <| .move rfl <| .nil) ?_
       clear Hz Az; intro Az Hz
       refine wpList_nil ?_
       show ∃ n', n' < _ ∧ _
       exact ⟨b.length - (k + 1), by omega, k + 1, v, by omega, by omega, rfl, by rw [← hv]; exact acc_bound u k (b.getD k 0) hu, by rw [← hD, if_neg hno, if_neg (by omega), hv], Hz.only [0, 4, 10, 11, 12], m16.only [1, 2]⟩
   ·
    clear Hz; intro hb27 Hz
    try simp only [Q1x, Q2x, Q3x, Q4x, Q5x, Q6x, Q7x, Q8x, Q9x, Q0x, Qax, Qbx] at hb27
    refine goCh Hz (.sk <| .sk <| .pickF rfl rfl <| .move rfl <| .moveZ rfl <| .gtrZ rfl rfl <| .moveZ rfl <| .nil) ?_
    clear Hz Az; intro Az Hz
    refine bool_cases Hz (t := 26) rfl ?_ ?_
    ·
     clear Hz; intro hb146 Hz
     try simp only [Q1x, Q2x, Q3x, Q4x, Q5x, Q6x, Q7x, Q8x, Q9x, Q0x, Qax, Qbx] at hb146
     refine goCh Hz (.moveZ rfl <| .eqlZ rfl rfl <| .pickTZ rfl rfl <| .pickF rfl rfl <| .nil) ?_
     clear Hz Az; intro Az Hz
     refine wpList_nil ?_
     refine hK5 _ _ ?_; clear hK5; try clear K5
     refine bool_cases Hz (t := 30) rfl ?_ ?_
     ·
      clear Hz; intro hb151 Hz
      try simp only [Q1x, Q2x, Q3x, Q4x, Q5x, Q6x, Q7x, Q8x, Q9x, Q0x, Qax, Qbx] at hb151
      have hE : dec 0 0 b = .err 20 := by rw [← hD, if_pos (by omega)]
      refine wp_cond_true (Hz.ev (x := .tmp 30) rfl) ?_
      replace Hz : Has 53 [(0, _), (4, _), (10, _), (11, _), (12, _), (5, _), (6, _), (19, _), (23, _), (26, _), (30, _)] Az := Hz.only [0, 4, 10, 11, 12, 5, 6, 19, 23, 26, 30]
      refine regS Hz (.assign rfl <| .assign rfl <| .nil) ?_
      clear Hz Az; intro Az Hz
      refine wp_ret ?_
      try dsimp only [Exit.then, Exit.inBlock]
      refine (ret2 (fn := Tryd.f59) Hz rfl rfl rfl ?_)
      rw [hE] at hd; cases hd
     ·
      clear Hz; intro hb151 Hz
      try simp only [Q1x, Q2x, Q3x, Q4x, Q5x, Q6x, Q7x, Q8x, Q9x, Q0x, Qax, Qbx] at hb151
      have hno : ¬ ((k = 9 ∧ 1 < (b.getD k 0)) ∨ (0 < k ∧ (b.getD k 0) = 0)) := by omega
      have h9 : k = 9 → (b.getD k 0) ≤ 1 := by omega
      obtain ⟨v, hv⟩ : ∃ v, u + ((b.getD k 0) % 128).toNat * 2 ^ (7 * k) = v := ⟨_, rfl⟩
      refine wp_cond_false (Hz.ev (x := .tmp 30) rfl) ?_
      refine wp_skip ?_
      refine hK4 _ _ ?_; clear hK4; try clear K4
      replace Hz : Has 53 [(0, _), (4, _), (10, _), (11, _), (12, _), (5, _), (6, _), (19, _), (23, _), (26, _), (30, _)] Az := Hz.only [0, 4, 10, 11, 12, 5, 6, 19, 23, 26, 30]
      refine regS Hz (.move rfl <| .move rfl <| .c rfl (fun _ h => y_andNot h rfl rfl (r := (b.getD k 0) % 128) (andNot128 _ hxb.1 hxb.2)) <| .conv rfl Tryd.underlying5 Tryd.underlying32 (r := (b.getD k 0) % 128) (IntWalk.u64_in _ (by omega)) <| .move rfl <| .mul rfl rfl (r := 7 * (k : Int)) (IntWalk.i64_in _ (by omega)) <| .shl rfl rfl (by omega) (r := IntKind.u64.wrap ((b.getD k 0) % 128 * 2 ^ (7 * k))) (by rw [shx hk9]) <| .or rfl rfl (r := (v : Int)) (by rw [← hv]; exact or_shift u k (b.getD k 0) hu hk9 hxb.1 hxb.2 h9) <| .assign rfl <| .nil) ?_
      clear Hz Az; intro Az Hz
      replace Hz : Has 53 [(0, _), (4, _), (10, _), (11, _), (12, _), (5, _), (6, _), (19, _), (23, _), (26, _), (30, _)] Az := Hz.only [0, 4, 10, 11, 12, 5, 6, 19, 23, 26, 30]
      refine regS Hz (.move rfl <| .lss rfl rfl <| .nil) ?_
      clear Hz Az; intro Az Hz
      refine bool_cases Hz (t := 40) rfl ?_ ?_
      ·
       clear Hz; intro hb168 Hz
       try simp only [Q1x, Q2x, Q3x, Q4x, Q5x, Q6x, Q7x, Q8x, Q9x, Q0x, Qax, Qbx] at hb168
       have hO : dec 0 0 b = .ok v (k + 1) := by rw [← hD, if_neg hno, if_pos (by omega), hv]
       refine wp_cond_true (Hz.ev (x := .tmp 40) rfl) ?_
       refine wp_seq_k (fun K8 hK8 => ?_)
       refine wp_region_lit ?_
       refine goCh Hz (.move rfl <| .move rfl <| .nilCheck rfl <| .fieldAddr (off := 0) rfl Tryd.underlying100 rfl (s := 0) (by kernel_rfl) rfl <| .loadB1 m16 (i := 1) rfl rfl rfl Tryd.underlying24 rfl <| .move rfl <| .add rfl rfl (r := ((k + 1 : Nat) : Int)) (by rw [IntWalk.i64_in _ (by omega)]; omega) <| .nil) ?_
       clear Hz Az; intro Az Hz
       have m184 := m16.dropN (i := 2) rfl (k + 1) (show k + 1 ≤ b.length by omega) 101 rfl; clear m16
       refine goCh Hz (.c rfl (fun _ h => y_sliceLn h (k + 1) rfl rfl Tryd.underlying24 sz5pno rfl (show k + 1 ≤ b.length by omega)) <| .nilCheck rfl <| .fieldAddr (off := 0) rfl Tryd.underlying100 rfl (s := 0) (by kernel_rfl) rfl <| .nil) ?_
       clear Hz Az; intro Az Hz
       refine wpList_plain rfl (fun K hK => ?_)
       refine e_store1 Hz m184 1 rfl rfl rfl rfl rfl sz24pno (by dsimp only [List.set] <;> rfl) ?_
       clear m184; intro w188 m188 hB188
       clear hB188
       refine hK _ _ ?_; clear hK K
       refine wpList_nil ?_
       refine hK8 _ _ ?_; clear hK8; try clear K8
       replace Hz : Has 53 [(0, _), (4, _), (10, _), (11, _), (12, _), (19, _), (23, _), (26, _), (30, _), (40, _)] Az := Hz.only [0, 4, 10, 11, 12, 19, 23, 26, 30, 40]
       refine regS Hz (.move rfl <| .assign rfl <| .assign rfl <| .nil) ?_
       clear Hz Az; intro Az Hz
       refine wp_ret ?_
       try dsimp only [Exit.then, Exit.inBlock]
       refine (ret2 (fn := Tryd.f59) Hz rfl rfl rfl ?_)
       have hl9 : b.length - (k + 1) = (b.drop (k + 1)).length := by rw [List.length_drop]
       rw [hl9] at m188
       obtain ⟨rfl, rfl⟩ : n = v ∧ j = k + 1 := by rw [hO] at hd; injection hd with q1 q2; exact ⟨q1.symm, q2.symm⟩
       exact ⟨_, _, rfl, m188.ren [(1, 1), (2, 101)] (by decide)⟩
      ·
       clear Hz; intro hb168 Hz
       try simp only [Q1x, Q2x, Q3x, Q4x, Q5x, Q6x, Q7x, Q8x, Q9x, Q0x, Qax, Qbx] at hb168
       refine wp_cond_false (Hz.ev (x := .tmp 40) rfl) ?_
       refine wp_skip ?_
       refine hK2 _ _ ?_; clear hK2; try clear K2
       refine wp_region_lit ?_
       refine goCh Hz (.add rfl rfl (r := ((k + 1 : Nat) : Int)) (by rw [IntWalk.i64_in _ (by omega)]; omega) <| .move rfl <| .nil) ?_
       clear Hz Az; intro Az Hz
       refine wpList_nil ?_
       show ∃ n', n' < _ ∧ _
       exact ⟨b.length - (k + 1), by omega, k + 1, v, by omega, by omega, rfl, by rw [← hv]; exact acc_bound u k (b.getD k 0) hu, by rw [← hD, if_neg hno, if_neg (by omega), hv], Hz.only [0, 4, 10, 11, 12], m16.only [1, 2]⟩
    ·
     clear Hz; intro hb146 Hz
     try simp only [Q1x, Q2x, Q3x, Q4x, Q5x, Q6x, Q7x, Q8x, Q9x, Q0x, Qax, Qbx] at hb146
     have hno : ¬ ((k = 9 ∧ 1 < (b.getD k 0)) ∨ (0 < k ∧ (b.getD k 0) = 0)) := by omega
     have h9 : k = 9 → (b.getD k 0) ≤ 1 := by omega
     obtain ⟨v, hv⟩ : ∃ v, u + ((b.getD k 0) % 128).toNat * 2 ^ (7 * k) = v := ⟨_, rfl⟩
     refine goCh Hz (.sk <| .sk <| .pickFZ rfl rfl <| .pickF rfl rfl <| .nil) ?_
     clear Hz Az; intro Az Hz
     refine wpList_nil ?_
     refine hK5 _ _ ?_; clear hK5; try clear K5
     refine wp_cond_false (Hz.ev (x := .tmp 30) rfl) ?_
     refine wp_skip ?_
     refine hK4 _ _ ?_; clear hK4; try clear K4
     replace Hz : Has 53 [(0, _), (4, _), (10, _), (11, _), (12, _), (5, _), (6, _), (19, _), (23, _), (26, _), (30, _)] Az := Hz.only [0, 4, 10, 11, 12, 5, 6, 19, 23, 26, 30]
     refine regS Hz (.move rfl <| .move rfl <| .c rfl (fun _ h => y_andNot h rfl rfl (r := (b.getD k 0) % 128) (andNot128 _ hxb.1 hxb.2)) <| .conv rfl Tryd.underlying5 Tryd.underlying32 (r := (b.getD k 0) % 128) (IntWalk.u64_in _ (by omega)) <| .move rfl <| .mul rfl rfl (r := 7 * (k : Int)) (IntWalk.i64_in _ (by omega)) <| .shl rfl rfl (by omega) (r := IntKind.u64.wrap ((b.getD k 0) % 128 * 2 ^ (7 * k))) (by rw [shx hk9]) <| .or rfl rfl (r := (v : Int)) (by rw [← hv]; exact or_shift u k (b.getD k 0) hu hk9 hxb.1 hxb.2 h9) <| .assign rfl <| .nil) ?_
     clear Hz Az; intro Az Hz
     replace Hz : Has 53 [(0, _), (4, _), (10, _), (11, _), (12, _), (5, _), (6, _), (19, _), (23, _), (26, _), (30, _)] Az := Hz.only [0, 4, 10, 11, 12, 5, 6, 19, 23, 26, 30]
     refine regS Hz (.move rfl <| .lss rfl rfl <| .nil) ?_
     clear Hz Az; intro Az Hz
     refine bool_cases Hz (t := 40) rfl ?_ ?_
     ·
      clear Hz; intro hb212 Hz
      try simp only [Q1x, Q2x, Q3x, Q4x, Q5x, Q6x, Q7x, Q8x, Q9x, Q0x, Qax, Qbx] at hb212
      have hO : dec 0 0 b = .ok v (k + 1) := by rw [← hD, if_neg hno, if_pos (by omega), hv]
      refine wp_cond_true (Hz.ev (x := .tmp 40) rfl) ?_
      refine wp_seq_k (fun K9 hK9 => ?_)
      refine wp_region_lit ?_
      refine goCh Hz (.move rfl <| .move rfl <| .nilCheck rfl <| .fieldAddr (off := 0) rfl Tryd.underlying100 rfl (s := 0) (by kernel_rfl) rfl <| .loadB1 m16 (i := 1) rfl rfl rfl Tryd.underlying24 rfl <| .move rfl <| .add rfl rfl (r := ((k + 1 : Nat) : Int)) (by rw [IntWalk.i64_in _ (by omega)]; omega) <| .nil) ?_
      clear Hz Az; intro Az Hz
      have m228 := m16.dropN (i := 2) rfl (k + 1) (show k + 1 ≤ b.length by omega) 101 rfl; clear m16
      refine goCh Hz (.c rfl (fun _ h => y_sliceLn h (k + 1) rfl rfl Tryd.underlying24 sz5pno rfl (show k + 1 ≤ b.length by omega)) <| .nilCheck rfl <| .fieldAddr (off := 0) rfl Tryd.underlying100 rfl (s := 0) (by kernel_rfl) rfl <| .nil) ?_
      clear Hz Az; intro Az Hz
      refine wpList_plain rfl (fun K hK => ?_)
      refine e_store1 Hz m228 1 rfl rfl rfl rfl rfl sz24pno (by dsimp only [List.set] <;> rfl) ?_
      clear m228; intro w232 m232 hB232
      clear hB232
      refine hK _ _ ?_; clear hK K
      refine wpList_nil ?_
      refine hK9 _ _ ?_; clear hK9; try clear K9
      replace Hz : Has 53 [(0, _), (4, _), (10, _), (11, _), (12, _), (19, _), (23, _), (26, _), (30, _), (40, _)] Az := Hz.only [0, 4, 10, 11, 12, 19, 23, 26, 30, 40]
      refine regS Hz (.move rfl <| .assign rfl <| .assign rfl <| .nil) ?_
      clear Hz Az; intro Az Hz
      refine wp_ret ?_
      try dsimp only [Exit.then, Exit.inBlock]
      refine (ret2 (fn := Tryd.f59) Hz rfl rfl rfl ?_)
      have hl9 : b.length - (k + 1) = (b.drop (k + 1)).length := by rw [List.length_drop]
      rw [hl9] at m232
      obtain ⟨rfl, rfl⟩ : n = v ∧ j = k + 1 := by rw [hO] at hd; injection hd with q1 q2; exact ⟨q1.symm, q2.symm⟩
      exact ⟨_, _, rfl, m232.ren [(1, 1), (2, 101)] (by decide)⟩
     ·
      clear Hz; intro hb212 Hz
      try simp only [Q1x, Q2x, Q3x, Q4x, Q5x, Q6x, Q7x, Q8x, Q9x, Q0x, Qax, Qbx] at hb212
      refine wp_cond_false (Hz.ev (x := .tmp 40) rfl) ?_
      refine wp_skip ?_
      refine hK2 _ _ ?_; clear hK2; try clear K2
      refine wp_region_lit ?_
      refine goCh Hz (.add rfl rfl (r := ((k + 1 : Nat) : Int)) (by rw [IntWalk.i64_in _ (by omega)]; omega) <| .move rfl <| .nil) ?_
      clear Hz Az; intro Az Hz
      refine wpList_nil ?_
      show ∃ n', n' < _ ∧ _
      exact ⟨b.length - (k + 1), by omega, k + 1, v, by omega, by omega, rfl, by rw [← hv]; exact acc_bound u k (b.getD k 0) hu, by rw [← hD, if_neg hno, if_neg (by omega), hv], Hz.only [0, 4, 10, 11, 12], m16.only [1, 2]⟩
  ·
   clear Hz; intro hb12 Hz
   try simp only [Q1x, Q2x, Q3x, Q4x, Q5x, Q6x, Q7x, Q8x, Q9x, Q0x, Qax, Qbx] at hb12
   obtain rfl : k = b.length := by omega
   have hE : dec 0 0 b = .err 21 := by rw [← hD0, List.drop_length]; rfl
   refine wp_cond_false (Hz.ev (x := .tmp 13) rfl) ?_
   refine wp_exit ?_
   refine hK0 _ _ ?_; clear hK0; try clear K0
   refine regS Hz (.assign rfl <| .assign rfl <| .nil) ?_
   clear Hz Az; intro Az Hz
   refine wp_ret ?_
   try dsimp only [Exit.then, Exit.inBlock]
   refine (ret2 (fn := Tryd.f59) Hz rfl rfl rfl ?_)
   rw [hE] at hd; cases hd
theorem pnumber_err (X : Cx) (B : Nat) (b : List Int) (er : Int) (p : Option Addr) (c : Nat) (w0 : World) (er1 : Int) (hb : b.length ≤ 1000000) (hbb : BytesL b) (hd : dec 0 0 b = .err er1) (m0 : MemOk X w0 [(1, .box B 102 [.slice p (b).length c, .int .i64 er]), (2, .dat (.slice p (b).length c) (.ns .u8 (b)))] w0) :
   Calls Tryd.prog 59 #[.pointer (some ⟨B, 0, none⟩)] w0 fun e w' => e = .returned (.tuple #[.int .u64 0, .int .i64 er1]) ∧ MemOk X w0 [(1, .box B 102 [.slice p (b).length c, .int .i64 er]), (2, .dat (.slice p (b).length c) (.ns .u8 (b)))] w' := by
 refine enter (fn := Tryd.f59) Tryd.func59 rfl Tryd.ntmps59 rfl (fun Az Hz => ?_)
 simp only [List.zipIdx_cons, List.zipIdx_nil, List.map_cons, List.map_nil, Nat.reduceAdd, Nat.zero_add] at Hz
 refine regS Hz (.assign rfl <| .assign rfl <| .nil) ?_
 clear Hz Az; intro Az Hz
 refine regS Hz (.assign rfl <| .nil) ?_
 clear Hz Az; intro Az Hz
 refine wp_seq_k (fun K0 hK0 => ?_)
 refine regS Hz (.move rfl <| .nilCheck rfl <| .fieldAddr (off := 0) rfl Tryd.underlying100 rfl (s := 0) (by kernel_rfl) rfl <| .loadB1 m0 (i := 1) rfl rfl rfl Tryd.underlying24 rfl <| .len rfl Tryd.underlying24 <| .move rfl <| .nil) ?_
 clear Hz Az; intro Az Hz
 refine wp_block ?_
 refine wp_loop_ghost (fun g a w => ∃ (k u : Nat), k ≤ b.length ∧ k ≤ 9 ∧ g = b.length - k ∧ u < 2 ^ (7 * k) ∧ dec u k (b.drop k) = dec 0 0 b ∧ Has 53 [(0, .pointer (some ⟨B, 0, none⟩)), (4, .int .u64 (u : Int)), (10, .slice p b.length c), (11, .int .i64 b.length), (12, .int .i64 k)] a ∧ MemOk X w0 [(1, .box B 102 [.slice p (b).length c, .int .i64 er]), (2, .dat (.slice p (b).length c) (.ns .u8 (b)))] w) (b.length) ?_ ?_
 · exact ⟨0, 0, Nat.zero_le _, Nat.zero_le _, rfl, by decide, rfl, Hz.only [0, 4, 10, 11, 12], m0.only [1, 2]⟩
 ·
  clear Hz m0
  rintro g Az w10 ⟨k, u, hkl, hk9, hg, hu, hD0, Hz, m10⟩
  refine regS Hz (.lss rfl rfl <| .nil) ?_
  clear Hz Az; intro Az Hz
  refine wp_seq_k (fun K1 hK1 => ?_)
  refine bool_cases Hz (t := 13) rfl ?_ ?_
  ·
   clear Hz; intro hb12 Hz
   try simp only [Q1x, Q2x, Q3x, Q4x, Q5x, Q6x, Q7x, Q8x, Q9x, Q0x, Qax, Qbx] at hb12
   have hk : k < b.length := by omega
   have hxb := getD_bd hbb hk
   have hD := hD0
   rw [dec_at hk] at hD
   refine wp_cond_true (Hz.ev (x := .tmp 13) rfl) ?_
   refine wp_skip ?_
   refine hK1 _ _ ?_; clear hK1; try clear K1
   refine wp_seq_k (fun K2 hK2 => ?_)
   refine wp_block ?_
   refine wp_seq_k (fun K3 hK3 => ?_)
   refine wp_region_lit ?_
   refine goCh Hz (.move rfl .nil) ?_
   clear Hz Az; intro Az Hz
   obtain ⟨b16, o16, hp16, m16⟩ := m10.openN (i := 2) rfl (k) hk 100 rfl
   cases hp16; clear m10
   refine goCh Hz (.c rfl (fun _ h => y_idx h rfl rfl Tryd.underlying24 sz5pne (k) rfl hk) <| .loadC0 m16 (i := 100) rfl rfl Tryd.underlying5 rfl <| .assign rfl <| .assign rfl <| .nil) ?_
   clear Hz Az; intro Az Hz
   refine wpList_nil ?_
   refine hK3 _ _ ?_; clear hK3; try clear K3
   refine wp_seq_k (fun K4 hK4 => ?_)
   refine wp_seq_k (fun K5 hK5 => ?_)
   refine wp_region_lit ?_
   refine goCh Hz (.move rfl <| .eql rfl rfl <| .move rfl <| .nil) ?_
   clear Hz Az; intro Az Hz
   refine bool_cases Hz (t := 19) rfl ?_ ?_
   ·
    clear Hz; intro hb27 Hz
    try simp only [Q1x, Q2x, Q3x, Q4x, Q5x, Q6x, Q7x, Q8x, Q9x, Q0x, Qax, Qbx] at hb27
    refine goCh Hz (.moveZ rfl <| .gtrZ rfl rfl <| .pickT rfl rfl <| .move rfl <| .nil) ?_
    clear Hz Az; intro Az Hz
    refine bool_cases Hz (t := 23) rfl ?_ ?_
    ·
     clear Hz; intro hb32 Hz
     try simp only [Q1x, Q2x, Q3x, Q4x, Q5x, Q6x, Q7x, Q8x, Q9x, Q0x, Qax, Qbx] at hb32
     have hE : dec 0 0 b = .err 20 := by rw [← hD, if_pos (by omega)]
     refine goCh Hz (.sk <| .sk <| .sk <| .nil) ?_
     clear Hz Az; intro Az Hz
     refine st_skipU Hz rfl rfl rfl rfl ?_
     clear Hz Az; intro Az Hz
     refine st_skipU Hz rfl rfl rfl rfl ?_
     clear Hz Az; intro Az Hz
     refine goCh Hz (.sk <| .pickT rfl rfl <| .nil) ?_
     clear Hz Az; intro Az Hz
     refine wpList_nil ?_
     refine hK5 _ _ ?_; clear hK5; try clear K5
     refine wp_cond_true (Hz.ev (x := .tmp 30) rfl) ?_
     replace Hz : Has 53 [(0, _), (4, _), (10, _), (11, _), (12, _), (5, _), (6, _), (19, _), (23, _), (26, _), (30, _)] Az := Hz.only [0, 4, 10, 11, 12, 5, 6, 19, 23, 26, 30]
     refine regS Hz (.assign rfl <| .assign rfl <| .nil) ?_
     clear Hz Az; intro Az Hz
     refine wp_ret ?_
     try dsimp only [Exit.then, Exit.inBlock]
     refine (ret2 (fn := Tryd.f59) Hz rfl rfl rfl ?_)
     rw [hE] at hd
     injection hd with hd
     subst hd
     exact ⟨rfl, m16.ren [(1, 1), (2, 2)] (by decide)⟩
    ·
     clear Hz; intro hb32 Hz
     try simp only [Q1x, Q2x, Q3x, Q4x, Q5x, Q6x, Q7x, Q8x, Q9x, Q0x, Qax, Qbx] at hb32
     refine goCh Hz (.moveZ rfl <| .gtrZ rfl rfl <| .moveZ rfl <| .nil) ?_
     clear Hz Az; intro Az Hz
     refine bool_cases Hz (t := 26) rfl ?_ ?_
     ·
      clear Hz; intro hb46 Hz
      try simp only [Q1x, Q2x, Q3x, Q4x, Q5x, Q6x, Q7x, Q8x, Q9x, Q0x, Qax, Qbx] at hb46
      refine goCh Hz (.moveZ rfl <| .eqlZ rfl rfl <| .pickTZ rfl rfl <| .pickF rfl rfl <| .nil) ?_
      clear Hz Az; intro Az Hz
      refine wpList_nil ?_
      refine hK5 _ _ ?_; clear hK5; try clear K5
      refine bool_cases Hz (t := 30) rfl ?_ ?_
      ·
       clear Hz; intro hb51 Hz
       try simp only [Q1x, Q2x, Q3x, Q4x, Q5x, Q6x, Q7x, Q8x, Q9x, Q0x, Qax, Qbx] at hb51
       have hE : dec 0 0 b = .err 20 := by rw [← hD, if_pos (by omega)]
       refine wp_cond_true (Hz.ev (x := .tmp 30) rfl) ?_
       replace Hz : Has 53 [(0, _), (4, _), (10, _), (11, _), (12, _), (5, _), (6, _), (19, _), (23, _), (26, _), (30, _)] Az := Hz.only [0, 4, 10, 11, 12, 5, 6, 19, 23, 26, 30]
       refine regS Hz (.assign rfl <| .assign rfl <| .nil) ?_
       clear Hz Az; intro Az Hz
       refine wp_ret ?_
       try dsimp only [Exit.then, Exit.inBlock]
       refine (ret2 (fn := Tryd.f59) Hz rfl rfl rfl ?_)
       rw [hE] at hd
       injection hd with hd
       subst hd
       exact ⟨rfl, m16.ren [(1, 1), (2, 2)] (by decide)⟩
      ·
       clear Hz; intro hb51 Hz
       try simp only [Q1x, Q2x, Q3x, Q4x, Q5x, Q6x, Q7x, Q8x, Q9x, Q0x, Qax, Qbx] at hb51
       have hno : ¬ ((k = 9 ∧ 1 < (b.getD k 0)) ∨ (0 < k ∧ (b.getD k 0) = 0)) := by omega
       have h9 : k = 9 → (b.getD k 0) ≤ 1 := by omega
       obtain ⟨v, hv⟩ : ∃ v, u + ((b.getD k 0) % 128).toNat * 2 ^ (7 * k) = v := ⟨_, rfl⟩
       refine wp_cond_false (Hz.ev (x := .tmp 30) rfl) ?_
       refine wp_skip ?_
       refine hK4 _ _ ?_; clear hK4; try clear K4
       replace Hz : Has 53 [(0, _), (4, _), (10, _), (11, _), (12, _), (5, _), (6, _), (19, _), (23, _), (26, _), (30, _)] Az := Hz.only [0, 4, 10, 11, 12, 5, 6, 19, 23, 26, 30]
       refine regS Hz (.move rfl <| .move rfl <| .c rfl (fun _ h => y_andNot h rfl rfl (r := (b.getD k 0) % 128) (andNot128 _ hxb.1 hxb.2)) <| .conv rfl Tryd.underlying5 Tryd.underlying32 (r := (b.getD k 0) % 128) (IntWalk.u64_in _ (by omega)) <| .move rfl <| .mul rfl rfl (r := 7 * (k : Int)) (IntWalk.i64_in _ (by omega)) <| .shl rfl rfl (by omega) (r := IntKind.u64.wrap ((b.getD k 0) % 128 * 2 ^ (7 * k))) (by rw [shx hk9]) <| .or rfl rfl (r := (v : Int)) (by rw [← hv]; exact or_shift u k (b.getD k 0) hu hk9 hxb.1 hxb.2 h9) <| .assign rfl <| .nil) ?_
       clear Hz Az; intro Az Hz
       replace Hz : Has 53 [(0, _), (4, _), (10, _), (11, _), (12, _), (5, _), (6, _), (19, _), (23, _), (26, _), (30, _)] Az := Hz.only [0, 4, 10, 11, 12, 5, 6, 19, 23, 26, 30]
       refine regS Hz (.move rfl <| .lss rfl rfl <| .nil) ?_
       clear Hz Az; intro Az Hz
       refine bool_cases Hz (t := 40) rfl ?_ ?_
       ·
        clear Hz; intro hb68 Hz
        try simp only [Q1x, Q2x, Q3x, Q4x, Q5x, Q6x, Q7x, Q8x, Q9x, Q0x, Qax, Qbx] at hb68
        have hO : dec 0 0 b = .ok v (k + 1) := by rw [← hD, if_neg hno, if_pos (by omega), hv]
        refine wp_cond_true (Hz.ev (x := .tmp 40) rfl) ?_
        refine wp_seq_k (fun K6 hK6 => ?_)
        refine wp_region_lit ?_
        refine goCh Hz (.move rfl <| .move rfl <| .nilCheck rfl <| .fieldAddr (off := 0) rfl Tryd.underlying100 rfl (s := 0) (by kernel_rfl) rfl <| .loadB1 m16 (i := 1) rfl rfl rfl Tryd.underlying24 rfl <| .move rfl <| .add rfl rfl (r := ((k + 1 : Nat) : Int)) (by rw [IntWalk.i64_in _ (by omega)]; omega) <| .nil) ?_
        clear Hz Az; intro Az Hz
        have m84 := m16.dropN (i := 2) rfl (k + 1) (show k + 1 ≤ b.length by omega) 101 rfl; clear m16
        refine goCh Hz (.c rfl (fun _ h => y_sliceLn h (k + 1) rfl rfl Tryd.underlying24 sz5pne rfl (show k + 1 ≤ b.length by omega)) <| .nilCheck rfl <| .fieldAddr (off := 0) rfl Tryd.underlying100 rfl (s := 0) (by kernel_rfl) rfl <| .nil) ?_
        clear Hz Az; intro Az Hz
        refine wpList_plain rfl (fun K hK => ?_)
        refine e_store1 Hz m84 1 rfl rfl rfl rfl rfl sz24pne (by dsimp only [List.set] <;> rfl) ?_
        clear m84; intro w88 m88 hB88
        clear hB88
        refine hK _ _ ?_; clear hK K
        refine wpList_nil ?_
        refine hK6 _ _ ?_; clear hK6; try clear K6
        replace Hz : Has 53 [(0, _), (4, _), (10, _), (11, _), (12, _), (19, _), (23, _), (26, _), (30, _), (40, _)] Az := Hz.only [0, 4, 10, 11, 12, 19, 23, 26, 30, 40]
        refine regS Hz (.move rfl <| .assign rfl <| .assign rfl <| .nil) ?_
        clear Hz Az; intro Az Hz
        refine wp_ret ?_
        try dsimp only [Exit.then, Exit.inBlock]
        refine (ret2 (fn := Tryd.f59) Hz rfl rfl rfl ?_)
        rw [hO] at hd; cases hd
       ·
        clear Hz; intro hb68 Hz
        try simp only [Q1x, Q2x, Q3x, Q4x, Q5x, Q6x, Q7x, Q8x, Q9x, Q0x, Qax, Qbx] at hb68
        refine wp_cond_false (Hz.ev (x := .tmp 40) rfl) ?_
        refine wp_skip ?_
        refine hK2 _ _ ?_; clear hK2; try clear K2
        refine wp_region_lit ?_
        refine goCh Hz (.add rfl rfl (r := ((k + 1 : Nat) : Int)) (by rw [IntWalk.i64_in _ (by omega)]; omega) <| .move rfl <| .nil) ?_
        clear Hz Az; intro Az Hz
        refine wpList_nil ?_
        show ∃ n', n' < _ ∧ _
        exact ⟨b.length - (k + 1), by omega, k + 1, v, by omega, by omega, rfl, by rw [← hv]; exact acc_bound u k (b.getD k 0) hu, by rw [← hD, if_neg hno, if_neg (by omega), hv], Hz.only [0, 4, 10, 11, 12], m16.only [1, 2]⟩
     ·
      clear Hz; intro hb46 Hz
      try simp only [Q1x, Q2x, Q3x, Q4x, Q5x, Q6x, Q7x, Q8x, Q9x, Q0x, Qax, Qbx] at hb46
      have hno : ¬ ((k = 9 ∧ 1 < (b.getD k 0)) ∨ (0 < k ∧ (b.getD k 0) = 0)) := by omega
      have h9 : k = 9 → (b.getD k 0) ≤ 1 := by omega
      obtain ⟨v, hv⟩ : ∃ v, u + ((b.getD k 0) % 128).toNat * 2 ^ (7 * k) = v := ⟨_, rfl⟩
      refine goCh Hz (.sk <| .sk <| .pickFZ rfl rfl <| .pickF rfl rfl <| .nil) ?_
      clear Hz Az; intro Az Hz
      refine wpList_nil ?_
      refine hK5 _ _ ?_; clear hK5; try clear K5
      refine wp_cond_false (Hz.ev (x := .tmp 30) rfl) ?_
      refine wp_skip ?_
      refine hK4 _ _ ?_; clear hK4; try clear K4
      replace Hz : Has 53 [(0, _), (4, _), (10, _), (11, _), (12, _), (5, _), (6, _), (19, _), (23, _), (26, _), (30, _)] Az := Hz.only [0, 4, 10, 11, 12, 5, 6, 19, 23, 26, 30]
      refine regS Hz (.move rfl <| .move rfl <| .c rfl (fun _ h => y_andNot h rfl rfl (r := (b.getD k 0) % 128) (andNot128 _ hxb.1 hxb.2)) <| .conv rfl Tryd.underlying5 Tryd.underlying32 (r := (b.getD k 0) % 128) (IntWalk.u64_in _ (by omega)) <| .move rfl <| .mul rfl rfl (r := 7 * (k : Int)) (IntWalk.i64_in _ (by omega)) <| .shl rfl rfl (by omega) (r := IntKind.u64.wrap ((b.getD k 0) % 128 * 2 ^ (7 * k))) (by rw [shx hk9]) <| .or rfl rfl (r := (v : Int)) (by rw [← hv]; exact or_shift u k (b.getD k 0) hu hk9 hxb.1 hxb.2 h9) <| .assign rfl <| .nil) ?_
      clear Hz Az; intro Az Hz
      replace Hz : Has 53 [(0, _), (4, _), (10, _), (11, _), (12, _), (5, _), (6, _), (19, _), (23, _), (26, _), (30, _)] Az := Hz.only [0, 4, 10, 11, 12, 5, 6, 19, 23, 26, 30]
      refine regS Hz (.move rfl <| .lss rfl rfl <| .nil) ?_
      clear Hz Az; intro Az Hz
      refine bool_cases Hz (t := 40) rfl ?_ ?_
      ·
       clear Hz; intro hb112 Hz
       try simp only [Q1x, Q2x, Q3x, Q4x, Q5x, Q6x, Q7x, Q8x, Q9x, Q0x, Qax, Qbx] at hb112
       have hO : dec 0 0 b = .ok v (k + 1) := by rw [← hD, if_neg hno, if_pos (by omega), hv]
       refine wp_cond_true (Hz.ev (x := .tmp 40) rfl) ?_
       refine wp_seq_k (fun K7 hK7 => ?_)
       refine wp_region_lit ?_
       refine goCh Hz (.move rfl <| .move rfl <| .nilCheck rfl <| .fieldAddr (off := 0) rfl Tryd.underlying100 rfl (s := 0) (by kernel_rfl) rfl <| .loadB1 m16 (i := 1) rfl rfl rfl Tryd.underlying24 rfl <| .move rfl <| .add rfl rfl (r := ((k + 1 : Nat) : Int)) (by rw [IntWalk.i64_in _ (by omega)]; omega) <| .nil) ?_
       clear Hz Az; intro Az Hz
       have m128 := m16.dropN (i := 2) rfl (k + 1) (show k + 1 ≤ b.length by omega) 101 rfl; clear m16
       refine goCh Hz (.c rfl (fun _ h => y_sliceLn h (k + 1) rfl rfl Tryd.underlying24 sz5pne rfl (show k + 1 ≤ b.length by omega)) <| .nilCheck rfl <| .fieldAddr (off := 0) rfl Tryd.underlying100 rfl (s := 0) (by kernel_rfl) rfl <| .nil) ?_
       clear Hz Az; intro Az Hz
       refine wpList_plain rfl (fun K hK => ?_)
       refine e_store1 Hz m128 1 rfl rfl rfl rfl rfl sz24pne (by dsimp only [List.set] <;> rfl) ?_
       clear m128; intro w132 m132 hB132
       clear hB132
       refine hK _ _ ?_; clear hK K
       refine wpList_nil ?_
       refine hK7 _ _ ?_; clear hK7; try clear K7
       replace Hz : Has 53 [(0, _), (4, _), (10, _), (11, _), (12, _), (19, _), (23, _), (26, _), (30, _), (40, _)] Az := Hz.only [0, 4, 10, 11, 12, 19, 23, 26, 30, 40]
       refine regS Hz (.move rfl <| .assign rfl <| .assign rfl <| .nil) ?_
       clear Hz Az; intro Az Hz
       refine wp_ret ?_
       try dsimp only [Exit.then, Exit.inBlock]
       refine (ret2 (fn := Tryd.f59) Hz rfl rfl rfl ?_)
       rw [hO] at hd; cases hd
      ·
       clear Hz; intro hb112 Hz
       try simp only [Q1x, Q2x, Q3x, Q4x, Q5x, Q6x, Q7x, Q8x, Q9x, Q0x, Qax, Qbx] at hb112
       refine wp_cond_false (Hz.ev (x := .tmp 40) rfl) ?_
       refine wp_skip ?_
       refine hK2 _ _ ?_; clear hK2; try clear K2
       refine wp_region_lit ?_
       refine goCh Hz (.add rfl rfl (r := ((k + 1 : Nat) : Int)) (by rw [IntWalk.i64_in _ (by omega)]; omega) <| .move rfl <| .nil) ?_
       clear Hz Az; intro Az Hz
       refine wpList_nil ?_
       show ∃ n', n' < _ ∧ _
       exact ⟨b.length - (k + 1), by omega, k + 1, v, by omega, by omega, rfl, by rw [← hv]; exact acc_bound u k (b.getD k 0) hu, by rw [← hD, if_neg hno, if_neg (by omega), hv], Hz.only [0, 4, 10, 11, 12], m16.only [1, 2]⟩
   ·
    clear Hz; intro hb27 Hz
    try simp only [Q1x, Q2x, Q3x, Q4x, Q5x, Q6x, Q7x, Q8x, Q9x, Q0x, Qax, Qbx] at hb27
    refine goCh Hz (.sk <| .sk <| .pickF rfl rfl <| .move rfl <| .moveZ rfl <| .gtrZ rfl rfl <| .moveZ rfl <| .nil) ?_
    clear Hz Az; intro Az Hz
    refine bool_cases Hz (t := 26) rfl ?_ ?_
    ·
     clear Hz; intro hb146 Hz
     try simp only [Q1x, Q2x, Q3x, Q4x, Q5x, Q6x, Q7x, Q8x, Q9x, Q0x, Qax, Qbx] at hb146
     refine goCh Hz (.moveZ rfl <| .eqlZ rfl rfl <| .pickTZ rfl rfl <| .pickF rfl rfl <| .nil) ?_
     clear Hz Az; intro Az Hz
     refine wpList_nil ?_
     refine hK5 _ _ ?_; clear hK5; try clear K5
     refine bool_cases Hz (t := 30) rfl ?_ ?_
     ·
      clear Hz; intro hb151 Hz
      try simp only [Q1x, Q2x, Q3x, Q4x, Q5x, Q6x, Q7x, Q8x, Q9x, Q0x, Qax, Qbx] at hb151
      have hE : dec 0 0 b = .err 20 := by rw [← hD, if_pos (by omega)]
      refine wp_cond_true (Hz.ev (x := .tmp 30) rfl) ?_
      replace Hz : Has 53 [(0, _), (4, _), (10, _), (11, _), (12, _), (5, _), (6, _), (19, _), (23, _), (26, _), (30, _)] Az := Hz.only [0, 4, 10, 11, 12, 5, 6, 19, 23, 26, 30]
      refine regS Hz (.assign rfl <| .assign rfl <| .nil) ?_
      clear Hz Az; intro Az Hz
      refine wp_ret ?_
      try dsimp only [Exit.then, Exit.inBlock]
      refine (ret2 (fn := Tryd.f59) Hz rfl rfl rfl ?_)
      rw [hE] at hd
      injection hd with hd
      subst hd
      exact ⟨rfl, m16.ren [(1, 1), (2, 2)] (by decide)⟩
     ·
      clear Hz; intro hb151 Hz
      try simp only [Q1x, Q2x, Q3x, Q4x, Q5x, Q6x, Q7x, Q8x, Q9x, Q0x, Qax, Qbx] at hb151
      have hno : ¬ ((k = 9 ∧ 1 < (b.getD k 0)) ∨ (0 < k ∧ (b.getD k 0) = 0)) := by omega
      have h9 : k = 9 → (b.getD k 0) ≤ 1 := by omega
      obtain ⟨v, hv⟩ : ∃ v, u + ((b.getD k 0) % 128).toNat * 2 ^ (7 * k) = v := ⟨_, rfl⟩
      refine wp_cond_false (Hz.ev (x := .tmp 30) rfl) ?_
      refine wp_skip ?_
      refine hK4 _ _ ?_; clear hK4; try clear K4
      replace Hz : Has 53 [(0, _), (4, _), (10, _), (11, _), (12, _), (5, _), (6, _), (19, _), (23, _), (26, _), (30, _)] Az := Hz.only [0, 4, 10, 11, 12, 5, 6, 19, 23, 26, 30]
      refine regS Hz (.move rfl <| .move rfl <| .c rfl (fun _ h => y_andNot h rfl rfl (r := (b.getD k 0) % 128) (andNot128 _ hxb.1 hxb.2)) <| .conv rfl Tryd.underlying5 Tryd.underlying32 (r := (b.getD k 0) % 128) (IntWalk.u64_in _ (by omega)) <| .move rfl <| .mul rfl rfl (r := 7 * (k : Int)) (IntWalk.i64_in _ (by omega)) <| .shl rfl rfl (by omega) (r := IntKind.u64.wrap ((b.getD k 0) % 128 * 2 ^ (7 * k))) (by rw [shx hk9]) <| .or rfl rfl (r := (v : Int)) (by rw [← hv]; exact or_shift u k (b.getD k 0) hu hk9 hxb.1 hxb.2 h9) <| .assign rfl <| .nil) ?_
      clear Hz Az; intro Az Hz
      replace Hz : Has 53 [(0, _), (4, _), (10, _), (11, _), (12, _), (5, _), (6, _), (19, _), (23, _), (26, _), (30, _)] Az := Hz.only [0, 4, 10, 11, 12, 5, 6, 19, 23, 26, 30]
      refine regS Hz (.move rfl <| .lss rfl rfl <| .nil) ?_
      clear Hz Az; intro Az Hz
      refine bool_cases Hz (t := 40) rfl ?_ ?_
      ·
       clear Hz; intro hb168 Hz
       try simp only [Q1x, Q2x, Q3x, Q4x, Q5x, Q6x, Q7x, Q8x, Q9x, Q0x, Qax, Qbx] at hb168
       have hO : dec 0 0 b = .ok v (k + 1) := by rw [← hD, if_neg hno, if_pos (by omega), hv]
       refine wp_cond_true (Hz.ev (x := .tmp 40) rfl) ?_
       refine wp_seq_k (fun K8 hK8 => ?_)
       refine wp_region_lit ?_
       refine goCh Hz (.move rfl <| .move rfl <| .nilCheck rfl <| .fieldAddr (off := 0) rfl Tryd.underlying100 rfl (s := 0) (by kernel_rfl) rfl <| .loadB1 m16 (i := 1) rfl rfl rfl Tryd.underlying24 rfl <| .move rfl <| .add rfl rfl (r := ((k + 1 : Nat) : Int)) (by rw [IntWalk.i64_in _ (by omega)]; omega) <| .nil) ?_
       clear Hz Az; intro Az Hz
       have m184 := m16.dropN (i := 2) rfl (k + 1) (show k + 1 ≤ b.length by omega) 101 rfl; clear m16
       refine goCh Hz (.c rfl (fun _ h => y_sliceLn h (k + 1) rfl rfl Tryd.underlying24 sz5pne rfl (show k + 1 ≤ b.length by omega)) <| .nilCheck rfl <| .fieldAddr (off := 0) rfl Tryd.underlying100 rfl (s := 0) (by kernel_rfl) rfl <| .nil) ?_
       clear Hz Az; intro Az Hz
       refine wpList_plain rfl (fun K hK => ?_)
       refine e_store1 Hz m184 1 rfl rfl rfl rfl rfl sz24pne (by dsimp only [List.set] <;> rfl) ?_
       clear m184; intro w188 m188 hB188
       clear hB188
       refine hK _ _ ?_; clear hK K
       refine wpList_nil ?_
       refine hK8 _ _ ?_; clear hK8; try clear K8
       replace Hz : Has 53 [(0, _), (4, _), (10, _), (11, _), (12, _), (19, _), (23, _), (26, _), (30, _), (40, _)] Az := Hz.only [0, 4, 10, 11, 12, 19, 23, 26, 30, 40]
       refine regS Hz (.move rfl <| .assign rfl <| .assign rfl <| .nil) ?_
       clear Hz Az; intro Az Hz
       refine wp_ret ?_
       try dsimp only [Exit.then, Exit.inBlock]
       refine (ret2 (fn := Tryd.f59) Hz rfl rfl rfl ?_)
       rw [hO] at hd; cases hd
      ·
       clear Hz; intro hb168 Hz
       try simp only [Q1x, Q2x, Q3x, Q4x, Q5x, Q6x, Q7x, Q8x, Q9x, Q0x, Qax, Qbx] at hb168
       refine wp_cond_false (Hz.ev (x := .tmp 40) rfl) ?_
       refine wp_skip ?_
       refine hK2 _ _ ?_; clear hK2; try clear K2
       refine wp_region_lit ?_
       refine goCh Hz (.add rfl rfl (r := ((k + 1 : Nat) : Int)) (by rw [IntWalk.i64_in _ (by omega)]; omega) <| .move rfl <| .nil) ?_
       clear Hz Az; intro Az Hz
       refine wpList_nil ?_
       show ∃ n', n' < _ ∧ _
       exact ⟨b.length - (k + 1), by omega, k + 1, v, by omega, by omega, rfl, by rw [← hv]; exact acc_bound u k (b.getD k 0) hu, by rw [← hD, if_neg hno, if_neg (by omega), hv], Hz.only [0, 4, 10, 11, 12], m16.only [1, 2]⟩
    ·
     clear Hz; intro hb146 Hz
     try simp only [Q1x, Q2x, Q3x, Q4x, Q5x, Q6x, Q7x, Q8x, Q9x, Q0x, Qax, Qbx] at hb146
     have hno : ¬ ((k = 9 ∧ 1 < (b.getD k 0)) ∨ (0 < k ∧ (b.getD k 0) = 0)) := by omega
     have h9 : k = 9 → (b.getD k 0) ≤ 1 := by omega
     obtain ⟨v, hv⟩ : ∃ v, u + ((b.getD k 0) % 128).toNat * 2 ^ (7 * k) = v := ⟨_, rfl⟩
     refine goCh Hz (.sk <| .sk <| .pickFZ rfl rfl <| .pickF rfl rfl <| .nil) ?_
     clear Hz Az; intro Az Hz
     refine wpList_nil ?_
     refine hK5 _ _ ?_; clear hK5; try clear K5
     refine wp_cond_false (Hz.ev (x := .tmp 30) rfl) ?_
     refine wp_skip ?_
     refine hK4 _ _ ?_; clear hK4; try clear K4
     replace Hz : Has 53 [(0, _), (4, _), (10, _), (11, _), (12, _), (5, _), (6, _), (19, _), (23, _), (26, _), (30, _)] Az := Hz.only [0, 4, 10, 11, 12, 5, 6, 19, 23, 26, 30]
     refine regS Hz (.move rfl <| .move rfl <| .c rfl (fun _ h => y_andNot h rfl rfl (r := (b.getD k 0) % 128) (andNot128 _ hxb.1 hxb.2)) <| .conv rfl Tryd.underlying5 Tryd.underlying32 (r := (b.getD k 0) % 128) (IntWalk.u64_in _ (by omega)) <| .move rfl <| .mul rfl rfl (r := 7 * (k : Int)) (IntWalk.i64_in _ (by omega)) <| .shl rfl rfl (by omega) (r := IntKind.u64.wrap ((b.getD k 0) % 128 * 2 ^ (7 * k))) (by rw [shx hk9]) <| .or rfl rfl (r := (v : Int)) (by rw [← hv]; exact or_shift u k (b.getD k 0) hu hk9 hxb.1 hxb.2 h9) <| .assign rfl <| .nil) ?_
     clear Hz Az; intro Az Hz
     replace Hz : Has 53 [(0, _), (4, _), (10, _), (11, _), (12, _), (5, _), (6, _), (19, _), (23, _), (26, _), (30, _)] Az := Hz.only [0, 4, 10, 11, 12, 5, 6, 19, 23, 26, 30]
     refine regS Hz (.move rfl <| .lss rfl rfl <| .nil) ?_
     clear Hz Az; intro Az Hz
     refine bool_cases Hz (t := 40) rfl ?_ ?_
     ·
      clear Hz; intro hb212 Hz
      try simp only [Q1x, Q2x, Q3x, Q4x, Q5x, Q6x, Q7x, Q8x, Q9x, Q0x, Qax, Qbx] at hb212
      have hO : dec 0 0 b = .ok v (k + 1) := by rw [← hD, if_neg hno, if_pos (by omega), hv]
      refine wp_cond_true (Hz.ev (x := .tmp 40) rfl) ?_
      refine wp_seq_k (fun K9 hK9 => ?_)
      refine wp_region_lit ?_
      refine goCh Hz (.move rfl <| .move rfl <| .nilCheck rfl <| .fieldAddr (off := 0) rfl Tryd.underlying100 rfl (s := 0) (by kernel_rfl) rfl <| .loadB1 m16 (i := 1) rfl rfl rfl Tryd.underlying24 rfl <| .move rfl <| .add rfl rfl (r := ((k + 1 : Nat) : Int)) (by rw [IntWalk.i64_in _ (by omega)]; omega) <| .nil) ?_
      clear Hz Az; intro Az Hz
      have m228 := m16.dropN (i := 2) rfl (k + 1) (show k + 1 ≤ b.length by omega) 101 rfl; clear m16
      refine goCh Hz (.c rfl (fun _ h => y_sliceLn h (k + 1) rfl rfl Tryd.underlying24 sz5pne rfl (show k + 1 ≤ b.length by omega)) <| .nilCheck rfl <| .fieldAddr (off := 0) rfl Tryd.underlying100 rfl (s := 0) (by kernel_rfl) rfl <| .nil) ?_
      clear Hz Az; intro Az Hz
      refine wpList_plain rfl (fun K hK => ?_)
      refine e_store1 Hz m228 1 rfl rfl rfl rfl rfl sz24pne (by dsimp only [List.set] <;> rfl) ?_
      clear m228; intro w232 m232 hB232
      clear hB232
      refine hK _ _ ?_; clear hK K
      refine wpList_nil ?_
      refine hK9 _ _ ?_; clear hK9; try clear K9
      replace Hz : Has 53 [(0, _), (4, _), (10, _), (11, _), (12, _), (19, _), (23, _), (26, _), (30, _), (40, _)] Az := Hz.only [0, 4, 10, 11, 12, 19, 23, 26, 30, 40]
      refine regS Hz (.move rfl <| .assign rfl <| .assign rfl <| .nil) ?_
      clear Hz Az; intro Az Hz
      refine wp_ret ?_
      try dsimp only [Exit.then, Exit.inBlock]
      refine (ret2 (fn := Tryd.f59) Hz rfl rfl rfl ?_)
      rw [hO] at hd; cases hd
     ·
      clear Hz; intro hb212 Hz
      try simp only [Q1x, Q2x, Q3x, Q4x, Q5x, Q6x, Q7x, Q8x, Q9x, Q0x, Qax, Qbx] at hb212
      refine wp_cond_false (Hz.ev (x := .tmp 40) rfl) ?_
      refine wp_skip ?_
      refine hK2 _ _ ?_; clear hK2; try clear K2
      refine wp_region_lit ?_
      refine goCh Hz (.add rfl rfl (r := ((k + 1 : Nat) : Int)) (by rw [IntWalk.i64_in _ (by omega)]; omega) <| .move rfl <| .nil) ?_
      clear Hz Az; intro Az Hz
      refine wpList_nil ?_
      show ∃ n', n' < _ ∧ _
      exact ⟨b.length - (k + 1), by omega, k + 1, v, by omega, by omega, rfl, by rw [← hv]; exact acc_bound u k (b.getD k 0) hu, by rw [← hD, if_neg hno, if_neg (by omega), hv], Hz.only [0, 4, 10, 11, 12], m16.only [1, 2]⟩
  ·
   clear Hz; intro hb12 Hz
   try simp only [Q1x, Q2x, Q3x, Q4x, Q5x, Q6x, Q7x, Q8x, Q9x, Q0x, Qax, Qbx] at hb12
   obtain rfl : k = b.length := by omega
   have hE : dec 0 0 b = .err 21 := by rw [← hD0, List.drop_length]; rfl
   refine wp_cond_false (Hz.ev (x := .tmp 13) rfl) ?_
   refine wp_exit ?_
   refine hK0 _ _ ?_; clear hK0; try clear K0
   refine regS Hz (.assign rfl <| .assign rfl <| .nil) ?_
   clear Hz Az; intro Az Hz
   refine wp_ret ?_
   try dsimp only [Exit.then, Exit.inBlock]
   refine (ret2 (fn := Tryd.f59) Hz rfl rfl rfl ?_)
   rw [hE] at hd
   injection hd with hd
   subst hd
   exact ⟨rfl, m10.ren [(1, 1), (2, 2)] (by decide)⟩
theorem pnum_bad (X : Cx) (B : Nat) (b : List Int) (er mx : Int) (p : Option Addr) (c : Nat) (w0 : World) (hb : b.length ≤ 1000000) (hbb : BytesL b) (he : er ≠ 0) (m0 : MemOk X w0 [(1, .box B 102 [.slice p (b).length c, .int .i64 er]), (2, .dat (.slice p (b).length c) (.ns .u8 (b)))] w0) :
   Calls Tryd.prog 45 #[.pointer (some ⟨B, 0, none⟩), .int .u64 mx] w0 fun e w' => ∃ (p' : Option Addr) (c' : Nat), e = .returned (.int .u64 (numR b er mx).1) ∧ MemOk X w0 [(1, .box B 102 [.slice p' ((numR b er mx).2.1).length c', .int .i64 (numR b er mx).2.2]), (2, .dat (.slice p' ((numR b er mx).2.1).length c') (.ns .u8 ((numR b er mx).2.1)))] w' := by
 have hN : numR b er mx = (0, b, er) := numR_bad b er mx he
 refine enter (fn := Tryd.f45) Tryd.func45 rfl Tryd.ntmps45 rfl (fun Az Hz => ?_)
 simp only [List.zipIdx_cons, List.zipIdx_nil, List.map_cons, List.map_nil, Nat.reduceAdd, Nat.zero_add] at Hz
 refine regS Hz (.assign rfl <| .nil) ?_
 clear Hz Az; intro Az Hz
 refine wp_seq_k (fun K0 hK0 => ?_)
 refine regS Hz (.move rfl <| .nilCheck rfl <| .fieldAddr (off := 0) rfl Tryd.underlying102 rfl (s := 1) (by kernel_rfl) rfl <| .fieldAddr (off := 1) rfl Tryd.underlying100 rfl (s := 0) (by kernel_rfl) rfl <| .loadB1 m0 (i := 1) rfl rfl rfl Tryd.underlying33 rfl <| .neq rfl rfl <| .nil) ?_
 clear Hz Az; intro Az Hz
 refine bool_cases Hz (t := 12) rfl ?_ ?_
 rotate_left
 · intro hb _; exact absurd hb (by simp; omega)
 clear Hz; intro _ Hz
 refine wp_cond_true (Hz.ev (x := .tmp 12) rfl) ?_
 replace Hz : Has 35 [(0, _), (1, _), (4, _)] Az := Hz.only [0, 1, 4]
 refine regS Hz (.assign rfl <| .nil) ?_
 clear Hz Az; intro Az Hz
 refine wp_ret ?_
 try dsimp only [Exit.then, Exit.inBlock]
 refine (ret1 (fn := Tryd.f45) Hz rfl rfl ?_)
 rw [hN]
 exact ⟨_, _, rfl, m0.ren [(1, 1), (2, 2)] (by decide)⟩
theorem pnum_err (X : Cx) (B : Nat) (b : List Int) (mx : Int) (p : Option Addr) (c : Nat) (w0 : World) (hb : b.length ≤ 1000000) (hbb : BytesL b) (er1 : Int) (hd : dec 0 0 b = .err er1) (m0 : MemOk X w0 [(1, .box B 102 [.slice p (b).length c, .int .i64 0]), (2, .dat (.slice p (b).length c) (.ns .u8 (b)))] w0) :
   Calls Tryd.prog 45 #[.pointer (some ⟨B, 0, none⟩), .int .u64 mx] w0 fun e w' => ∃ (p' : Option Addr) (c' : Nat), e = .returned (.int .u64 (numR b 0 mx).1) ∧ MemOk X w0 [(1, .box B 102 [.slice p' ((numR b 0 mx).2.1).length c', .int .i64 (numR b 0 mx).2.2]), (2, .dat (.slice p' ((numR b 0 mx).2.1).length c') (.ns .u8 ((numR b 0 mx).2.1)))] w' := by
 have hN : numR b 0 mx = (0, [], er1) := numR_err mx hd
 have he1 : er1 = 20 ∨ er1 = 21 := dec_err b 0 0 er1 hd
 refine enter (fn := Tryd.f45) Tryd.func45 rfl Tryd.ntmps45 rfl (fun Az Hz => ?_)
 simp only [List.zipIdx_cons, List.zipIdx_nil, List.map_cons, List.map_nil, Nat.reduceAdd, Nat.zero_add] at Hz
 refine regS Hz (.assign rfl <| .nil) ?_
 clear Hz Az; intro Az Hz
 refine wp_seq_k (fun K0 hK0 => ?_)
 refine regS Hz (.move rfl <| .nilCheck rfl <| .fieldAddr (off := 0) rfl Tryd.underlying102 rfl (s := 1) (by kernel_rfl) rfl <| .fieldAddr (off := 1) rfl Tryd.underlying100 rfl (s := 0) (by kernel_rfl) rfl <| .loadB1 m0 (i := 1) rfl rfl rfl Tryd.underlying33 rfl <| .neq rfl rfl <| .nil) ?_
 clear Hz Az; intro Az Hz
 refine bool_cases Hz (t := 12) rfl ?_ ?_
 · intro hb _; exact absurd hb (by simp)
 clear Hz; intro _ Hz
 refine wp_cond_false (Hz.ev (x := .tmp 12) rfl) ?_
 refine wp_skip ?_
 refine hK0 _ _ ?_; clear hK0; try clear K0
 replace Hz : Has 35 [(0, _), (1, _), (4, _)] Az := Hz.only [0, 1, 4]
 refine wp_seq_k (fun K1 hK1 => ?_)
 refine wp_region_lit ?_
 refine goCh Hz (.move rfl <| .nilCheck rfl <| .fieldAddr (off := 0) rfl Tryd.underlying102 rfl (s := 1) (by kernel_rfl) rfl <| .nil) ?_
 clear Hz Az; intro Az Hz
 refine wpList_plain rfl (fun K hK => ?_)
 refine e_call Hz Tryd.func59 rfl rfl rfl rfl (pnumber_err _ _ _ _ _ _ _ _ hb hbb hd (m0.into [(1, 1), (2, 2)] (by decide) rfl)) ?_
 rintro e w16 ⟨rfl, hm16⟩
 have mx16 := m0.back hm16 [(1, 1), (2, 2)] (by decide); clear hm16 m0
 have m16 : MemOk _ _ [(1, _), (2, _)] _ := mx16.only [1, 2]; clear mx16
 refine ⟨_, rfl, ?_⟩; clear Hz Az; intro Az Hz
 refine hK _ _ ?_; clear hK K
 refine goCh Hz (.move rfl <| .extract rfl rfl <| .extract rfl rfl <| .assign rfl <| .assign rfl <| .nil) ?_
 clear Hz Az; intro Az Hz
 refine wpList_nil ?_
 refine hK1 _ _ ?_; clear hK1; try clear K1
 refine wp_seq_k (fun K2 hK2 => ?_)
 replace Hz : Has 35 [(0, _), (1, _), (4, _), (5, _), (6, _)] Az := Hz.only [0, 1, 4, 5, 6]
 refine wp_seq_k (fun K3 hK3 => ?_)
 refine wp_region_lit ?_
 refine goCh Hz (.move rfl <| .eql rfl rfl <| .move rfl <| .nil) ?_
 clear Hz Az; intro Az Hz
 refine bool_cases Hz (t := 22) rfl ?_ ?_
 · intro hb _; exact absurd hb (by simp; omega)
 clear Hz; intro _ Hz
 refine goCh Hz (.sk <| .sk <| .sk <| .pickF rfl rfl <| .nil) ?_
 clear Hz Az; intro Az Hz
 refine wpList_nil ?_
 refine hK3 _ _ ?_; clear hK3; try clear K3
 refine wp_cond_false (Hz.ev (x := .tmp 26) rfl) ?_
 refine wp_skip ?_
 refine hK2 _ _ ?_; clear hK2; try clear K2
 refine wp_seq_k (fun K4 hK4 => ?_)
 replace Hz : Has 35 [(0, _), (4, _), (5, _), (6, _)] Az := Hz.only [0, 4, 5, 6]
 refine regS Hz (.move rfl <| .neq rfl rfl <| .nil) ?_
 clear Hz Az; intro Az Hz
 refine bool_cases Hz (t := 28) rfl ?_ ?_
 rotate_left
 · intro hb _; exact absurd hb (by simp; omega)
 clear Hz; intro _ Hz
 refine wp_cond_true (Hz.ev (x := .tmp 28) rfl) ?_
 refine wp_seq_k (fun K5 hK5 => ?_)
 refine wp_region_lit ?_
 refine goCh Hz (.move rfl <| .nilCheck rfl <| .fieldAddr (off := 0) rfl Tryd.underlying102 rfl (s := 1) (by kernel_rfl) rfl <| .move rfl <| .nil) ?_
 clear Hz Az; intro Az Hz
 refine wpList_plain rfl (fun K hK => ?_)
 refine e_call Hz Tryd.func60 rfl rfl rfl rfl (pfail_x _ _ _ _ _ _ (m16.into [(1, 1)] (by decide) rfl)) ?_
 rintro e w47 ⟨rfl, hm47⟩
 have mx47 := m16.back hm47 [(1, 1)] (by decide); clear hm47 m16
 have m47 : MemOk _ _ [(1, _), (2, _)] _ := mx47.only [1, 2]; clear mx47
 refine ⟨_, rfl, ?_⟩; clear Hz Az; intro Az Hz
 refine hK _ _ ?_; clear hK K
 refine wpList_nil ?_
 refine hK5 _ _ ?_; clear hK5; try clear K5
 replace Hz : Has 35 [(4, _), (5, _)] Az := Hz.only [4, 5]
 refine regS Hz (.assign rfl <| .nil) ?_
 clear Hz Az; intro Az Hz
 refine wp_ret ?_
 try dsimp only [Exit.then, Exit.inBlock]
 refine (ret1 (fn := Tryd.f45) Hz rfl rfl ?_)
 have m51 := m47.dat 90 rfl (Rd.nilN _ _ .u8 none); clear m47
 rw [hN]
 exact ⟨_, _, rfl, m51.ren [(1, 1), (2, 90)] (by decide)⟩
theorem pnum_long (X : Cx) (B : Nat) (b : List Int) (mx : Int) (p : Option Addr) (c : Nat) (w0 : World) (hb : b.length ≤ 1000000) (hbb : BytesL b) (n j : Nat) (hd : dec 0 0 b = .ok n j) (hl : mx < n) (m0 : MemOk X w0 [(1, .box B 102 [.slice p (b).length c, .int .i64 0]), (2, .dat (.slice p (b).length c) (.ns .u8 (b)))] w0) :
   Calls Tryd.prog 45 #[.pointer (some ⟨B, 0, none⟩), .int .u64 mx] w0 fun e w' => ∃ (p' : Option Addr) (c' : Nat), e = .returned (.int .u64 (numR b 0 mx).1) ∧ MemOk X w0 [(1, .box B 102 [.slice p' ((numR b 0 mx).2.1).length c', .int .i64 (numR b 0 mx).2.2]), (2, .dat (.slice p' ((numR b 0 mx).2.1).length c') (.ns .u8 ((numR b 0 mx).2.1)))] w' := by
 have hN : numR b 0 mx = (0, [], 22) := by rw [numR_val mx hd, if_pos hl]
 refine enter (fn := Tryd.f45) Tryd.func45 rfl Tryd.ntmps45 rfl (fun Az Hz => ?_)
 simp only [List.zipIdx_cons, List.zipIdx_nil, List.map_cons, List.map_nil, Nat.reduceAdd, Nat.zero_add] at Hz
 refine regS Hz (.assign rfl <| .nil) ?_
 clear Hz Az; intro Az Hz
 refine wp_seq_k (fun K0 hK0 => ?_)
 refine regS Hz (.move rfl <| .nilCheck rfl <| .fieldAddr (off := 0) rfl Tryd.underlying102 rfl (s := 1) (by kernel_rfl) rfl <| .fieldAddr (off := 1) rfl Tryd.underlying100 rfl (s := 0) (by kernel_rfl) rfl <| .loadB1 m0 (i := 1) rfl rfl rfl Tryd.underlying33 rfl <| .neq rfl rfl <| .nil) ?_
 clear Hz Az; intro Az Hz
 refine bool_cases Hz (t := 12) rfl ?_ ?_
 · intro hb _; exact absurd hb (by simp)
 clear Hz; intro _ Hz
 refine wp_cond_false (Hz.ev (x := .tmp 12) rfl) ?_
 refine wp_skip ?_
 refine hK0 _ _ ?_; clear hK0; try clear K0
 replace Hz : Has 35 [(0, _), (1, _), (4, _)] Az := Hz.only [0, 1, 4]
 refine wp_seq_k (fun K1 hK1 => ?_)
 refine wp_region_lit ?_
 refine goCh Hz (.move rfl <| .nilCheck rfl <| .fieldAddr (off := 0) rfl Tryd.underlying102 rfl (s := 1) (by kernel_rfl) rfl <| .nil) ?_
 clear Hz Az; intro Az Hz
 refine wpList_plain rfl (fun K hK => ?_)
 refine e_call Hz Tryd.func59 rfl rfl rfl rfl (pnumber_ok _ _ _ _ _ _ _ _ _ hb hbb hd (m0.into [(1, 1), (2, 2)] (by decide) rfl)) ?_
 rintro e w16 ⟨p16, c16, rfl, hm16⟩
 have mx16 := m0.back hm16 [(1, 1), (2, 2)] (by decide); clear hm16 m0
 have m16 : MemOk _ _ [(1, _), (2, _)] _ := mx16.only [1, 2]; clear mx16
 refine ⟨_, rfl, ?_⟩; clear Hz Az; intro Az Hz
 refine hK _ _ ?_; clear hK K
 refine goCh Hz (.move rfl <| .extract rfl rfl <| .extract rfl rfl <| .assign rfl <| .assign rfl <| .nil) ?_
 clear Hz Az; intro Az Hz
 refine wpList_nil ?_
 refine hK1 _ _ ?_; clear hK1; try clear K1
 refine wp_seq_k (fun K2 hK2 => ?_)
 replace Hz : Has 35 [(0, _), (1, _), (4, _), (5, _), (6, _)] Az := Hz.only [0, 1, 4, 5, 6]
 refine wp_seq_k (fun K3 hK3 => ?_)
 refine wp_region_lit ?_
 refine goCh Hz (.move rfl <| .eql rfl rfl <| .move rfl <| .nil) ?_
 clear Hz Az; intro Az Hz
 refine bool_cases Hz (t := 22) rfl ?_ ?_
 rotate_left
 · intro hb _; exact absurd hb (by simp)
 clear Hz; intro _ Hz
 refine goCh Hz (.moveZ rfl <| .moveZ rfl <| .gtrZ rfl rfl <| .pickT rfl rfl <| .nil) ?_
 clear Hz Az; intro Az Hz
 refine wpList_nil ?_
 refine hK3 _ _ ?_; clear hK3; try clear K3
 refine bool_cases Hz (t := 26) rfl ?_ ?_
 rotate_left
 · intro hb _; exact absurd hb (by simp; omega)
 clear Hz; intro _ Hz
 refine wp_cond_true (Hz.ev (x := .tmp 26) rfl) ?_
 replace Hz : Has 35 [(0, _), (4, _), (5, _), (6, _)] Az := Hz.only [0, 4, 5, 6]
 refine wp_region_lit ?_
 refine goCh Hz (.assign rfl .nil) ?_
 clear Hz Az; intro Az Hz
 refine wpList_nil ?_
 refine hK2 _ _ ?_; clear hK2; try clear K2
 refine wp_seq_k (fun K4 hK4 => ?_)
 refine regS Hz (.move rfl <| .neq rfl rfl <| .nil) ?_
 clear Hz Az; intro Az Hz
 refine bool_cases Hz (t := 28) rfl ?_ ?_
 rotate_left
 · intro hb _; exact absurd hb (by simp)
 clear Hz; intro _ Hz
 refine wp_cond_true (Hz.ev (x := .tmp 28) rfl) ?_
 refine wp_seq_k (fun K5 hK5 => ?_)
 refine wp_region_lit ?_
 refine goCh Hz (.move rfl <| .nilCheck rfl <| .fieldAddr (off := 0) rfl Tryd.underlying102 rfl (s := 1) (by kernel_rfl) rfl <| .move rfl <| .nil) ?_
 clear Hz Az; intro Az Hz
 refine wpList_plain rfl (fun K hK => ?_)
 refine e_call Hz Tryd.func60 rfl rfl rfl rfl (pfail_x _ _ _ _ _ _ (m16.into [(1, 1)] (by decide) rfl)) ?_
 rintro e w49 ⟨rfl, hm49⟩
 have mx49 := m16.back hm49 [(1, 1)] (by decide); clear hm49 m16
 have m49 : MemOk _ _ [(1, _), (2, _)] _ := mx49.only [1, 2]; clear mx49
 refine ⟨_, rfl, ?_⟩; clear Hz Az; intro Az Hz
 refine hK _ _ ?_; clear hK K
 refine wpList_nil ?_
 refine hK5 _ _ ?_; clear hK5; try clear K5
 replace Hz : Has 35 [(4, _), (5, _)] Az := Hz.only [4, 5]
 refine regS Hz (.assign rfl <| .nil) ?_
 clear Hz Az; intro Az Hz
 refine wp_ret ?_
 try dsimp only [Exit.then, Exit.inBlock]
 refine (ret1 (fn := Tryd.f45) Hz rfl rfl ?_)
 have m53 := m49.dat 90 rfl (Rd.nilN _ _ .u8 none); clear m49
 rw [hN]
 exact ⟨_, _, rfl, m53.ren [(1, 1), (2, 90)] (by decide)⟩
theorem pnum_in (X : Cx) (B : Nat) (b : List Int) (mx : Int) (p : Option Addr) (c : Nat) (w0 : World) (hb : b.length ≤ 1000000) (hbb : BytesL b) (n j : Nat) (hd : dec 0 0 b = .ok n j) (hl : (n : Int) ≤ mx) (m0 : MemOk X w0 [(1, .box B 102 [.slice p (b).length c, .int .i64 0]), (2, .dat (.slice p (b).length c) (.ns .u8 (b)))] w0) :
   Calls Tryd.prog 45 #[.pointer (some ⟨B, 0, none⟩), .int .u64 mx] w0 fun e w' => ∃ (p' : Option Addr) (c' : Nat), e = .returned (.int .u64 (numR b 0 mx).1) ∧ MemOk X w0 [(1, .box B 102 [.slice p' ((numR b 0 mx).2.1).length c', .int .i64 (numR b 0 mx).2.2]), (2, .dat (.slice p' ((numR b 0 mx).2.1).length c') (.ns .u8 ((numR b 0 mx).2.1)))] w' := by
 have hN : numR b 0 mx = ((n : Int), b.drop j, 0) := by rw [numR_val mx hd, if_neg (by omega)]
 refine enter (fn := Tryd.f45) Tryd.func45 rfl Tryd.ntmps45 rfl (fun Az Hz => ?_)
 simp only [List.zipIdx_cons, List.zipIdx_nil, List.map_cons, List.map_nil, Nat.reduceAdd, Nat.zero_add] at Hz
 refine regS Hz (.assign rfl <| .nil) ?_
 clear Hz Az; intro Az Hz
 refine wp_seq_k (fun K0 hK0 => ?_)
 refine regS Hz (.move rfl <| .nilCheck rfl <| .fieldAddr (off := 0) rfl Tryd.underlying102 rfl (s := 1) (by kernel_rfl) rfl <| .fieldAddr (off := 1) rfl Tryd.underlying100 rfl (s := 0) (by kernel_rfl) rfl <| .loadB1 m0 (i := 1) rfl rfl rfl Tryd.underlying33 rfl <| .neq rfl rfl <| .nil) ?_
 clear Hz Az; intro Az Hz
 refine bool_cases Hz (t := 12) rfl ?_ ?_
 · intro hb _; exact absurd hb (by simp)
 clear Hz; intro _ Hz
 refine wp_cond_false (Hz.ev (x := .tmp 12) rfl) ?_
 refine wp_skip ?_
 refine hK0 _ _ ?_; clear hK0; try clear K0
 replace Hz : Has 35 [(0, _), (1, _), (4, _)] Az := Hz.only [0, 1, 4]
 refine wp_seq_k (fun K1 hK1 => ?_)
 refine wp_region_lit ?_
 refine goCh Hz (.move rfl <| .nilCheck rfl <| .fieldAddr (off := 0) rfl Tryd.underlying102 rfl (s := 1) (by kernel_rfl) rfl <| .nil) ?_
 clear Hz Az; intro Az Hz
 refine wpList_plain rfl (fun K hK => ?_)
 refine e_call Hz Tryd.func59 rfl rfl rfl rfl (pnumber_ok _ _ _ _ _ _ _ _ _ hb hbb hd (m0.into [(1, 1), (2, 2)] (by decide) rfl)) ?_
 rintro e w16 ⟨p16, c16, rfl, hm16⟩
 have mx16 := m0.back hm16 [(1, 1), (2, 2)] (by decide); clear hm16 m0
 have m16 : MemOk _ _ [(1, _), (2, _)] _ := mx16.only [1, 2]; clear mx16
 refine ⟨_, rfl, ?_⟩; clear Hz Az; intro Az Hz
 refine hK _ _ ?_; clear hK K
 refine goCh Hz (.move rfl <| .extract rfl rfl <| .extract rfl rfl <| .assign rfl <| .assign rfl <| .nil) ?_
 clear Hz Az; intro Az Hz
 refine wpList_nil ?_
 refine hK1 _ _ ?_; clear hK1; try clear K1
 refine wp_seq_k (fun K2 hK2 => ?_)
 replace Hz : Has 35 [(0, _), (1, _), (4, _), (5, _), (6, _)] Az := Hz.only [0, 1, 4, 5, 6]
 refine wp_seq_k (fun K3 hK3 => ?_)
 refine wp_region_lit ?_
 refine goCh Hz (.move rfl <| .eql rfl rfl <| .move rfl <| .nil) ?_
 clear Hz Az; intro Az Hz
 refine bool_cases Hz (t := 22) rfl ?_ ?_
 rotate_left
 · intro hb _; exact absurd hb (by simp)
 clear Hz; intro _ Hz
 refine goCh Hz (.moveZ rfl <| .moveZ rfl <| .gtrZ rfl rfl <| .pickT rfl rfl <| .nil) ?_
 clear Hz Az; intro Az Hz
 refine wpList_nil ?_
 refine hK3 _ _ ?_; clear hK3; try clear K3
 refine bool_cases Hz (t := 26) rfl ?_ ?_
 · intro hb _; exact absurd hb (by simp; omega)
 clear Hz; intro _ Hz
 refine wp_cond_false (Hz.ev (x := .tmp 26) rfl) ?_
 refine wp_skip ?_
 refine hK2 _ _ ?_; clear hK2; try clear K2
 refine wp_seq_k (fun K4 hK4 => ?_)
 replace Hz : Has 35 [(0, _), (4, _), (5, _), (6, _)] Az := Hz.only [0, 4, 5, 6]
 refine regS Hz (.move rfl <| .neq rfl rfl <| .nil) ?_
 clear Hz Az; intro Az Hz
 refine bool_cases Hz (t := 28) rfl ?_ ?_
 · intro hb _; exact absurd hb (by simp)
 clear Hz; intro _ Hz
 refine wp_cond_false (Hz.ev (x := .tmp 28) rfl) ?_
 refine wp_skip ?_
 refine hK4 _ _ ?_; clear hK4; try clear K4
 refine regS Hz (.move rfl <| .assign rfl <| .nil) ?_
 clear Hz Az; intro Az Hz
 refine wp_ret ?_
 try dsimp only [Exit.then, Exit.inBlock]
 refine (ret1 (fn := Tryd.f45) Hz rfl rfl ?_)
 rw [hN]
 exact ⟨_, _, rfl, m16.ren [(1, 1), (2, 2)] (by decide)⟩
theorem pnum_x (X : Cx) (B : Nat) (b : List Int) (er mx : Int) (p : Option Addr) (c : Nat) (w0 : World) (hb : b.length ≤ 1000000) (hbb : BytesL b) (m0 : MemOk X w0 [(1, .box B 102 [.slice p (b).length c, .int .i64 er]), (2, .dat (.slice p (b).length c) (.ns .u8 (b)))] w0) :
   Calls Tryd.prog 45 #[.pointer (some ⟨B, 0, none⟩), .int .u64 mx] w0 fun e w' => ∃ (p' : Option Addr) (c' : Nat), e = .returned (.int .u64 (numR b er mx).1) ∧ MemOk X w0 [(1, .box B 102 [.slice p' ((numR b er mx).2.1).length c', .int .i64 (numR b er mx).2.2]), (2, .dat (.slice p' ((numR b er mx).2.1).length c') (.ns .u8 ((numR b er mx).2.1)))] w' := by
 by_cases he : er = 0
 · subst he
   cases hd : dec 0 0 b with
   | err er1 => exact pnum_err X B b mx p c w0 hb hbb er1 hd m0
   | ok n j =>
     by_cases hl : mx < n
     · exact pnum_long X B b mx p c w0 hb hbb n j hd hl m0
     · exact pnum_in X B b mx p c w0 hb hbb n j hd (by omega) m0
 · exact pnum_bad X B b er mx p c w0 hb hbb he m0
end Go.Proofs.YtogjhjiapinmcaaDoor.K
