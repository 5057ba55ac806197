/- The reference's Num over bytes of one's own. -/
import Derived.Test.YtogjhjiapinmcaaDoorWalR4
namespace Go.Proofs.YtogjhjiapinmcaaDoor.K
open Go.ChangeShapes Go.WideShapes Go.ChangeAt Go.RowKit
set_option linter.unusedVariables false
set_option linter.unusedSimpArgs false

theorem sz5xNs : (Tryd.prog.info? 5).map (·.size) = some 1 := by kernel_rfl
theorem sz24xNs : (Tryd.prog.info? 24).map (·.size) = some 1 := by kernel_rfl

set_option maxRecDepth 100000
set_option maxHeartbeats 4000000
theorem nB_at {b : List Int} {k : Nat} (hk : k < b.length) : (b.map nB)[k]? = some (nB (b.getD k 0)) := by
 rw [List.getElem?_map, List.getD, List.getElem?_eq_getElem hk]; rfl
theorem rnum_s (X : Cx) (B : Nat) (b : List Int) (er mx : Int) (p : Option Addr) (c : Nat) (w0 : World) (hb : b.length ≤ 1000000) (hbb : BytesL b) (m0 : MemOk X w0 [(1, .box B 95 [.slice p (b).length c, .int .i64 er]), (2, .seg (.slice p (b).length c) 5 1 ((b).map nB))] w0) :
   Calls Tryd.prog 51 #[.pointer (some ⟨B, 0, none⟩), .int .u64 mx] w0 fun e w' => ∃ (p' : Option Addr) (c' : Nat), e = .returned (.int .u64 (numR b er mx).1) ∧ MemOk X w0 [(1, .box B 95 [.slice p' (numR b er mx).2.1.length c', .int .i64 (numR b er mx).2.2]), (2, .seg (.slice p b.length c) 5 1 (b.map nB))] w' := by
 refine enter (fn := Tryd.f51) Tryd.func51 rfl Tryd.ntmps51 rfl (fun Az Hz => ?_)
 simp only [List.zipIdx_cons, List.zipIdx_nil, List.map_cons, List.map_nil, Nat.reduceAdd, Nat.zero_add] at Hz
 refine regS Hz (.assign rfl <| .nil) ?_
 clear Hz Az; intro Az Hz
 refine wp_seq_k (fun K0 hK0 => ?_)
 refine regS Hz (.move rfl <| .nilCheck rfl <| .fieldAddr (off := 1) rfl Tryd.underlying95 rfl (s := 0) (by kernel_rfl) rfl <| .loadB1 m0 (i := 1) rfl rfl rfl Tryd.underlying3 rfl <| .neq rfl rfl <| .nil) ?_
 clear Hz Az; intro Az Hz
 refine bool_cases Hz (t := 12) rfl ?_ ?_
 ·
  clear Hz; intro hb7 Hz
  try simp only [Q1x, Q2x, Q3x, Q4x, Q5x, Q6x, Q7x, Q8x, Q9x, Q0x, Qax, Qbx] at hb7
  have hN : numR b er mx = (0, b, er) := numR_bad b er mx (by omega)
  refine wp_cond_true (Hz.ev (x := .tmp 12) rfl) ?_
  refine regS Hz (.assign rfl <| .nil) ?_
  clear Hz Az; intro Az Hz
  refine wp_ret ?_
  try dsimp only [Exit.then, Exit.inBlock]
  refine (ret1 (fn := Tryd.f51) Hz rfl rfl ?_)
  rw [hN]
  exact ⟨_, _, rfl, m0.only [1, 2]⟩
 ·
  clear Hz; intro hb7 Hz
  try simp only [Q1x, Q2x, Q3x, Q4x, Q5x, Q6x, Q7x, Q8x, Q9x, Q0x, Qax, Qbx] at hb7
  obtain rfl : er = 0 := by omega
  refine wp_cond_false (Hz.ev (x := .tmp 12) rfl) ?_
  refine wp_skip ?_
  refine hK0 _ _ ?_; clear hK0; try clear K0
  refine regS Hz (.assign rfl <| .nil) ?_
  clear Hz Az; intro Az Hz
  refine wp_seq_k (fun K1 hK1 => ?_)
  refine regS Hz (.assign rfl <| .nil) ?_
  clear Hz Az; intro Az Hz
  refine wp_block ?_
  refine wp_loop_ghost (fun g a w => ∃ (k u : Nat), k ≤ b.length ∧ k ≤ 9 ∧ g = b.length - k ∧ u < 2 ^ (7 * k) ∧ dec u k (b.drop k) = dec 0 0 b ∧ Has 73 [(0, .pointer (some ⟨B, 0, none⟩)), (1, .int .u64 mx), (5, .int .u64 (u : Int)), (6, .int .i64 k)] a ∧ MemOk X w0 [(1, .box B 95 [.slice p (b).length c, .int .i64 0]), (2, .seg (.slice p (b).length c) 5 1 ((b).map nB))] w) (b.length) ?_ ?_
  · exact ⟨0, 0, Nat.zero_le _, Nat.zero_le _, rfl, by decide, rfl, Hz.only [0, 1, 5, 6], m0.only [1, 2]⟩
  ·
   clear Hz m0
   rintro g Az w11 ⟨k, u, hkl, hk9, hg, hu, hD0, Hz, m11⟩
   refine wp_seq_k (fun K2 hK2 => ?_)
   refine regS Hz (.move rfl <| .move rfl <| .nilCheck rfl <| .fieldAddr (off := 0) rfl Tryd.underlying95 rfl (s := 0) (by kernel_rfl) rfl <| .loadB1 m11 (i := 1) rfl rfl rfl Tryd.underlying24 rfl <| .len rfl Tryd.underlying24 <| .lss rfl rfl <| .nil) ?_
   clear Hz Az; intro Az Hz
   refine bool_cases Hz (t := 19) rfl ?_ ?_
   ·
    clear Hz; intro hb19 Hz
    try simp only [Q1x, Q2x, Q3x, Q4x, Q5x, Q6x, Q7x, Q8x, Q9x, Q0x, Qax, Qbx] at hb19
    have hk : k < b.length := by omega
    have hxb := getD_bd hbb hk
    have hD := hD0
    rw [dec_at hk] at hD
    refine wp_cond_true (Hz.ev (x := .tmp 19) rfl) ?_
    refine wp_skip ?_
    refine hK2 _ _ ?_; clear hK2; try clear K2
    refine wp_seq_k (fun K3 hK3 => ?_)
    refine wp_block ?_
    replace Hz : Has 73 [(0, _), (1, _), (5, _), (6, _)] Az := Hz.only [0, 1, 5, 6]
    refine wp_seq_k (fun K4 hK4 => ?_)
    refine wp_region_lit ?_
    refine goCh Hz (.move rfl <| .nilCheck rfl <| .fieldAddr (off := 0) rfl Tryd.underlying95 rfl (s := 0) (by kernel_rfl) rfl <| .loadB1 m11 (i := 1) rfl rfl rfl Tryd.underlying24 rfl <| .move rfl <| .nil) ?_
    clear Hz Az; intro Az Hz
    obtain ⟨gs32, os32, vs32, hp32, hl32, hR32, hsg32⟩ := m11.openS (i := 2) rfl (k) (r := nB (b.getD k 0)) (nB_at hk)
    cases hp32; clear hl32
    rcases hR32 with _ | ⟨hd32_0, _ | _⟩
    obtain rfl := hd32_0.v_out
    clear hd32_0
    refine goCh Hz (.c rfl (fun _ h => y_idx h rfl rfl Tryd.underlying24 sz5xNs (k) rfl hk) <| .loadAt1 hsg32 (q := 0) rfl rfl rfl Tryd.underlying5 rfl <| .assign rfl <| .nil) ?_
    clear Hz Az; intro Az Hz
    refine wpList_nil ?_
    refine hK4 _ _ ?_; clear hK4; try clear K4
    refine wp_seq_k (fun K5 hK5 => ?_)
    replace Hz : Has 73 [(0, _), (1, _), (5, _), (6, _), (7, _)] Az := Hz.only [0, 1, 5, 6, 7]
    refine wp_seq_k (fun K6 hK6 => ?_)
    refine wp_region_lit ?_
    refine goCh Hz (.move rfl <| .eql rfl rfl <| .move rfl <| .nil) ?_
    clear Hz Az; intro Az Hz
    refine bool_cases Hz (t := 31) rfl ?_ ?_
    ·
     clear Hz; intro hb43 Hz
     try simp only [Q1x, Q2x, Q3x, Q4x, Q5x, Q6x, Q7x, Q8x, Q9x, Q0x, Qax, Qbx] at hb43
     refine goCh Hz (.moveZ rfl <| .gtrZ rfl rfl <| .pickT rfl rfl <| .nil) ?_
     clear Hz Az; intro Az Hz
     refine wpList_nil ?_
     refine hK6 _ _ ?_; clear hK6; try clear K6
     refine bool_cases Hz (t := 34) rfl ?_ ?_
     ·
      clear Hz; intro hb47 Hz
      try simp only [Q1x, Q2x, Q3x, Q4x, Q5x, Q6x, Q7x, Q8x, Q9x, Q0x, Qax, Qbx] at hb47
      have hN : numR b 0 mx = (0, [], 20) := numR_err mx (by rw [← hD, if_pos (.inl ⟨by omega, by omega⟩)])
      refine wp_cond_true (Hz.ev (x := .tmp 34) rfl) ?_
      replace Hz : Has 73 [(0, _), (1, _), (5, _), (6, _), (7, _)] Az := Hz.only [0, 1, 5, 6, 7]
      refine wp_seq_k (fun K7 hK7 => ?_)
      refine wp_region_lit ?_
      refine goCh Hz (.move rfl .nil) ?_
      clear Hz Az; intro Az Hz
      refine wpList_plain rfl (fun K hK => ?_)
      refine e_call Hz Tryd.func61 rfl rfl rfl rfl (rfail_x _ _ _ _ _ _ (m11.into [(1, 1)] (by decide) rfl)) ?_
      rintro e w51 ⟨rfl, hm51⟩
      have mx51 := m11.back hm51 [(1, 1)] (by decide); clear hm51 m11
      have m51 : MemOk _ _ [(1, _), (2, _)] _ := mx51.only [1, 2]; clear mx51
      refine ⟨_, rfl, ?_⟩; clear Hz Az; intro Az Hz
      refine hK _ _ ?_; clear hK K
      refine wpList_nil ?_
      refine hK7 _ _ ?_; clear hK7; try clear K7
      refine regS Hz (.assign rfl <| .nil) ?_
      clear Hz Az; intro Az Hz
      refine wp_ret ?_
      try dsimp only [Exit.then, Exit.inBlock]
      refine (ret1 (fn := Tryd.f51) Hz rfl rfl ?_)
      rw [hN]
      exact ⟨none, 0, rfl, m51.only [1, 2]⟩
     ·
      clear Hz; intro hb47 Hz
      try simp only [Q1x, Q2x, Q3x, Q4x, Q5x, Q6x, Q7x, Q8x, Q9x, Q0x, Qax, Qbx] at hb47
      have h9 : k = 9 → (b.getD k 0) ≤ 1 := by omega
      obtain ⟨v, hv⟩ : ∃ v, u + ((b.getD k 0) % 128).toNat * 2 ^ (7 * k) = v := ⟨_, rfl⟩
      refine wp_cond_false (Hz.ev (x := .tmp 34) rfl) ?_
      refine wp_skip ?_
      refine hK5 _ _ ?_; clear hK5; try clear K5
      replace Hz : Has 73 [(0, _), (1, _), (5, _), (6, _), (7, _)] Az := Hz.only [0, 1, 5, 6, 7]
      refine regS Hz (.move rfl <| .move rfl <| .and rfl rfl (r := (b.getD k 0) % 128) (andx hxb.1 hxb.2) <| .conv rfl Tryd.underlying5 Tryd.underlying32 (r := (b.getD k 0) % 128) (IntWalk.u64_in _ (by omega)) <| .move rfl <| .mul rfl rfl (r := 7 * (k : Int)) (IntWalk.i64_in _ (by omega)) <| .shl rfl rfl (by omega) (r := IntKind.u64.wrap ((b.getD k 0) % 128 * 2 ^ (7 * k))) (by rw [shx hk9]) <| .or rfl rfl (r := (v : Int)) (by rw [← hv]; exact or_shift u k (b.getD k 0) hu hk9 hxb.1 hxb.2 h9) <| .assign rfl <| .nil) ?_
      clear Hz Az; intro Az Hz
      replace Hz : Has 73 [(0, _), (1, _), (5, _), (6, _), (7, _)] Az := Hz.only [0, 1, 5, 6, 7]
      refine regS Hz (.move rfl <| .lss rfl rfl <| .nil) ?_
      clear Hz Az; intro Az Hz
      refine bool_cases Hz (t := 46) rfl ?_ ?_
      ·
       clear Hz; intro hb67 Hz
       try simp only [Q1x, Q2x, Q3x, Q4x, Q5x, Q6x, Q7x, Q8x, Q9x, Q0x, Qax, Qbx] at hb67
       refine wp_cond_true (Hz.ev (x := .tmp 46) rfl) ?_
       refine wp_seq_k (fun K8 hK8 => ?_)
       refine wp_seq_k (fun K9 hK9 => ?_)
       refine wp_region_lit ?_
       refine goCh Hz (.move rfl <| .gtr rfl rfl <| .move rfl <| .nil) ?_
       clear Hz Az; intro Az Hz
       refine bool_cases Hz (t := 49) rfl ?_ ?_
       ·
        clear Hz; intro hb74 Hz
        try simp only [Q1x, Q2x, Q3x, Q4x, Q5x, Q6x, Q7x, Q8x, Q9x, Q0x, Qax, Qbx] at hb74
        refine goCh Hz (.moveZ rfl <| .eqlZ rfl rfl <| .pickT rfl rfl <| .nil) ?_
        clear Hz Az; intro Az Hz
        refine wpList_nil ?_
        refine hK9 _ _ ?_; clear hK9; try clear K9
        refine bool_cases Hz (t := 52) rfl ?_ ?_
        ·
         clear Hz; intro hb78 Hz
         try simp only [Q1x, Q2x, Q3x, Q4x, Q5x, Q6x, Q7x, Q8x, Q9x, Q0x, Qax, Qbx] at hb78
         have hN : numR b 0 mx = (0, [], 20) := numR_err mx (by rw [← hD, if_pos (.inr ⟨by omega, by omega⟩)])
         refine wp_cond_true (Hz.ev (x := .tmp 52) rfl) ?_
         replace Hz : Has 73 [(0, _), (1, _), (5, _), (6, _)] Az := Hz.only [0, 1, 5, 6]
         refine wp_seq_k (fun K10 hK10 => ?_)
         refine wp_region_lit ?_
         refine goCh Hz (.move rfl .nil) ?_
         clear Hz Az; intro Az Hz
         refine wpList_plain rfl (fun K hK => ?_)
         refine e_call Hz Tryd.func61 rfl rfl rfl rfl (rfail_x _ _ _ _ _ _ (m11.into [(1, 1)] (by decide) rfl)) ?_
         rintro e w82 ⟨rfl, hm82⟩
         have mx82 := m11.back hm82 [(1, 1)] (by decide); clear hm82 m11
         have m82 : MemOk _ _ [(1, _), (2, _)] _ := mx82.only [1, 2]; clear mx82
         refine ⟨_, rfl, ?_⟩; clear Hz Az; intro Az Hz
         refine hK _ _ ?_; clear hK K
         refine wpList_nil ?_
         refine hK10 _ _ ?_; clear hK10; try clear K10
         refine regS Hz (.assign rfl <| .nil) ?_
         clear Hz Az; intro Az Hz
         refine wp_ret ?_
         try dsimp only [Exit.then, Exit.inBlock]
         refine (ret1 (fn := Tryd.f51) Hz rfl rfl ?_)
         rw [hN]
         exact ⟨none, 0, rfl, m82.only [1, 2]⟩
        ·
         clear Hz; intro hb78 Hz
         try simp only [Q1x, Q2x, Q3x, Q4x, Q5x, Q6x, Q7x, Q8x, Q9x, Q0x, Qax, Qbx] at hb78
         have hz : ¬ (0 < k ∧ (b.getD k 0) = 0) := by omega
         have hno : ¬ ((k = 9 ∧ 1 < (b.getD k 0)) ∨ (0 < k ∧ (b.getD k 0) = 0)) := fun h => h.elim (fun h => by have := h9 h.1; omega) hz
         have hO : dec 0 0 b = .ok v (k + 1) := by rw [← hD, if_neg hno, if_pos (by omega), hv]
         refine wp_cond_false (Hz.ev (x := .tmp 52) rfl) ?_
         refine wp_skip ?_
         refine hK8 _ _ ?_; clear hK8; try clear K8
         refine wp_seq_k (fun K11 hK11 => ?_)
         replace Hz : Has 73 [(0, _), (1, _), (5, _), (6, _)] Az := Hz.only [0, 1, 5, 6]
         refine regS Hz (.move rfl <| .move rfl <| .gtr rfl rfl <| .nil) ?_
         clear Hz Az; intro Az Hz
         refine bool_cases Hz (t := 57) rfl ?_ ?_
         ·
          clear Hz; intro hb89 Hz
          try simp only [Q1x, Q2x, Q3x, Q4x, Q5x, Q6x, Q7x, Q8x, Q9x, Q0x, Qax, Qbx] at hb89
          have hN : numR b 0 mx = (0, [], 22) := by rw [numR_val mx hO, if_pos (by omega)]
          refine wp_cond_true (Hz.ev (x := .tmp 57) rfl) ?_
          refine wp_seq_k (fun K12 hK12 => ?_)
          refine wp_region_lit ?_
          refine goCh Hz (.move rfl .nil) ?_
          clear Hz Az; intro Az Hz
          refine wpList_plain rfl (fun K hK => ?_)
          refine e_call Hz Tryd.func61 rfl rfl rfl rfl (rfail_x _ _ _ _ _ _ (m11.into [(1, 1)] (by decide) rfl)) ?_
          rintro e w92 ⟨rfl, hm92⟩
          have mx92 := m11.back hm92 [(1, 1)] (by decide); clear hm92 m11
          have m92 : MemOk _ _ [(1, _), (2, _)] _ := mx92.only [1, 2]; clear mx92
          refine ⟨_, rfl, ?_⟩; clear Hz Az; intro Az Hz
          refine hK _ _ ?_; clear hK K
          refine wpList_nil ?_
          refine hK12 _ _ ?_; clear hK12; try clear K12
          refine regS Hz (.assign rfl <| .nil) ?_
          clear Hz Az; intro Az Hz
          refine wp_ret ?_
          try dsimp only [Exit.then, Exit.inBlock]
          refine (ret1 (fn := Tryd.f51) Hz rfl rfl ?_)
          rw [hN]
          exact ⟨none, 0, rfl, m92.only [1, 2]⟩
         ·
          clear Hz; intro hb89 Hz
          try simp only [Q1x, Q2x, Q3x, Q4x, Q5x, Q6x, Q7x, Q8x, Q9x, Q0x, Qax, Qbx] at hb89
          have hN : numR b 0 mx = ((v : Int), b.drop (k + 1), 0) := by rw [numR_val mx hO, if_neg (by omega)]
          refine wp_cond_false (Hz.ev (x := .tmp 57) rfl) ?_
          refine wp_skip ?_
          refine hK11 _ _ ?_; clear hK11; try clear K11
          refine wp_seq_k (fun K13 hK13 => ?_)
          refine wp_region_lit ?_
          refine goCh Hz (.move rfl <| .move rfl <| .nilCheck rfl <| .fieldAddr (off := 0) rfl Tryd.underlying95 rfl (s := 0) (by kernel_rfl) rfl <| .loadB1 m11 (i := 1) rfl rfl rfl Tryd.underlying24 rfl <| .move rfl <| .add rfl rfl (r := ((k + 1 : Nat) : Int)) (by rw [IntWalk.i64_in _ (by omega)]; omega) <| .c rfl (fun _ h => y_sliceLn h (k + 1) rfl rfl Tryd.underlying24 sz5xNs rfl (show k + 1 ≤ b.length by omega)) <| .nilCheck rfl <| .fieldAddr (off := 0) rfl Tryd.underlying95 rfl (s := 0) (by kernel_rfl) rfl <| .nil) ?_
          clear Hz Az; intro Az Hz
          refine wpList_plain rfl (fun K hK => ?_)
          refine e_store1 Hz m11 1 rfl rfl rfl rfl rfl sz24xNs (by dsimp only [List.set] <;> rfl) ?_
          clear m11; intro w115 m115 hB115
          clear hB115
          refine hK _ _ ?_; clear hK K
          refine wpList_nil ?_
          refine hK13 _ _ ?_; clear hK13; try clear K13
          replace Hz : Has 73 [(0, _), (1, _), (5, _), (6, _), (57, _)] Az := Hz.only [0, 1, 5, 6, 57]
          refine regS Hz (.move rfl <| .assign rfl <| .nil) ?_
          clear Hz Az; intro Az Hz
          refine wp_ret ?_
          try dsimp only [Exit.then, Exit.inBlock]
          refine (ret1 (fn := Tryd.f51) Hz rfl rfl ?_)
          have hl9 : b.length - (k + 1) = (b.drop (k + 1)).length := by rw [List.length_drop]
          rw [hl9] at m115
          rw [hN]
          exact ⟨_, _, rfl, m115.only [1, 2]⟩
       ·
        clear Hz; intro hb74 Hz
        try simp only [Q1x, Q2x, Q3x, Q4x, Q5x, Q6x, Q7x, Q8x, Q9x, Q0x, Qax, Qbx] at hb74
        have hz : ¬ (0 < k ∧ (b.getD k 0) = 0) := by omega
        have hno : ¬ ((k = 9 ∧ 1 < (b.getD k 0)) ∨ (0 < k ∧ (b.getD k 0) = 0)) := fun h => h.elim (fun h => by have := h9 h.1; omega) hz
        have hO : dec 0 0 b = .ok v (k + 1) := by rw [← hD, if_neg hno, if_pos (by omega), hv]
        refine goCh Hz (.sk <| .sk <| .pickF rfl rfl <| .nil) ?_
        clear Hz Az; intro Az Hz
        refine wpList_nil ?_
        refine hK9 _ _ ?_; clear hK9; try clear K9
        refine wp_cond_false (Hz.ev (x := .tmp 52) rfl) ?_
        refine wp_skip ?_
        refine hK8 _ _ ?_; clear hK8; try clear K8
        refine wp_seq_k (fun K14 hK14 => ?_)
        replace Hz : Has 73 [(0, _), (1, _), (5, _), (6, _)] Az := Hz.only [0, 1, 5, 6]
        refine regS Hz (.move rfl <| .move rfl <| .gtr rfl rfl <| .nil) ?_
        clear Hz Az; intro Az Hz
        refine bool_cases Hz (t := 57) rfl ?_ ?_
        ·
         clear Hz; intro hb126 Hz
         try simp only [Q1x, Q2x, Q3x, Q4x, Q5x, Q6x, Q7x, Q8x, Q9x, Q0x, Qax, Qbx] at hb126
         have hN : numR b 0 mx = (0, [], 22) := by rw [numR_val mx hO, if_pos (by omega)]
         refine wp_cond_true (Hz.ev (x := .tmp 57) rfl) ?_
         refine wp_seq_k (fun K15 hK15 => ?_)
         refine wp_region_lit ?_
         refine goCh Hz (.move rfl .nil) ?_
         clear Hz Az; intro Az Hz
         refine wpList_plain rfl (fun K hK => ?_)
         refine e_call Hz Tryd.func61 rfl rfl rfl rfl (rfail_x _ _ _ _ _ _ (m11.into [(1, 1)] (by decide) rfl)) ?_
         rintro e w129 ⟨rfl, hm129⟩
         have mx129 := m11.back hm129 [(1, 1)] (by decide); clear hm129 m11
         have m129 : MemOk _ _ [(1, _), (2, _)] _ := mx129.only [1, 2]; clear mx129
         refine ⟨_, rfl, ?_⟩; clear Hz Az; intro Az Hz
         refine hK _ _ ?_; clear hK K
         refine wpList_nil ?_
         refine hK15 _ _ ?_; clear hK15; try clear K15
         refine regS Hz (.assign rfl <| .nil) ?_
         clear Hz Az; intro Az Hz
         refine wp_ret ?_
         try dsimp only [Exit.then, Exit.inBlock]
         refine (ret1 (fn := Tryd.f51) Hz rfl rfl ?_)
         rw [hN]
         exact ⟨none, 0, rfl, m129.only [1, 2]⟩
        ·
         clear Hz; intro hb126 Hz
         try simp only [Q1x, Q2x, Q3x, Q4x, Q5x, Q6x, Q7x, Q8x, Q9x, Q0x, Qax, Qbx] at hb126
         have hN : numR b 0 mx = ((v : Int), b.drop (k + 1), 0) := by rw [numR_val mx hO, if_neg (by omega)]
         refine wp_cond_false (Hz.ev (x := .tmp 57) rfl) ?_
         refine wp_skip ?_
         refine hK14 _ _ ?_; clear hK14; try clear K14
         refine wp_seq_k (fun K16 hK16 => ?_)
         refine wp_region_lit ?_
         refine goCh Hz (.move rfl <| .move rfl <| .nilCheck rfl <| .fieldAddr (off := 0) rfl Tryd.underlying95 rfl (s := 0) (by kernel_rfl) rfl <| .loadB1 m11 (i := 1) rfl rfl rfl Tryd.underlying24 rfl <| .move rfl <| .add rfl rfl (r := ((k + 1 : Nat) : Int)) (by rw [IntWalk.i64_in _ (by omega)]; omega) <| .c rfl (fun _ h => y_sliceLn h (k + 1) rfl rfl Tryd.underlying24 sz5xNs rfl (show k + 1 ≤ b.length by omega)) <| .nilCheck rfl <| .fieldAddr (off := 0) rfl Tryd.underlying95 rfl (s := 0) (by kernel_rfl) rfl <| .nil) ?_
         clear Hz Az; intro Az Hz
         refine wpList_plain rfl (fun K hK => ?_)
         refine e_store1 Hz m11 1 rfl rfl rfl rfl rfl sz24xNs (by dsimp only [List.set] <;> rfl) ?_
         clear m11; intro w152 m152 hB152
         clear hB152
         refine hK _ _ ?_; clear hK K
         refine wpList_nil ?_
         refine hK16 _ _ ?_; clear hK16; try clear K16
         replace Hz : Has 73 [(0, _), (1, _), (5, _), (6, _), (57, _)] Az := Hz.only [0, 1, 5, 6, 57]
         refine regS Hz (.move rfl <| .assign rfl <| .nil) ?_
         clear Hz Az; intro Az Hz
         refine wp_ret ?_
         try dsimp only [Exit.then, Exit.inBlock]
         refine (ret1 (fn := Tryd.f51) Hz rfl rfl ?_)
         have hl9 : b.length - (k + 1) = (b.drop (k + 1)).length := by rw [List.length_drop]
         rw [hl9] at m152
         rw [hN]
         exact ⟨_, _, rfl, m152.only [1, 2]⟩
      ·
       clear Hz; intro hb67 Hz
       try simp only [Q1x, Q2x, Q3x, Q4x, Q5x, Q6x, Q7x, Q8x, Q9x, Q0x, Qax, Qbx] at hb67
       have hz : ¬ (0 < k ∧ (b.getD k 0) = 0) := by omega
       have hno : ¬ ((k = 9 ∧ 1 < (b.getD k 0)) ∨ (0 < k ∧ (b.getD k 0) = 0)) := fun h => h.elim (fun h => by have := h9 h.1; omega) hz
       refine wp_cond_false (Hz.ev (x := .tmp 46) rfl) ?_
       refine wp_skip ?_
       refine hK3 _ _ ?_; clear hK3; try clear K3
       refine wp_region_lit ?_
       refine goCh Hz (.move rfl <| .add rfl rfl (r := ((k + 1 : Nat) : Int)) (by rw [IntWalk.i64_in _ (by omega)]; omega) <| .assign rfl <| .nil) ?_
       clear Hz Az; intro Az Hz
       refine wpList_nil ?_
       show ∃ n', n' < _ ∧ _
       exact ⟨b.length - (k + 1), by omega, k + 1, v, by omega, by omega, rfl, by rw [← hv]; exact acc_bound u k (b.getD k 0) hu, by rw [← hD, if_neg hno, if_neg (by omega), hv], Hz.only [0, 1, 5, 6], m11.only [1, 2]⟩
    ·
     clear Hz; intro hb43 Hz
     try simp only [Q1x, Q2x, Q3x, Q4x, Q5x, Q6x, Q7x, Q8x, Q9x, Q0x, Qax, Qbx] at hb43
     have h9 : k = 9 → (b.getD k 0) ≤ 1 := by omega
     obtain ⟨v, hv⟩ : ∃ v, u + ((b.getD k 0) % 128).toNat * 2 ^ (7 * k) = v := ⟨_, rfl⟩
     refine goCh Hz (.sk <| .sk <| .pickF rfl rfl <| .nil) ?_
     clear Hz Az; intro Az Hz
     refine wpList_nil ?_
     refine hK6 _ _ ?_; clear hK6; try clear K6
     refine wp_cond_false (Hz.ev (x := .tmp 34) rfl) ?_
     refine wp_skip ?_
     refine hK5 _ _ ?_; clear hK5; try clear K5
     replace Hz : Has 73 [(0, _), (1, _), (5, _), (6, _), (7, _)] Az := Hz.only [0, 1, 5, 6, 7]
     refine regS Hz (.move rfl <| .move rfl <| .and rfl rfl (r := (b.getD k 0) % 128) (andx hxb.1 hxb.2) <| .conv rfl Tryd.underlying5 Tryd.underlying32 (r := (b.getD k 0) % 128) (IntWalk.u64_in _ (by omega)) <| .move rfl <| .mul rfl rfl (r := 7 * (k : Int)) (IntWalk.i64_in _ (by omega)) <| .shl rfl rfl (by omega) (r := IntKind.u64.wrap ((b.getD k 0) % 128 * 2 ^ (7 * k))) (by rw [shx hk9]) <| .or rfl rfl (r := (v : Int)) (by rw [← hv]; exact or_shift u k (b.getD k 0) hu hk9 hxb.1 hxb.2 h9) <| .assign rfl <| .nil) ?_
     clear Hz Az; intro Az Hz
     replace Hz : Has 73 [(0, _), (1, _), (5, _), (6, _), (7, _)] Az := Hz.only [0, 1, 5, 6, 7]
     refine regS Hz (.move rfl <| .lss rfl rfl <| .nil) ?_
     clear Hz Az; intro Az Hz
     refine bool_cases Hz (t := 46) rfl ?_ ?_
     ·
      clear Hz; intro hb175 Hz
      try simp only [Q1x, Q2x, Q3x, Q4x, Q5x, Q6x, Q7x, Q8x, Q9x, Q0x, Qax, Qbx] at hb175
      refine wp_cond_true (Hz.ev (x := .tmp 46) rfl) ?_
      refine wp_seq_k (fun K17 hK17 => ?_)
      refine wp_seq_k (fun K18 hK18 => ?_)
      refine wp_region_lit ?_
      refine goCh Hz (.move rfl <| .gtr rfl rfl <| .move rfl <| .nil) ?_
      clear Hz Az; intro Az Hz
      refine bool_cases Hz (t := 49) rfl ?_ ?_
      ·
       clear Hz; intro hb182 Hz
       try simp only [Q1x, Q2x, Q3x, Q4x, Q5x, Q6x, Q7x, Q8x, Q9x, Q0x, Qax, Qbx] at hb182
       refine goCh Hz (.moveZ rfl <| .eqlZ rfl rfl <| .pickT rfl rfl <| .nil) ?_
       clear Hz Az; intro Az Hz
       refine wpList_nil ?_
       refine hK18 _ _ ?_; clear hK18; try clear K18
       refine bool_cases Hz (t := 52) rfl ?_ ?_
       ·
        clear Hz; intro hb186 Hz
        try simp only [Q1x, Q2x, Q3x, Q4x, Q5x, Q6x, Q7x, Q8x, Q9x, Q0x, Qax, Qbx] at hb186
        have hN : numR b 0 mx = (0, [], 20) := numR_err mx (by rw [← hD, if_pos (.inr ⟨by omega, by omega⟩)])
        refine wp_cond_true (Hz.ev (x := .tmp 52) rfl) ?_
        replace Hz : Has 73 [(0, _), (1, _), (5, _), (6, _)] Az := Hz.only [0, 1, 5, 6]
        refine wp_seq_k (fun K19 hK19 => ?_)
        refine wp_region_lit ?_
        refine goCh Hz (.move rfl .nil) ?_
        clear Hz Az; intro Az Hz
        refine wpList_plain rfl (fun K hK => ?_)
        refine e_call Hz Tryd.func61 rfl rfl rfl rfl (rfail_x _ _ _ _ _ _ (m11.into [(1, 1)] (by decide) rfl)) ?_
        rintro e w190 ⟨rfl, hm190⟩
        have mx190 := m11.back hm190 [(1, 1)] (by decide); clear hm190 m11
        have m190 : MemOk _ _ [(1, _), (2, _)] _ := mx190.only [1, 2]; clear mx190
        refine ⟨_, rfl, ?_⟩; clear Hz Az; intro Az Hz
        refine hK _ _ ?_; clear hK K
        refine wpList_nil ?_
        refine hK19 _ _ ?_; clear hK19; try clear K19
        refine regS Hz (.assign rfl <| .nil) ?_
        clear Hz Az; intro Az Hz
        refine wp_ret ?_
        try dsimp only [Exit.then, Exit.inBlock]
        refine (ret1 (fn := Tryd.f51) Hz rfl rfl ?_)
        rw [hN]
        exact ⟨none, 0, rfl, m190.only [1, 2]⟩
       ·
        clear Hz; intro hb186 Hz
        try simp only [Q1x, Q2x, Q3x, Q4x, Q5x, Q6x, Q7x, Q8x, Q9x, Q0x, Qax, Qbx] at hb186
        have hz : ¬ (0 < k ∧ (b.getD k 0) = 0) := by omega
        have hno : ¬ ((k = 9 ∧ 1 < (b.getD k 0)) ∨ (0 < k ∧ (b.getD k 0) = 0)) := fun h => h.elim (fun h => by have := h9 h.1; omega) hz
        have hO : dec 0 0 b = .ok v (k + 1) := by rw [← hD, if_neg hno, if_pos (by omega), hv]
        refine wp_cond_false (Hz.ev (x := .tmp 52) rfl) ?_
        refine wp_skip ?_
        refine hK17 _ _ ?_; clear hK17; try clear K17
        refine wp_seq_k (fun K20 hK20 => ?_)
        replace Hz : Has 73 [(0, _), (1, _), (5, _), (6, _)] Az := Hz.only [0, 1, 5, 6]
        refine regS Hz (.move rfl <| .move rfl <| .gtr rfl rfl <| .nil) ?_
        clear Hz Az; intro Az Hz
        refine bool_cases Hz (t := 57) rfl ?_ ?_
        ·
         clear Hz; intro hb197 Hz
         try simp only [Q1x, Q2x, Q3x, Q4x, Q5x, Q6x, Q7x, Q8x, Q9x, Q0x, Qax, Qbx] at hb197
         have hN : numR b 0 mx = (0, [], 22) := by rw [numR_val mx hO, if_pos (by omega)]
         refine wp_cond_true (Hz.ev (x := .tmp 57) rfl) ?_
         refine wp_seq_k (fun K21 hK21 => ?_)
         refine wp_region_lit ?_
         refine goCh Hz (.move rfl .nil) ?_
         clear Hz Az; intro Az Hz
         refine wpList_plain rfl (fun K hK => ?_)
         refine e_call Hz Tryd.func61 rfl rfl rfl rfl (rfail_x _ _ _ _ _ _ (m11.into [(1, 1)] (by decide) rfl)) ?_
         rintro e w200 ⟨rfl, hm200⟩
         have mx200 := m11.back hm200 [(1, 1)] (by decide); clear hm200 m11
         have m200 : MemOk _ _ [(1, _), (2, _)] _ := mx200.only [1, 2]; clear mx200
         refine ⟨_, rfl, ?_⟩; clear Hz Az; intro Az Hz
         refine hK _ _ ?_; clear hK K
         refine wpList_nil ?_
         refine hK21 _ _ ?_; clear hK21; try clear K21
         refine regS Hz (.assign rfl <| .nil) ?_
         clear Hz Az; intro Az Hz
         refine wp_ret ?_
         try dsimp only [Exit.then, Exit.inBlock]
         refine (ret1 (fn := Tryd.f51) Hz rfl rfl ?_)
         rw [hN]
         exact ⟨none, 0, rfl, m200.only [1, 2]⟩
        ·
         clear Hz; intro hb197 Hz
         try simp only [Q1x, Q2x, Q3x, Q4x, Q5x, Q6x, Q7x, Q8x, Q9x, Q0x, Qax, Qbx] at hb197
         have hN : numR b 0 mx = ((v : Int), b.drop (k + 1), 0) := by rw [numR_val mx hO, if_neg (by omega)]
         refine wp_cond_false (Hz.ev (x := .tmp 57) rfl) ?_
         refine wp_skip ?_
         refine hK20 _ _ ?_; clear hK20; try clear K20
         refine wp_seq_k (fun K22 hK22 => ?_)
         refine wp_region_lit ?_
         refine goCh Hz (.move rfl <| .move rfl <| .nilCheck rfl <| .fieldAddr (off := 0) rfl Tryd.underlying95 rfl (s := 0) (by kernel_rfl) rfl <| .loadB1 m11 (i := 1) rfl rfl rfl Tryd.underlying24 rfl <| .move rfl <| .add rfl rfl (r := ((k + 1 : Nat) : Int)) (by rw [IntWalk.i64_in _ (by omega)]; omega) <| .c rfl (fun _ h => y_sliceLn h (k + 1) rfl rfl Tryd.underlying24 sz5xNs rfl (show k + 1 ≤ b.length by omega)) <| .nilCheck rfl <| .fieldAddr (off := 0) rfl Tryd.underlying95 rfl (s := 0) (by kernel_rfl) rfl <| .nil) ?_
         clear Hz Az; intro Az Hz
         refine wpList_plain rfl (fun K hK => ?_)
         refine e_store1 Hz m11 1 rfl rfl rfl rfl rfl sz24xNs (by dsimp only [List.set] <;> rfl) ?_
         clear m11; intro w223 m223 hB223
         clear hB223
         refine hK _ _ ?_; clear hK K
         refine wpList_nil ?_
         refine hK22 _ _ ?_; clear hK22; try clear K22
         replace Hz : Has 73 [(0, _), (1, _), (5, _), (6, _), (57, _)] Az := Hz.only [0, 1, 5, 6, 57]
         refine regS Hz (.move rfl <| .assign rfl <| .nil) ?_
         clear Hz Az; intro Az Hz
         refine wp_ret ?_
         try dsimp only [Exit.then, Exit.inBlock]
         refine (ret1 (fn := Tryd.f51) Hz rfl rfl ?_)
         have hl9 : b.length - (k + 1) = (b.drop (k + 1)).length := by rw [List.length_drop]
         rw [hl9] at m223
         rw [hN]
         exact ⟨_, _, rfl, m223.only [1, 2]⟩
      ·
       clear Hz; intro hb182 Hz
       try simp only [Q1x, Q2x, Q3x, Q4x, Q5x, Q6x, Q7x, Q8x, Q9x, Q0x, Qax, Qbx] at hb182
       have hz : ¬ (0 < k ∧ (b.getD k 0) = 0) := by omega
       have hno : ¬ ((k = 9 ∧ 1 < (b.getD k 0)) ∨ (0 < k ∧ (b.getD k 0) = 0)) := fun h => h.elim (fun h => by have := h9 h.1; omega) hz
       have hO : dec 0 0 b = .ok v (k + 1) := by rw [← hD, if_neg hno, if_pos (by omega), hv]
       refine goCh Hz (.sk <| .sk <| .pickF rfl rfl <| .nil) ?_
       clear Hz Az; intro Az Hz
       refine wpList_nil ?_
       refine hK18 _ _ ?_; clear hK18; try clear K18
       refine wp_cond_false (Hz.ev (x := .tmp 52) rfl) ?_
       refine wp_skip ?_
       refine hK17 _ _ ?_; clear hK17; try clear K17
       refine wp_seq_k (fun K23 hK23 => ?_)
       replace Hz : Has 73 [(0, _), (1, _), (5, _), (6, _)] Az := Hz.only [0, 1, 5, 6]
       refine regS Hz (.move rfl <| .move rfl <| .gtr rfl rfl <| .nil) ?_
       clear Hz Az; intro Az Hz
       refine bool_cases Hz (t := 57) rfl ?_ ?_
       ·
        clear Hz; intro hb234 Hz
        try simp only [Q1x, Q2x, Q3x, Q4x, Q5x, Q6x, Q7x, Q8x, Q9x, Q0x, Qax, Qbx] at hb234
        have hN : numR b 0 mx = (0, [], 22) := by rw [numR_val mx hO, if_pos (by omega)]
        refine wp_cond_true (Hz.ev (x := .tmp 57) rfl) ?_
        refine wp_seq_k (fun K24 hK24 => ?_)
        refine wp_region_lit ?_
        refine goCh Hz (.move rfl .nil) ?_
        clear Hz Az; intro Az Hz
        refine wpList_plain rfl (fun K hK => ?_)
        refine e_call Hz Tryd.func61 rfl rfl rfl rfl (rfail_x _ _ _ _ _ _ (m11.into [(1, 1)] (by decide) rfl)) ?_
        rintro e w237 ⟨rfl, hm237⟩
        have mx237 := m11.back hm237 [(1, 1)] (by decide); clear hm237 m11
        have m237 : MemOk _ _ [(1, _), (2, _)] _ := mx237.only [1, 2]; clear mx237
        refine ⟨_, rfl, ?_⟩; clear Hz Az; intro Az Hz
        refine hK _ _ ?_; clear hK K
        refine wpList_nil ?_
        refine hK24 _ _ ?_; clear hK24; try clear K24
        refine regS Hz (.assign rfl <| .nil) ?_
        clear Hz Az; intro Az Hz
        refine wp_ret ?_
        try dsimp only [Exit.then, Exit.inBlock]
        refine (ret1 (fn := Tryd.f51) Hz rfl rfl ?_)
        rw [hN]
        exact ⟨none, 0, rfl, m237.only [1, 2]⟩
       ·
        clear Hz; intro hb234 Hz
        try simp only [Q1x, Q2x, Q3x, Q4x, Q5x, Q6x, Q7x, Q8x, Q9x, Q0x, Qax, Qbx] at hb234
        have hN : numR b 0 mx = ((v : Int), b.drop (k + 1), 0) := by rw [numR_val mx hO, if_neg (by omega)]
        refine wp_cond_false (Hz.ev (x := .tmp 57) rfl) ?_
        refine wp_skip ?_
        refine hK23 _ _ ?_; clear hK23; try clear K23
        refine wp_seq_k (fun K25 hK25 => ?_)
        refine wp_region_lit ?_
        refine goCh Hz (.move rfl <| .move rfl <| .nilCheck rfl <| .fieldAddr (off := 0) rfl Tryd.underlying95 rfl (s := 0) (by kernel_rfl) rfl <| .loadB1 m11 (i := 1) rfl rfl rfl Tryd.underlying24 rfl <| .move rfl <| .add rfl rfl (r := ((k + 1 : Nat) : Int)) (by rw [IntWalk.i64_in _ (by omega)]; omega) <| .c rfl (fun _ h => y_sliceLn h (k + 1) rfl rfl Tryd.underlying24 sz5xNs rfl (show k + 1 ≤ b.length by omega)) <| .nilCheck rfl <| .fieldAddr (off := 0) rfl Tryd.underlying95 rfl (s := 0) (by kernel_rfl) rfl <| .nil) ?_
        clear Hz Az; intro Az Hz
        refine wpList_plain rfl (fun K hK => ?_)
        refine e_store1 Hz m11 1 rfl rfl rfl rfl rfl sz24xNs (by dsimp only [List.set] <;> rfl) ?_
        clear m11; intro w260 m260 hB260
        clear hB260
        refine hK _ _ ?_; clear hK K
        refine wpList_nil ?_
        refine hK25 _ _ ?_; clear hK25; try clear K25
        replace Hz : Has 73 [(0, _), (1, _), (5, _), (6, _), (57, _)] Az := Hz.only [0, 1, 5, 6, 57]
        refine regS Hz (.move rfl <| .assign rfl <| .nil) ?_
        clear Hz Az; intro Az Hz
        refine wp_ret ?_
        try dsimp only [Exit.then, Exit.inBlock]
        refine (ret1 (fn := Tryd.f51) Hz rfl rfl ?_)
        have hl9 : b.length - (k + 1) = (b.drop (k + 1)).length := by rw [List.length_drop]
        rw [hl9] at m260
        rw [hN]
        exact ⟨_, _, rfl, m260.only [1, 2]⟩
     ·
      clear Hz; intro hb175 Hz
      try simp only [Q1x, Q2x, Q3x, Q4x, Q5x, Q6x, Q7x, Q8x, Q9x, Q0x, Qax, Qbx] at hb175
      have hz : ¬ (0 < k ∧ (b.getD k 0) = 0) := by omega
      have hno : ¬ ((k = 9 ∧ 1 < (b.getD k 0)) ∨ (0 < k ∧ (b.getD k 0) = 0)) := fun h => h.elim (fun h => by have := h9 h.1; omega) hz
      refine wp_cond_false (Hz.ev (x := .tmp 46) rfl) ?_
      refine wp_skip ?_
      refine hK3 _ _ ?_; clear hK3; try clear K3
      refine wp_region_lit ?_
      refine goCh Hz (.move rfl <| .add rfl rfl (r := ((k + 1 : Nat) : Int)) (by rw [IntWalk.i64_in _ (by omega)]; omega) <| .assign rfl <| .nil) ?_
      clear Hz Az; intro Az Hz
      refine wpList_nil ?_
      show ∃ n', n' < _ ∧ _
      exact ⟨b.length - (k + 1), by omega, k + 1, v, by omega, by omega, rfl, by rw [← hv]; exact acc_bound u k (b.getD k 0) hu, by rw [← hD, if_neg hno, if_neg (by omega), hv], Hz.only [0, 1, 5, 6], m11.only [1, 2]⟩
   ·
    clear Hz; intro hb19 Hz
    try simp only [Q1x, Q2x, Q3x, Q4x, Q5x, Q6x, Q7x, Q8x, Q9x, Q0x, Qax, Qbx] at hb19
    obtain rfl : k = b.length := by omega
    have hN : numR b 0 mx = (0, [], 21) := numR_err mx (by rw [← hD0, List.drop_length]; rfl)
    refine wp_cond_false (Hz.ev (x := .tmp 19) rfl) ?_
    refine wp_exit ?_
    refine hK1 _ _ ?_; clear hK1; try clear K1
    replace Hz : Has 73 [(0, _), (1, _), (5, _), (6, _)] Az := Hz.only [0, 1, 5, 6]
    refine wp_seq_k (fun K26 hK26 => ?_)
    refine wp_region_lit ?_
    refine goCh Hz (.move rfl .nil) ?_
    clear Hz Az; intro Az Hz
    refine wpList_plain rfl (fun K hK => ?_)
    refine e_call Hz Tryd.func61 rfl rfl rfl rfl (rfail_x _ _ _ _ _ _ (m11.into [(1, 1)] (by decide) rfl)) ?_
    rintro e w270 ⟨rfl, hm270⟩
    have mx270 := m11.back hm270 [(1, 1)] (by decide); clear hm270 m11
    have m270 : MemOk _ _ [(1, _), (2, _)] _ := mx270.only [1, 2]; clear mx270
    refine ⟨_, rfl, ?_⟩; clear Hz Az; intro Az Hz
    refine hK _ _ ?_; clear hK K
    refine wpList_nil ?_
    refine hK26 _ _ ?_; clear hK26; try clear K26
    refine regS Hz (.assign rfl <| .nil) ?_
    clear Hz Az; intro Az Hz
    refine wp_ret ?_
    try dsimp only [Exit.then, Exit.inBlock]
    refine (ret1 (fn := Tryd.f51) Hz rfl rfl ?_)
    rw [hN]
    exact ⟨none, 0, rfl, m270.only [1, 2]⟩
end Go.Proofs.YtogjhjiapinmcaaDoor.K
