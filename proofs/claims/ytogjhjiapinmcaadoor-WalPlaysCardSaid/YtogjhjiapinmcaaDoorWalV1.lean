/- The reference's Put and Lump, exactly. -/
import Derived.Test.YtogjhjiapinmcaaDoorWalR2
namespace Go.Proofs.YtogjhjiapinmcaaDoor.K
open Go.ChangeShapes Go.WideShapes Go.ChangeAt Go.RowKit
set_option linter.unusedVariables false
set_option linter.unusedSimpArgs false

theorem inf5xp1 : (Tryd.prog.info? 5).map (fun i => (i.zero, i.size, i.bytes)) = some (some (.int .u8 0), 1, 1) := by kernel_rfl
theorem sz32xp1 : (Tryd.prog.info? 32).map (·.size) = some 1 := by kernel_rfl
theorem inf5xl1 : (Tryd.prog.info? 5).map (fun i => (i.zero, i.size, i.bytes)) = some (some (.int .u8 0), 1, 1) := by kernel_rfl
theorem inf32xl1 : (Tryd.prog.info? 32).map (fun i => (i.zero, i.size, i.bytes)) = some (some (.int .u64 0), 1, 8) := by kernel_rfl

theorem leb_or (u : Nat) : IntKind.u8.wrap ((BitVec.ofInt IntKind.u8.bits (IntKind.u8.wrap (u : Int)) ||| BitVec.ofInt IntKind.u8.bits 128).toNat) = ((u % 128 + 128 : Nat) : Int) := by
 have h := or128 u
 have e : IntKind.u8.wrap (u : Int) = (u : Int) % 256 := by simp [IntKind.wrap, IntKind.signed, IntKind.bits]
 rw [e]; exact h
theorem leb_stepx {j u : Nat} (hj : j ≤ 9) (hu : (u : Int) < 2 ^ (64 - 7 * j)) (h : 128 ≤ u) : j + 1 ≤ 9 ∧ ((u / 128 : Nat) : Int) < 2 ^ (64 - 7 * (j + 1)) := by
 have hc : j = 0 ∨ j = 1 ∨ j = 2 ∨ j = 3 ∨ j = 4 ∨ j = 5 ∨ j = 6 ∨ j = 7 ∨ j = 8 ∨ j = 9 := by omega
 rcases hc with rfl | rfl | rfl | rfl | rfl | rfl | rfl | rfl | rfl | rfl <;> simp at hu ⊢ <;> omega
theorem leb_more {j u : Nat} (hj : j ≤ 8) (h : 128 ≤ u) : encF (9 - j) u = ((u % 128 + 128 : Nat) : Int) :: encF (9 - (j + 1)) (u / 128) := by
 obtain ⟨f, hf⟩ : ∃ f, 9 - j = f + 1 := ⟨8 - j, by omega⟩
 rw [hf, show 9 - (j + 1) = f by omega, encF, if_neg (by omega)]
theorem leb_end {j u : Nat} (hj : j ≤ 9) (h : u < 128) : encF (9 - j) u = [(u : Int)] := by
 cases hf : 9 - j with
 | zero => rfl
 | succ f => rw [encF, if_pos h]
theorem one64 {x : Int} (h : 0 ≤ x ∧ x ≤ 9223372036854775807) : ∀ k, k < [x].length → 0 ≤ [x].getD k 0 ∧ [x].getD k 0 < 2 ^ 64 := fun k hk => by
 obtain rfl : k = 0 := by simpa using hk
 simp; omega
set_option maxRecDepth 100000
set_option maxHeartbeats 4000000
theorem rput_x (xs : List Int) (q : Option Addr) (cq : Nat) (w0 : World) (h0 : Rd (fun _ => True) w0 (.slice q xs.length cq) (.ns .u64 xs)) (hl : xs.length ≤ 1000000) (hxb : ∀ k, k < xs.length → 0 ≤ xs.getD k 0 ∧ xs.getD k 0 < 2 ^ 64) :
   Calls Tryd.prog 56 #[.slice q xs.length cq] w0 fun e w' => ∃ (p : Option Addr) (c : Nat), e = .returned (.slice p (encs xs).length c) ∧ w'.ownsRow w0.heap.size 5 1 (.slice p (encs xs).length c) (encs xs).length ((encs xs).map (Value.int .u8)) ∧ Below w0.heap.size w0 w' := by
 refine enter (fn := Tryd.f56) Tryd.func56 rfl Tryd.ntmps56 rfl (fun Az Hz => ?_)
 simp only [List.zipIdx_cons, List.zipIdx_nil, List.map_cons, List.map_nil, Nat.reduceAdd, Nat.zero_add] at Hz
 have m0 := MemOk.start (fun _ => False) w0
 refine regS Hz (.assign rfl <| .nil) ?_
 clear Hz Az; intro Az Hz
 refine regS Hz (.assign rfl <| .nil) ?_
 clear Hz Az; intro Az Hz
 refine wp_seq_k (fun K0 hK0 => ?_)
 refine regS Hz (.assign rfl <| .nil) ?_
 clear Hz Az; intro Az Hz
 refine wp_block ?_
 refine wp_loop_ghost (fun g a w => ∃ (k : Nat) (b : List Int) (p : Option Addr) (c : Nat), k ≤ xs.length ∧ g = xs.length - k ∧ b = encs (xs.take k) ∧ Has 32 [(0, .slice q xs.length cq), (3, .slice p b.length c), (4, .int .i64 k)] a ∧ MemOk (cn w0) w0 [(9, .num (.slice p b.length c) 5 .u8 b)] w) (xs.length) ?_ ?_
 · have mz := m0.nilN 9 5 .u8
   exact ⟨0, [], _, _, Nat.zero_le _, rfl, rfl, Hz.only [0, 3, 4], mz.only [9]⟩
 ·
  clear Hz m0
  rintro g Az w4 ⟨k, b, p, c, hkl, hg, hbe, Hz, m4⟩
  refine wp_seq_k (fun K1 hK1 => ?_)
  refine regS Hz (.move rfl <| .move rfl <| .len rfl Tryd.underlying23 <| .lss rfl rfl <| .nil) ?_
  clear Hz Az; intro Az Hz
  refine bool_cases Hz (t := 9) rfl ?_ ?_
  ·
   clear Hz; intro hb9 Hz
   try simp only [Q1x, Q2x, Q3x, Q4x, Q5x, Q6x, Q7x, Q8x, Q9x, Q0x, Qax, Qbx] at hb9
   have hk : k < xs.length := by omega
   have hxk := hxb k hk
   refine wp_cond_true (Hz.ev (x := .tmp 9) rfl) ?_
   refine wp_skip ?_
   refine hK1 _ _ ?_; clear hK1; try clear K1
   refine wp_seq_k (fun K2 hK2 => ?_)
   refine wp_block ?_
   refine wp_seq_k (fun K3 hK3 => ?_)
   refine wp_region_lit ?_
   refine goCh Hz (.move rfl <| .move rfl <| .nil) ?_
   clear Hz Az; intro Az Hz
   obtain ⟨gx15, ox15, hp15, hl15, hrg15⟩ := h0.extN (k) hk
   cases hp15; clear hl15
   refine goCh Hz (.c rfl (fun _ h => y_idx h rfl rfl Tryd.underlying23 sz32xp1 (k) rfl hk) <| .loadAt1 (hrg15 m4 rfl) (q := 0) rfl rfl rfl Tryd.underlying32 rfl <| .assign rfl <| .nil) ?_
   clear Hz Az; intro Az Hz
   refine wpList_nil ?_
   refine hK3 _ _ ?_; clear hK3; try clear K3
   refine wp_seq_k (fun K4 hK4 => ?_)
   refine wp_block ?_
   refine wp_loop_ghost (fun g a w => ∃ (j u : Nat) (b : List Int) (p : Option Addr) (c : Nat), j ≤ 9 ∧ (u : Int) < 2 ^ (64 - 7 * j) ∧ g = u ∧ b.length ≤ 10 * k + j ∧ b ++ encF (9 - j) u = encs (xs.take k) ++ enc (xs.getD k 0) ∧ Has 32 [(0, .slice (some ⟨gx15, ox15, none⟩) xs.length cq), (3, .slice p b.length c), (4, .int .i64 k), (5, .int .u64 (u : Int))] a ∧ MemOk (cn w0) w0 [(9, .num (.slice p b.length c) 5 .u8 b)] w) ((xs.getD k 0).toNat) ?_ ?_
   · obtain ⟨u0, hu0⟩ : ∃ u : Nat, xs.getD k 0 = u := ⟨(xs.getD k 0).toNat, by omega⟩
     rw [hu0] at Hz
     exact ⟨0, u0, b, _, _, by omega, by have := hxk.2; rw [hu0] at this; simpa using this, by rw [hu0]; rfl, by rw [hbe]; have := encs_len (xs.take k); rw [List.length_take] at this; omega, by rw [hbe, hu0]; rfl, Hz.only [0, 3, 4, 5], m4.only [9]⟩
   ·
    clear Hz m4
    rintro g Az w19 ⟨j, u, b, p, c, hj9, hu1, hg2, hbl2, hbe2, Hz, m19⟩
    refine wp_seq_k (fun K5 hK5 => ?_)
    refine regS Hz (.move rfl <| .geq rfl rfl <| .nil) ?_
    clear Hz Az; intro Az Hz
    refine bool_cases Hz (t := 17) rfl ?_ ?_
    ·
     clear Hz; intro hb22 Hz
     try simp only [Q1x, Q2x, Q3x, Q4x, Q5x, Q6x, Q7x, Q8x, Q9x, Q0x, Qax, Qbx] at hb22
     have hub : 128 ≤ u := by omega
     have hz : IntKind.u8.wrap ((BitVec.ofInt IntKind.u8.bits (IntKind.u8.wrap (u : Int)) ||| BitVec.ofInt IntKind.u8.bits 128).toNat) = ((u % 128 + 128 : Nat) : Int) := leb_or u
     obtain ⟨hj8, hu2⟩ := leb_stepx hj9 hu1 (by omega)
     refine wp_cond_true (Hz.ev (x := .tmp 17) rfl) ?_
     refine wp_skip ?_
     refine hK5 _ _ ?_; clear hK5; try clear K5
     refine wp_block ?_
     refine wp_seq_k (fun K6 hK6 => ?_)
     refine wp_region_lit ?_
     refine goCh Hz (.move rfl <| .move rfl <| .conv rfl Tryd.underlying32 Tryd.underlying5 rfl <| .or rfl rfl (r := ((u % 128 + 128 : Nat) : Int)) hz <| .nil) ?_
     clear Hz Az; intro Az Hz
     refine wpList_plain rfl (fun K hK => ?_)
     refine e_litN Hz m19 200 (k := .u8) rfl rfl Tryd.underlying24 inf5xp1 rfl rfl rfl rfl ?_
     clear Hz Az m19; intro g31 Az w32 Hz m32
     refine hK _ _ ?_; clear hK K
     refine wpList_plain rfl (fun K hK => ?_)
     refine e_appN Hz m32 9 rfl rfl rfl (m32.numsO (i := 200) rfl) Tryd.underlying24 inf5xp1 (by decide) (by simp; omega) rfl ?_
     clear Hz Az m32; intro p33 c33 Az w34 Hz m34
     refine hK _ _ ?_; clear hK K
     refine goCh Hz (.assign rfl .nil) ?_
     clear Hz Az; intro Az Hz
     refine wpList_nil ?_
     refine hK6 _ _ ?_; clear hK6; try clear K6
     replace Hz : Has 32 [(0, _), (3, _), (4, _), (5, _)] Az := Hz.only [0, 3, 4, 5]
     refine wp_region_lit ?_
     refine goCh Hz (.move rfl <| .shr rfl rfl (by decide) (r := ((u / 128 : Nat) : Int)) (by rw [show (2 : Int) ^ min (7 : Int).toNat IntKind.u64.bits = 128 from by decide, Int.fdiv_eq_ediv_of_nonneg _ (by decide)]; omega) <| .assign rfl <| .nil) ?_
     clear Hz Az; intro Az Hz
     refine wpList_nil ?_
     show ∃ n', n' < _ ∧ _
     exact ⟨u / 128, by omega, j + 1, u / 128, _, _, _, hj8, by omega, rfl, by simp; omega, by rw [← hbe2, leb_more (by omega) hub, List.append_assoc]; try rfl, Hz.only [0, 3, 4, 5], m34.only [9]⟩
    ·
     clear Hz; intro hb22 Hz
     try simp only [Q1x, Q2x, Q3x, Q4x, Q5x, Q6x, Q7x, Q8x, Q9x, Q0x, Qax, Qbx] at hb22
     have hub : u < 128 := by omega
     refine wp_cond_false (Hz.ev (x := .tmp 17) rfl) ?_
     refine wp_exit ?_
     refine hK4 _ _ ?_; clear hK4; try clear K4
     refine wp_region_lit ?_
     refine goCh Hz (.move rfl <| .move rfl <| .conv rfl Tryd.underlying32 Tryd.underlying5 (r := (u : Int)) (IntWalk.u8_in _ (by omega)) <| .nil) ?_
     clear Hz Az; intro Az Hz
     refine wpList_plain rfl (fun K hK => ?_)
     refine e_litN Hz m19 200 (k := .u8) rfl rfl Tryd.underlying24 inf5xp1 rfl rfl rfl rfl ?_
     clear Hz Az m19; intro g43 Az w44 Hz m44
     refine hK _ _ ?_; clear hK K
     refine wpList_plain rfl (fun K hK => ?_)
     refine e_appN Hz m44 9 rfl rfl rfl (m44.numsO (i := 200) rfl) Tryd.underlying24 inf5xp1 (by decide) (by simp; omega) rfl ?_
     clear Hz Az m44; intro p45 c45 Az w46 Hz m46
     refine hK _ _ ?_; clear hK K
     refine goCh Hz (.assign rfl .nil) ?_
     clear Hz Az; intro Az Hz
     refine wpList_nil ?_
     refine hK2 _ _ ?_; clear hK2; try clear K2
     replace Hz : Has 32 [(0, _), (3, _), (4, _), (5, _)] Az := Hz.only [0, 3, 4, 5]
     refine wp_region_lit ?_
     refine goCh Hz (.move rfl <| .add rfl rfl (r := ((k + 1 : Nat) : Int)) (by rw [IntWalk.i64_in _ (by omega)]; omega) <| .assign rfl <| .nil) ?_
     clear Hz Az; intro Az Hz
     refine wpList_nil ?_
     show ∃ n', n' < _ ∧ _
     exact ⟨xs.length - (k + 1), by omega, k + 1, _, _, _, by omega, rfl, by rw [encs_snoc _ _ hk, ← hbe2, leb_end (by omega) hub]; try rfl, Hz.only [0, 3, 4], m46.only [9]⟩
  ·
   clear Hz; intro hb9 Hz
   try simp only [Q1x, Q2x, Q3x, Q4x, Q5x, Q6x, Q7x, Q8x, Q9x, Q0x, Qax, Qbx] at hb9
   obtain rfl : k = xs.length := by omega
   refine wp_cond_false (Hz.ev (x := .tmp 9) rfl) ?_
   refine wp_exit ?_
   refine hK0 _ _ ?_; clear hK0; try clear K0
   refine regS Hz (.move rfl <| .assign rfl <| .nil) ?_
   clear Hz Az; intro Az Hz
   refine wp_ret ?_
   try dsimp only [Exit.then, Exit.inBlock]
   refine (ret1 (fn := Tryd.f56) Hz rfl rfl ?_)
   rw [List.take_length] at hbe
   subst hbe
   exact ⟨_, _, rfl, m4.ok 9 _ rfl, m4.below⟩
theorem rlump_x (xs : List Int) (q : Option Addr) (cq : Nat) (w0 : World) (h0 : Rd (fun _ => True) w0 (.slice q xs.length cq) (.ns .u8 xs)) (hl : xs.length ≤ 1000000) :
   Calls Tryd.prog 41 #[.slice q xs.length cq] w0 fun e w' => ∃ (p : Option Addr) (c : Nat), e = .returned (.slice p (enc xs.length ++ xs).length c) ∧ w'.ownsRow w0.heap.size 5 1 (.slice p (enc xs.length ++ xs).length c) (enc xs.length ++ xs).length ((enc xs.length ++ xs).map (Value.int .u8)) ∧ Below w0.heap.size w0 w' := by
 refine enter (fn := Tryd.f41) Tryd.func41 rfl Tryd.ntmps41 rfl (fun Az Hz => ?_)
 simp only [List.zipIdx_cons, List.zipIdx_nil, List.map_cons, List.map_nil, Nat.reduceAdd, Nat.zero_add] at Hz
 have m0 := MemOk.start (fun _ => False) w0
 refine regS Hz (.assign rfl <| .nil) ?_
 clear Hz Az; intro Az Hz
 refine wp_seq_k (fun K0 hK0 => ?_)
 refine wp_region_lit ?_
 refine goCh Hz (.move rfl <| .len rfl Tryd.underlying24 <| .conv rfl Tryd.underlying3 Tryd.underlying32 (r := (xs.length : Int)) (IntWalk.u64_in _ (by omega)) <| .nil) ?_
 clear Hz Az; intro Az Hz
 refine wpList_plain rfl (fun K hK => ?_)
 refine e_litN Hz m0 20 (k := .u64) rfl rfl Tryd.underlying23 inf32xl1 rfl rfl rfl rfl ?_
 clear Hz Az m0; intro g8 Az w9 Hz m9
 refine hK _ _ ?_; clear hK K
 have m10 := m9.freezeN 20 rfl; clear m9
 refine wpList_plain rfl (fun K hK => ?_)
 refine e_call Hz Tryd.func56 rfl rfl rfl rfl (rput_x [(xs.length : Int)] _ _ _ ((m10.rd (i := 20) rfl).any) (by simp) (one64 (by omega))) ?_
 rintro e w11 ⟨p11, c11, rfl, ho11, hb11⟩
 have m12 := m10.newN 21 hb11 ho11
 clear m10
 clear hb11 ho11
 refine ⟨_, rfl, ?_⟩; clear Hz Az; intro Az Hz
 refine hK _ _ ?_; clear hK K
 refine goCh Hz (.move rfl .nil) ?_
 clear Hz Az; intro Az Hz
 refine wpList_plain rfl (fun K hK => ?_)
 refine e_appN Hz m12 21 rfl rfl rfl (h0.now' m12 rfl).ns_out.nums Tryd.underlying24 inf5xl1 (by decide) (by have h9 := encs_len [(xs.length : Int)]; rw [List.length_singleton] at h9; omega) rfl ?_
 clear Hz Az m12; intro p15 c15 Az w16 Hz m16
 refine hK _ _ ?_; clear hK K
 refine goCh Hz (.assign rfl .nil) ?_
 clear Hz Az; intro Az Hz
 refine wpList_nil ?_
 refine hK0 _ _ ?_; clear hK0; try clear K0
 refine wp_ret ?_
 try dsimp only [Exit.then, Exit.inBlock]
 refine (ret1 (fn := Tryd.f41) Hz rfl rfl ?_)
 have hE : encs [(xs.length : Int)] ++ xs = enc xs.length ++ xs := by rw [encs_one]
 rw [hE] at m16
 exact ⟨_, _, by rw [hE], m16.ok 21 _ rfl, m16.below⟩
end Go.Proofs.YtogjhjiapinmcaaDoor.K
