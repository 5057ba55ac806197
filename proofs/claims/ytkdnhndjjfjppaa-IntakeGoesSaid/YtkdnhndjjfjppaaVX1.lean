/- The reference's numbers, lumps, place, items as bytes: just which. -/
import Derived.Test.YtkdnhndjjfjppaaG2
import Derived.Test.YtkdnhndjjfjppaaVol15
namespace Go.Proofs.Ytkdnhndjjfjppaa.K
open Go.ChangeShapes Go.WideShapes Go.ChangeAt Go.RowKit
set_option linter.unusedVariables false
set_option linter.unusedSimpArgs false
theorem leb_or (u : Nat) : IntKind.u8.wrap ((BitVec.ofInt IntKind.u8.bits (IntKind.u8.wrap (u : Int)) ||| BitVec.ofInt IntKind.u8.bits 128).toNat) = ((u % 128 + 128 : Nat) : Int) := by
 have h := or128 u
 have e : IntKind.u8.wrap (u : Int) = (u : Int) % 256 := by simp [IntKind.wrap, IntKind.signed, IntKind.bits]
 rw [e]; exact h
theorem leb_stepx {j u : Nat} (hj : j ≤ 9) (hu : (u : Int) < 2 ^ (64 - 7 * j)) (h : 128 ≤ u) : j + 1 ≤ 9 ∧ ((u / 128 : Nat) : Int) < 2 ^ (64 - 7 * (j + 1)) := by
 have hc : j = 0 ∨ j = 1 ∨ j = 2 ∨ j = 3 ∨ j = 4 ∨ j = 5 ∨ j = 6 ∨ j = 7 ∨ j = 8 ∨ j = 9 := by omega
 rcases hc with rfl | rfl | rfl | rfl | rfl | rfl | rfl | rfl | rfl | rfl <;> simp at hu ⊢ <;> omega
theorem leb_more {j u : Nat} (hj : j ≤ 8) (h : 128 ≤ u) : encF (9 - j) u = ((u % 128 + 128 : Nat) : Int) :: encF (9 - (j + 1)) (u / 128) := by
 obtain ⟨f, hf⟩ : ∃ f, 9 - j = f + 1 := ⟨8 - j, by omega⟩
 rw [hf, show 9 - (j + 1) = f by omega, encF, if_neg (by omega)]
theorem leb_end {j u : Nat} (hj : j ≤ 9) (h : u < 128) : encF (9 - j) u = [(u : Int)] := by
 cases hf : 9 - j with
 | zero => rfl
 | succ f => rw [encF, if_pos h]
theorem encs_one (x : Int) : encs [x] = enc x := by simp [encs]
theorem encs_cons (x : Int) (l : List Int) : encs (x :: l) = enc x ++ encs l := by simp [encs]
theorem one64 {x : Int} (h : 0 ≤ x ∧ x ≤ 9223372036854775807) : ∀ k, k < [x].length → 0 ≤ [x].getD k 0 ∧ [x].getD k 0 < 2 ^ 64 := fun k hk => by
 obtain rfl : k = 0 := by simpa using hk
 simp; omega
theorem one63 {x : Int} (h : 0 ≤ x ∧ x ≤ 9223372036854775807) : ∀ k, k < [x].length → 0 ≤ [x].getD k 0 ∧ [x].getD k 0 ≤ 9223372036854775807 := fun k hk => by
 obtain rfl : k = 0 := by simpa using hk
 simpa using h
def itemE (e : Int × List Int) : List Int := enc e.1 ++ (enc e.2.length ++ e.2)
def itemsE (es : List (Int × List Int)) : List Int := es.flatMap itemE
theorem itemsE_snoc {es : List (Int × List Int)} {k : Nat} {e : Int × List Int} (h : es[k]? = some e) : itemsE (es.take (k + 1)) = itemsE (es.take k) ++ itemE e := by
 rw [take_snoc h]; simp [itemsE]
theorem itemsE_len (es : List (Int × List Int)) (h : ∀ e ∈ es, e.2.length ≤ 1000) : (itemsE es).length ≤ 1020 * es.length := by
 induction es with
 | nil => simp [itemsE]
 | cons e es ih =>
   have h1 := ih (fun x hx => h x (List.mem_cons_of_mem _ hx))
   have h2 := h e List.mem_cons_self
   have h3 := (enc_len e.1).1
   have h4 := (enc_len e.2.length).1
   simp only [itemsE, List.flatMap_cons, List.length_append, List.length_cons, itemE] at h1 ⊢
   omega
set_option maxRecDepth 100000
set_option maxHeartbeats 4000000
theorem rput_x (xs : List Int) (q : Option Addr) (cq : Nat) (w0 : World) (h0 : Rd (fun _ => True) w0 (.slice q xs.length cq) (.ns .u64 xs)) (hl : xs.length ≤ 1000000) (hxb : ∀ k, k < xs.length → 0 ≤ xs.getD k 0 ∧ xs.getD k 0 < 2 ^ 64) :
   Calls Try.prog 62 #[.slice q xs.length cq] w0 fun e w' => ∃ (p : Option Addr) (c : Nat), e = .returned (.slice p (encs xs).length c) ∧ w'.ownsRow w0.heap.size 5 1 (.slice p (encs xs).length c) (encs xs).length ((encs xs).map (Value.int .u8)) ∧ Below w0.heap.size w0 w' := by
 refine ent1 Try.func62 rfl Try.ntmps62 fun Az Hz => ?_
 have m0 := MemOk.start (fun _ => False) w0
 refine regS Hz (.assign rfl <| .nil) ?_
 clear Hz Az; intro Az Hz
 refine regS Hz (.assign rfl <| .nil) ?_
 clear Hz Az; intro Az Hz
 refine wp_seq_k (fun K0 hK0 => ?_)
 refine regS Hz (.assign rfl <| .nil) ?_
 clear Hz Az; intro Az Hz
 refine wp_block ?_
 refine wp_loop_ghost (fun g a w => ∃ (k : Nat) (b : List Int) (p : Option Addr) (c : Nat), k ≤ xs.length ∧ g = xs.length - k ∧ b = encs (xs.take k) ∧ Has 32 [(0, .slice q xs.length cq), (3, .slice p b.length c), (4, .int .i64 k)] a ∧ MemOk (cn w0) w0 [(9, .num (.slice p b.length c) 5 .u8 b)] w) (xs.length) ?_ ?_
 · have mz := m0.nilN 9 5 .u8
   exact ⟨0, [], _, _, Nat.zero_le _, rfl, rfl, Hz.only [0, 3, 4], mz.only [9]⟩
 clear Hz m0
 rintro g Az w4 ⟨k, b, p, c, hkl, hg, hbe, Hz, m4⟩
 refine wp_seq_k (fun K1 hK1 => ?_)
 refine regS Hz (.move rfl <| .move rfl <| .len rfl U123 <| .lss rfl rfl <| .nil) ?_
 clear Hz Az; intro Az Hz
 refine bool_cases Hz (t := 9) rfl ?_ ?_
 ·
  clear Hz; intro hb9 Hz; try simp only [QQ, Qax] at hb9
  have hk : k < xs.length := by omega
  have hxk := hxb k hk
  refine wp_cond_true (Hz.ev (x := .tmp 9) rfl) ?_
  refine ss (hK1 _ _ ?_); clear hK1
  refine wp_seq_k (fun K2 hK2 => ?_)
  refine wp_block ?_
  refine sr fun K3 hK3 => ?_
  refine goCh Hz (.move rfl <| .move rfl <| .nil) ?_
  clear Hz Az; intro Az Hz
  obtain ⟨gx15, ox15, hp15, hl15, hrg15⟩ := h0.extN (k) hk
  cases hp15; clear hl15
  refine goCh Hz (.c rfl (fun _ h => y_idx h rfl rfl U123 fct34 (k) rfl hk) <| .loadAt1 (hrg15 m4 rfl) (q := 0) rfl rfl rfl U111 rfl <| .assign rfl <| .nil) ?_
  clear Hz Az; intro Az Hz
  refine nl (hK3 _ _ ?_); clear hK3
  refine wp_seq_k (fun K4 hK4 => ?_)
  refine wp_block ?_
  refine wp_loop_ghost (fun g a w => ∃ (j u : Nat) (b : List Int) (p : Option Addr) (c : Nat), j ≤ 9 ∧ (u : Int) < 2 ^ (64 - 7 * j) ∧ g = u ∧ b.length ≤ 10 * k + j ∧ b ++ encF (9 - j) u = encs (xs.take k) ++ enc (xs.getD k 0) ∧ Has 32 [(0, .slice (some ⟨gx15, ox15, none⟩) xs.length cq), (3, .slice p b.length c), (4, .int .i64 k), (5, .int .u64 (u : Int))] a ∧ MemOk (cn w0) w0 [(9, .num (.slice p b.length c) 5 .u8 b)] w) ((xs.getD k 0).toNat) ?_ ?_
  · obtain ⟨u0, hu0⟩ : ∃ u : Nat, xs.getD k 0 = u := ⟨(xs.getD k 0).toNat, by omega⟩
    rw [hu0] at Hz
    exact ⟨0, u0, b, _, _, by omega, by have := hxk.2; rw [hu0] at this; simpa using this, by rw [hu0]; rfl, by rw [hbe]; have := encs_len (xs.take k); rw [List.length_take] at this; omega, by rw [hbe, hu0]; rfl, Hz.only [0, 3, 4, 5], m4.only [9]⟩
  clear Hz m4
  rintro g Az w19 ⟨j, u, b, p, c, hj9, hu1, hg2, hbl2, hbe2, Hz, m19⟩
  refine wp_seq_k (fun K5 hK5 => ?_)
  refine regS Hz (.move rfl <| .geq rfl rfl <| .nil) ?_
  clear Hz Az; intro Az Hz
  refine bool_cases Hz (t := 17) rfl ?_ ?_
  ·
   clear Hz; intro hb22 Hz; try simp only [QQ, Qax] at hb22
   have hub : 128 ≤ u := by omega
   have hz : IntKind.u8.wrap ((BitVec.ofInt IntKind.u8.bits (IntKind.u8.wrap (u : Int)) ||| BitVec.ofInt IntKind.u8.bits 128).toNat) = ((u % 128 + 128 : Nat) : Int) := leb_or u
   obtain ⟨hj8, hu2⟩ := leb_stepx hj9 hu1 (by omega)
   refine wp_cond_true (Hz.ev (x := .tmp 17) rfl) ?_
   refine ss (hK5 _ _ ?_); clear hK5
   refine wp_block ?_
   refine sr fun K6 hK6 => ?_
   refine goCh Hz (.move rfl <| .move rfl <| .conv rfl U111 U5 rfl <| .or rfl rfl (r := ((u % 128 + 128 : Nat) : Int)) hz <| .nil) ?_
   clear Hz Az; intro Az Hz
   refine wpList_plain rfl (fun K hK => ?_)
   refine e_litN Hz m19 200 (k := .u8) rfl rfl U25 fct13 rfl rfl rfl rfl ?_
   clear Hz Az m19; intro g31 Az w32 Hz m32
   refine hK _ _ ?_; clear hK
   refine wpList_plain rfl (fun K hK => ?_)
   refine e_appN Hz m32 9 rfl rfl rfl (m32.numsO (i := 200) rfl) U25 fct13 (by decide) (by simp; omega) rfl ?_
   clear Hz Az m32; intro p33 c33 Az w34 Hz m34
   refine hK _ _ ?_; clear hK
   refine goCh Hz (.assign rfl .nil) ?_
   clear Hz Az; intro Az Hz
   refine nl (hK6 _ _ ?_); clear hK6
   replace Hz : Has 32 [(0, _), (3, _), (4, _), (5, _)] Az := Hz.only [0, 3, 4, 5]
   refine wp_region_lit ?_
   refine goCh Hz (.move rfl <| .shr rfl rfl (by decide) (r := ((u / 128 : Nat) : Int)) (by rw [show (2 : Int) ^ min (7 : Int).toNat IntKind.u64.bits = 128 from by decide, Int.fdiv_eq_ediv_of_nonneg _ (by decide)]; omega) <| .assign rfl <| .nil) ?_
   clear Hz Az; intro Az Hz
   refine wpList_nil ?_
   show ∃ n', n' < _ ∧ _
   exact ⟨u / 128, by omega, j + 1, u / 128, _, _, _, hj8, by omega, rfl, by simp; omega, by rw [← hbe2, leb_more (by omega) hub, List.append_assoc]; try rfl, Hz.only [0, 3, 4, 5], m34.only [9]⟩
  clear Hz; intro hb22 Hz; try simp only [QQ, Qax] at hb22
  have hub : u < 128 := by omega
  refine wp_cond_false (Hz.ev (x := .tmp 17) rfl) ?_
  refine wp_exit ?_
  refine hK4 _ _ ?_; clear hK4
  refine wp_region_lit ?_
  refine goCh Hz (.move rfl <| .move rfl <| .conv rfl U111 U5 (r := (u : Int)) (IntWalk.u8_in _ (by omega)) <| .nil) ?_
  clear Hz Az; intro Az Hz
  refine wpList_plain rfl (fun K hK => ?_)
  refine e_litN Hz m19 200 (k := .u8) rfl rfl U25 fct13 rfl rfl rfl rfl ?_
  clear Hz Az m19; intro g43 Az w44 Hz m44
  refine hK _ _ ?_; clear hK
  refine wpList_plain rfl (fun K hK => ?_)
  refine e_appN Hz m44 9 rfl rfl rfl (m44.numsO (i := 200) rfl) U25 fct13 (by decide) (by simp; omega) rfl ?_
  clear Hz Az m44; intro p45 c45 Az w46 Hz m46
  refine hK _ _ ?_; clear hK
  refine goCh Hz (.assign rfl .nil) ?_
  clear Hz Az; intro Az Hz
  refine nl (hK2 _ _ ?_); clear hK2
  replace Hz : Has 32 [(0, _), (3, _), (4, _), (5, _)] Az := Hz.only [0, 3, 4, 5]
  refine wp_region_lit ?_
  refine goCh Hz (.move rfl <| .add rfl rfl (r := ((k + 1 : Nat) : Int)) (by rw [IntWalk.i64_in _ (by omega)]; omega) <| .assign rfl <| .nil) ?_
  clear Hz Az; intro Az Hz
  refine wpList_nil ?_
  show ∃ n', n' < _ ∧ _
  exact ⟨xs.length - (k + 1), by omega, k + 1, _, _, _, by omega, rfl, by rw [encs_snoc _ _ hk, ← hbe2, leb_end (by omega) hub]; try rfl, Hz.only [0, 3, 4], m46.only [9]⟩
 clear Hz; intro hb9 Hz; try simp only [QQ, Qax] at hb9
 obtain rfl : k = xs.length := by omega
 refine wp_cond_false (Hz.ev (x := .tmp 9) rfl) ?_
 refine wp_exit ?_
 refine hK0 _ _ ?_; clear hK0
 refine regS Hz (.move rfl <| .assign rfl <| .nil) ?_
 clear Hz Az; intro Az Hz
 refine wp_ret ?_
 try dsimp only [Exit.then, Exit.inBlock]
 refine (ret1 (fn := Try.f62) Hz rfl rfl ?_)
 rw [List.take_length] at hbe
 subst hbe
 exact ⟨_, _, rfl, m4.ok 9 _ rfl, m4.below⟩
theorem rnums16x (xs : List Int) (q : Option Addr) (cq : Nat) (w0 : World) (h0 : Rd (fun _ => True) w0 (.slice q xs.length cq) (.ns .i64 xs)) (hl : xs.length ≤ 1000000) (hxb : ∀ k, k < xs.length → 0 ≤ xs.getD k 0 ∧ xs.getD k 0 ≤ 9223372036854775807) :
   Calls Try.prog 40 #[.slice q xs.length cq] w0 fun e w' => ∃ (p : Option Addr) (c : Nat), e = .returned (.slice p (encs xs).length c) ∧ w'.ownsRow w0.heap.size 5 1 (.slice p (encs xs).length c) (encs xs).length ((encs xs).map (Value.int .u8)) ∧ Below w0.heap.size w0 w' := by
 refine ent1 Try.func40 rfl Try.ntmps40 fun Az Hz => ?_
 have m0 := MemOk.start (fun _ => False) w0
 refine regS Hz (.assign rfl <| .nil) ?_
 clear Hz Az; intro Az Hz
 refine regS Hz (.assign rfl <| .nil) ?_
 clear Hz Az; intro Az Hz
 refine wp_seq_k (fun K0 hK0 => ?_)
 refine regS Hz (.assign rfl <| .nil) ?_
 clear Hz Az; intro Az Hz
 refine wp_block ?_
 refine wp_loop_ghost (fun g a w => ∃ (k : Nat) (b : List Int) (p : Option Addr) (c : Nat), k ≤ xs.length ∧ g = xs.length - k ∧ b = encs (xs.take k) ∧ Has 21 [(0, .slice q xs.length cq), (3, .slice p b.length c), (4, .int .i64 k)] a ∧ MemOk (cn w0) w0 [(9, .num (.slice p b.length c) 5 .u8 b)] w) (xs.length) ?_ ?_
 · have mz := m0.nilN 9 5 .u8
   exact ⟨0, [], _, _, Nat.zero_le _, rfl, rfl, Hz.only [0, 3, 4], mz.only [9]⟩
 clear Hz m0
 rintro g Az w4 ⟨k, b, p, c, hkl, hg, hbe, Hz, m4⟩
 refine wp_seq_k (fun K1 hK1 => ?_)
 refine regS Hz (.move rfl <| .move rfl <| .len rfl U46 <| .lss rfl rfl <| .nil) ?_
 clear Hz Az; intro Az Hz
 refine bool_cases Hz (t := 8) rfl ?_ ?_
 ·
  clear Hz; intro hb9 Hz; try simp only [QQ, Qax] at hb9
  have hk : k < xs.length := by omega
  have hxk := hxb k hk
  refine wp_cond_true (Hz.ev (x := .tmp 8) rfl) ?_
  refine ss (hK1 _ _ ?_); clear hK1
  refine wp_seq_k (fun K2 hK2 => ?_)
  refine wp_block ?_
  refine wp_region_lit ?_
  refine goCh Hz (.move rfl <| .move rfl <| .move rfl <| .nil) ?_
  clear Hz Az; intro Az Hz
  obtain ⟨gx13, ox13, hp13, hl13, hrg13⟩ := h0.extN (k) hk
  cases hp13; clear hl13
  refine goCh Hz (.c rfl (fun _ h => y_idx h rfl rfl U46 fct14 (k) rfl hk) <| .loadAt1 (hrg13 m4 rfl) (q := 0) rfl rfl rfl U2 rfl <| .conv rfl U2 U111 (r := xs.getD k 0) (IntWalk.u64_in _ (by omega)) <| .nil) ?_
  clear Hz Az; intro Az Hz
  refine wpList_plain rfl (fun K hK => ?_)
  refine e_litN Hz m4 100 (k := .u64) rfl rfl U123 fct35 rfl rfl rfl rfl ?_
  clear Hz Az m4; intro g17 Az w18 Hz m18
  refine hK _ _ ?_; clear hK
  have m19 := m18.freezeN 100 rfl; clear m18
  refine wpList_plain rfl (fun K hK => ?_)
  refine e_call Hz Try.func62 rfl rfl rfl rfl (rput_x [xs.getD k 0] _ _ _ ((m19.rd (i := 100) rfl).any) (by simp) (one64 (by omega))) ?_
  rintro e w20 ⟨p20, c20, rfl, ho20, hb20⟩
  have m21 := m19.newN 101 hb20 ho20
  clear m19
  clear hb20 ho20
  refine ⟨_, rfl, ?_⟩; clear Hz Az; intro Az Hz
  refine hK _ _ ?_; clear hK
  refine wpList_plain rfl (fun K hK => ?_)
  refine e_appN Hz m21 9 rfl rfl rfl (m21.numsO (i := 101) rfl) U25 fct13 (by decide) (by rw [hbe]; have h8 := encs_len (xs.take k); rw [List.length_take] at h8; have h9 := encs_len [xs.getD k 0]; rw [List.length_singleton] at h9; omega) rfl ?_
  clear Hz Az m21; intro p23 c23 Az w24 Hz m24
  refine hK _ _ ?_; clear hK
  refine goCh Hz (.assign rfl .nil) ?_
  clear Hz Az; intro Az Hz
  refine nl (hK2 _ _ ?_); clear hK2
  replace Hz : Has 21 [(0, _), (3, _), (4, _)] Az := Hz.only [0, 3, 4]
  refine wp_region_lit ?_
  refine goCh Hz (.move rfl <| .add rfl rfl (r := ((k + 1 : Nat) : Int)) (by rw [IntWalk.i64_in _ (by omega)]; omega) <| .assign rfl <| .nil) ?_
  clear Hz Az; intro Az Hz
  refine wpList_nil ?_
  show ∃ n', n' < _ ∧ _
  exact ⟨xs.length - (k + 1), by omega, k + 1, _, _, _, by omega, rfl, by rw [encs_snoc _ _ hk, ← hbe, encs_one], Hz.only [0, 3, 4], m24.only [9]⟩
 clear Hz; intro hb9 Hz; try simp only [QQ, Qax] at hb9
 obtain rfl : k = xs.length := by omega
 refine wp_cond_false (Hz.ev (x := .tmp 8) rfl) ?_
 refine wp_exit ?_
 refine hK0 _ _ ?_; clear hK0
 refine regS Hz (.move rfl <| .assign rfl <| .nil) ?_
 clear Hz Az; intro Az Hz
 refine wp_ret ?_
 try dsimp only [Exit.then, Exit.inBlock]
 refine (ret1 (fn := Try.f40) Hz rfl rfl ?_)
 rw [List.take_length] at hbe
 subst hbe
 exact ⟨_, _, rfl, m4.ok 9 _ rfl, m4.below⟩
theorem rnums13x (xs : List Int) (q : Option Addr) (cq : Nat) (w0 : World) (h0 : Rd (fun _ => True) w0 (.slice q xs.length cq) (.ns .i64 xs)) (hl : xs.length ≤ 1000000) (hxb : ∀ k, k < xs.length → 0 ≤ xs.getD k 0 ∧ xs.getD k 0 ≤ 9223372036854775807) :
   Calls Try.prog 63 #[.slice q xs.length cq] w0 fun e w' => ∃ (p : Option Addr) (c : Nat), e = .returned (.slice p (encs xs).length c) ∧ w'.ownsRow w0.heap.size 5 1 (.slice p (encs xs).length c) (encs xs).length ((encs xs).map (Value.int .u8)) ∧ Below w0.heap.size w0 w' := by
 refine ent1 Try.func63 rfl Try.ntmps63 fun Az Hz => ?_
 have m0 := MemOk.start (fun _ => False) w0
 refine regS Hz (.assign rfl <| .nil) ?_
 clear Hz Az; intro Az Hz
 refine regS Hz (.assign rfl <| .nil) ?_
 clear Hz Az; intro Az Hz
 refine wp_seq_k (fun K0 hK0 => ?_)
 refine regS Hz (.assign rfl <| .nil) ?_
 clear Hz Az; intro Az Hz
 refine wp_block ?_
 refine wp_loop_ghost (fun g a w => ∃ (k : Nat) (b : List Int) (p : Option Addr) (c : Nat), k ≤ xs.length ∧ g = xs.length - k ∧ b = encs (xs.take k) ∧ Has 21 [(0, .slice q xs.length cq), (3, .slice p b.length c), (4, .int .i64 k)] a ∧ MemOk (cn w0) w0 [(9, .num (.slice p b.length c) 5 .u8 b)] w) (xs.length) ?_ ?_
 · have mz := m0.nilN 9 5 .u8
   exact ⟨0, [], _, _, Nat.zero_le _, rfl, rfl, Hz.only [0, 3, 4], mz.only [9]⟩
 clear Hz m0
 rintro g Az w4 ⟨k, b, p, c, hkl, hg, hbe, Hz, m4⟩
 refine wp_seq_k (fun K1 hK1 => ?_)
 refine regS Hz (.move rfl <| .move rfl <| .len rfl U46 <| .lss rfl rfl <| .nil) ?_
 clear Hz Az; intro Az Hz
 refine bool_cases Hz (t := 8) rfl ?_ ?_
 ·
  clear Hz; intro hb9 Hz; try simp only [QQ, Qax] at hb9
  have hk : k < xs.length := by omega
  have hxk := hxb k hk
  refine wp_cond_true (Hz.ev (x := .tmp 8) rfl) ?_
  refine ss (hK1 _ _ ?_); clear hK1
  refine wp_seq_k (fun K2 hK2 => ?_)
  refine wp_block ?_
  refine wp_region_lit ?_
  refine goCh Hz (.move rfl <| .move rfl <| .move rfl <| .nil) ?_
  clear Hz Az; intro Az Hz
  obtain ⟨gx13, ox13, hp13, hl13, hrg13⟩ := h0.extN (k) hk
  cases hp13; clear hl13
  refine goCh Hz (.c rfl (fun _ h => y_idx h rfl rfl U46 fct14 (k) rfl hk) <| .loadAt1 (hrg13 m4 rfl) (q := 0) rfl rfl rfl U2 rfl <| .conv rfl U2 U111 (r := xs.getD k 0) (IntWalk.u64_in _ (by omega)) <| .nil) ?_
  clear Hz Az; intro Az Hz
  refine wpList_plain rfl (fun K hK => ?_)
  refine e_litN Hz m4 100 (k := .u64) rfl rfl U123 fct35 rfl rfl rfl rfl ?_
  clear Hz Az m4; intro g17 Az w18 Hz m18
  refine hK _ _ ?_; clear hK
  have m19 := m18.freezeN 100 rfl; clear m18
  refine wpList_plain rfl (fun K hK => ?_)
  refine e_call Hz Try.func62 rfl rfl rfl rfl (rput_x [xs.getD k 0] _ _ _ ((m19.rd (i := 100) rfl).any) (by simp) (one64 (by omega))) ?_
  rintro e w20 ⟨p20, c20, rfl, ho20, hb20⟩
  have m21 := m19.newN 101 hb20 ho20
  clear m19
  clear hb20 ho20
  refine ⟨_, rfl, ?_⟩; clear Hz Az; intro Az Hz
  refine hK _ _ ?_; clear hK
  refine wpList_plain rfl (fun K hK => ?_)
  refine e_appN Hz m21 9 rfl rfl rfl (m21.numsO (i := 101) rfl) U25 fct13 (by decide) (by rw [hbe]; have h8 := encs_len (xs.take k); rw [List.length_take] at h8; have h9 := encs_len [xs.getD k 0]; rw [List.length_singleton] at h9; omega) rfl ?_
  clear Hz Az m21; intro p23 c23 Az w24 Hz m24
  refine hK _ _ ?_; clear hK
  refine goCh Hz (.assign rfl .nil) ?_
  clear Hz Az; intro Az Hz
  refine nl (hK2 _ _ ?_); clear hK2
  replace Hz : Has 21 [(0, _), (3, _), (4, _)] Az := Hz.only [0, 3, 4]
  refine wp_region_lit ?_
  refine goCh Hz (.move rfl <| .add rfl rfl (r := ((k + 1 : Nat) : Int)) (by rw [IntWalk.i64_in _ (by omega)]; omega) <| .assign rfl <| .nil) ?_
  clear Hz Az; intro Az Hz
  refine wpList_nil ?_
  show ∃ n', n' < _ ∧ _
  exact ⟨xs.length - (k + 1), by omega, k + 1, _, _, _, by omega, rfl, by rw [encs_snoc _ _ hk, ← hbe, encs_one], Hz.only [0, 3, 4], m24.only [9]⟩
 clear Hz; intro hb9 Hz; try simp only [QQ, Qax] at hb9
 obtain rfl : k = xs.length := by omega
 refine wp_cond_false (Hz.ev (x := .tmp 8) rfl) ?_
 refine wp_exit ?_
 refine hK0 _ _ ?_; clear hK0
 refine regS Hz (.move rfl <| .assign rfl <| .nil) ?_
 clear Hz Az; intro Az Hz
 refine wp_ret ?_
 try dsimp only [Exit.then, Exit.inBlock]
 refine (ret1 (fn := Try.f63) Hz rfl rfl ?_)
 rw [List.take_length] at hbe
 subst hbe
 exact ⟨_, _, rfl, m4.ok 9 _ rfl, m4.below⟩
theorem rlump_x (xs : List Int) (q : Option Addr) (cq : Nat) (w0 : World) (h0 : Rd (fun _ => True) w0 (.slice q xs.length cq) (.ns .u8 xs)) (hl : xs.length ≤ 1000000) :
   Calls Try.prog 64 #[.slice q xs.length cq] w0 fun e w' => ∃ (p : Option Addr) (c : Nat), e = .returned (.slice p (enc xs.length ++ xs).length c) ∧ w'.ownsRow w0.heap.size 5 1 (.slice p (enc xs.length ++ xs).length c) (enc xs.length ++ xs).length ((enc xs.length ++ xs).map (Value.int .u8)) ∧ Below w0.heap.size w0 w' := by
 refine ent1 Try.func64 rfl Try.ntmps64 fun Az Hz => ?_
 have m0 := MemOk.start (fun _ => False) w0
 refine regS Hz (.assign rfl <| .nil) ?_
 clear Hz Az; intro Az Hz
 refine sr fun K0 hK0 => ?_
 refine goCh Hz (.move rfl <| .len rfl U25 <| .conv rfl U3 U111 (r := (xs.length : Int)) (IntWalk.u64_in _ (by omega)) <| .nil) ?_
 clear Hz Az; intro Az Hz
 refine wpList_plain rfl (fun K hK => ?_)
 refine e_litN Hz m0 20 (k := .u64) rfl rfl U123 fct35 rfl rfl rfl rfl ?_
 clear Hz Az m0; intro g8 Az w9 Hz m9
 refine hK _ _ ?_; clear hK
 have m10 := m9.freezeN 20 rfl; clear m9
 refine wpList_plain rfl (fun K hK => ?_)
 refine e_call Hz Try.func62 rfl rfl rfl rfl (rput_x [(xs.length : Int)] _ _ _ ((m10.rd (i := 20) rfl).any) (by simp) (one64 (by omega))) ?_
 rintro e w11 ⟨p11, c11, rfl, ho11, hb11⟩
 have m12 := m10.newN 21 hb11 ho11
 clear m10
 clear hb11 ho11
 refine ⟨_, rfl, ?_⟩; clear Hz Az; intro Az Hz
 refine hK _ _ ?_; clear hK
 refine goCh Hz (.move rfl .nil) ?_
 clear Hz Az; intro Az Hz
 refine wpList_plain rfl (fun K hK => ?_)
 refine e_appN Hz m12 21 rfl rfl rfl (h0.now' m12 rfl).ns_out.nums U25 fct13 (by decide) (by have h9 := encs_len [(xs.length : Int)]; rw [List.length_singleton] at h9; omega) rfl ?_
 clear Hz Az m12; intro p15 c15 Az w16 Hz m16
 refine hK _ _ ?_; clear hK
 refine goCh Hz (.assign rfl .nil) ?_
 clear Hz Az; intro Az Hz
 refine nl (hK0 _ _ ?_); clear hK0
 refine wp_ret ?_
 try dsimp only [Exit.then, Exit.inBlock]
 refine (ret1 (fn := Try.f64) Hz rfl rfl ?_)
 have hE : encs [(xs.length : Int)] ++ xs = enc xs.length ++ xs := by rw [encs_one]
 rw [hE] at m16
 exact ⟨_, _, by rw [hE], m16.ok 21 _ rfl, m16.below⟩
theorem rplace_x (xs : List Int) (q : Option Addr) (cq : Nat) (w0 : World) (h0 : Rd (fun _ => True) w0 (.slice q xs.length cq) (.ns .i64 xs)) (hl : xs.length ≤ 1000000) (hxb : ∀ k, k < xs.length → 0 ≤ xs.getD k 0 ∧ xs.getD k 0 ≤ 9223372036854775807) :
   Calls Try.prog 41 #[.slice q xs.length cq] w0 fun e w' => ∃ (p : Option Addr) (c : Nat), e = .returned (.slice p (encs ((xs.length : Int) :: xs)).length c) ∧ w'.ownsRow w0.heap.size 5 1 (.slice p (encs ((xs.length : Int) :: xs)).length c) (encs ((xs.length : Int) :: xs)).length ((encs ((xs.length : Int) :: xs)).map (Value.int .u8)) ∧ Below w0.heap.size w0 w' := by
 refine ent1 Try.func41 rfl Try.ntmps41 fun Az Hz => ?_
 have m0 := MemOk.start (fun _ => False) w0
 refine regS Hz (.assign rfl <| .nil) ?_
 clear Hz Az; intro Az Hz
 refine sr fun K0 hK0 => ?_
 refine goCh Hz (.move rfl <| .len rfl U26 <| .nil) ?_
 clear Hz Az; intro Az Hz
 refine wpList_plain rfl (fun K hK => ?_)
 refine e_litN Hz m0 20 (k := .i64) rfl rfl U46 fct12 rfl rfl rfl rfl ?_
 clear Hz Az m0; intro g6 Az w7 Hz m7
 refine hK _ _ ?_; clear hK
 have m8 := m7.freezeN 20 rfl; clear m7
 refine wpList_plain rfl (fun K hK => ?_)
 refine e_call Hz Try.func40 rfl rfl rfl rfl (rnums16x [(xs.length : Int)] _ _ _ ((m8.rd (i := 20) rfl).any) (by simp) (one63 (by omega))) ?_
 rintro e w9 ⟨p9, c9, rfl, ho9, hb9⟩
 have m10 := m8.newN 21 hb9 ho9
 clear m8
 clear hb9 ho9
 refine ⟨_, rfl, ?_⟩; clear Hz Az; intro Az Hz
 refine hK _ _ ?_; clear hK
 refine goCh Hz (.assign rfl .nil) ?_
 clear Hz Az; intro Az Hz
 refine nl (hK0 _ _ ?_); clear hK0
 refine wp_seq_k (fun K1 hK1 => ?_)
 refine regS Hz (.assign rfl <| .nil) ?_
 clear Hz Az; intro Az Hz
 refine wp_block ?_
 refine wp_loop_ghost (fun g a w => ∃ (k : Nat) (b : List Int) (p : Option Addr) (c : Nat), k ≤ xs.length ∧ g = xs.length - k ∧ b = encs ((xs.length : Int) :: xs.take k) ∧ Has 24 [(0, .slice q xs.length cq), (3, .slice p b.length c), (4, .int .i64 k)] a ∧ MemOk (cn w0) w0 [(9, .num (.slice p b.length c) 5 .u8 b)] w) (xs.length) ?_ ?_
 · exact ⟨0, _, _, _, Nat.zero_le _, rfl, by simp, Hz.only [0, 3, 4], m10.ren [(9, 21)] (by decide)⟩
 clear Hz m10
 rintro g Az w14 ⟨k, b, p, c, hkl, hg, hbe, Hz, m14⟩
 refine wp_seq_k (fun K2 hK2 => ?_)
 refine regS Hz (.move rfl <| .move rfl <| .len rfl U26 <| .lss rfl rfl <| .nil) ?_
 clear Hz Az; intro Az Hz
 refine bool_cases Hz (t := 12) rfl ?_ ?_
 ·
  clear Hz; intro hb19 Hz; try simp only [QQ, Qax] at hb19
  have hk : k < xs.length := by omega
  have hxk := hxb k hk
  refine wp_cond_true (Hz.ev (x := .tmp 12) rfl) ?_
  refine ss (hK2 _ _ ?_); clear hK2
  refine wp_seq_k (fun K3 hK3 => ?_)
  refine wp_block ?_
  refine wp_region_lit ?_
  refine goCh Hz (.move rfl <| .move rfl <| .move rfl <| .nil) ?_
  clear Hz Az; intro Az Hz
  obtain ⟨gx23, ox23, hp23, hl23, hrg23⟩ := h0.extN (k) hk
  cases hp23; clear hl23
  refine goCh Hz (.c rfl (fun _ h => y_idx h rfl rfl U26 fct9 (k) rfl hk) <| .loadAt1 (hrg23 m14 rfl) (q := 0) rfl rfl rfl U3 rfl <| .nil) ?_
  clear Hz Az; intro Az Hz
  refine wpList_plain rfl (fun K hK => ?_)
  refine e_litN Hz m14 100 (k := .i64) rfl rfl U46 fct12 rfl rfl rfl rfl ?_
  clear Hz Az m14; intro g26 Az w27 Hz m27
  refine hK _ _ ?_; clear hK
  have m28 := m27.freezeN 100 rfl; clear m27
  refine wpList_plain rfl (fun K hK => ?_)
  refine e_call Hz Try.func40 rfl rfl rfl rfl (rnums16x [xs.getD k 0] _ _ _ ((m28.rd (i := 100) rfl).any) (by simp) (one63 (by omega))) ?_
  rintro e w29 ⟨p29, c29, rfl, ho29, hb29⟩
  have m30 := m28.newN 101 hb29 ho29
  clear m28
  clear hb29 ho29
  refine ⟨_, rfl, ?_⟩; clear Hz Az; intro Az Hz
  refine hK _ _ ?_; clear hK
  refine wpList_plain rfl (fun K hK => ?_)
  refine e_appN Hz m30 9 rfl rfl rfl (m30.numsO (i := 101) rfl) U25 fct13 (by decide) (by rw [hbe]; have h8 := encs_len ((xs.length : Int) :: xs.take k); simp only [List.length_cons, List.length_take] at h8; have h9 := encs_len [xs.getD k 0]; rw [List.length_singleton] at h9; omega) rfl ?_
  clear Hz Az m30; intro p32 c32 Az w33 Hz m33
  refine hK _ _ ?_; clear hK
  refine goCh Hz (.assign rfl .nil) ?_
  clear Hz Az; intro Az Hz
  refine nl (hK3 _ _ ?_); clear hK3
  replace Hz : Has 24 [(0, _), (3, _), (4, _)] Az := Hz.only [0, 3, 4]
  refine wp_region_lit ?_
  refine goCh Hz (.move rfl <| .add rfl rfl (r := ((k + 1 : Nat) : Int)) (by rw [IntWalk.i64_in _ (by omega)]; omega) <| .assign rfl <| .nil) ?_
  clear Hz Az; intro Az Hz
  refine wpList_nil ?_
  show ∃ n', n' < _ ∧ _
  exact ⟨xs.length - (k + 1), by omega, k + 1, _, _, _, by omega, rfl, by rw [hbe, encs_cons _ (xs.take k), encs_cons _ (xs.take (k + 1)), encs_snoc _ _ hk, encs_one, List.append_assoc], Hz.only [0, 3, 4], m33.only [9]⟩
 clear Hz; intro hb19 Hz; try simp only [QQ, Qax] at hb19
 obtain rfl : k = xs.length := by omega
 refine wp_cond_false (Hz.ev (x := .tmp 12) rfl) ?_
 refine wp_exit ?_
 refine hK1 _ _ ?_; clear hK1
 refine regS Hz (.move rfl <| .assign rfl <| .nil) ?_
 clear Hz Az; intro Az Hz
 refine wp_ret ?_
 try dsimp only [Exit.then, Exit.inBlock]
 refine (ret1 (fn := Try.f41) Hz rfl rfl ?_)
 rw [List.take_length] at hbe
 subst hbe
 exact ⟨_, _, rfl, m14.ok 9 _ rfl, m14.below⟩
theorem rputItems_x (es : List (Int × List Int)) (q : Option Addr) (nn cq : Nat) (w0 : World) (h0 : Rd (fun _ => True) w0 (.slice q nn cq) (.l 2 (es.map itD))) (hl : es.length ≤ 10000) (hok : ∀ e ∈ es, (0 ≤ e.1 ∧ e.1 ≤ 9223372036854775807) ∧ e.2.length ≤ 1000) :
   Calls Try.prog 42 #[.slice q nn cq] w0 fun e w' => ∃ (p : Option Addr) (c : Nat), e = .returned (.slice p (enc es.length ++ itemsE es).length c) ∧ w'.ownsRow w0.heap.size 5 1 (.slice p (enc es.length ++ itemsE es).length c) (enc es.length ++ itemsE es).length ((enc es.length ++ itemsE es).map (Value.int .u8)) ∧ Below w0.heap.size w0 w' := by
 obtain rfl : nn = es.length := by obtain ⟨pq, c9, hv, _⟩ := h0.l_shape; injection hv with _ e2 _; rw [List.length_map] at e2; exact e2
 refine ent1 Try.func42 rfl Try.ntmps42 fun Az Hz => ?_
 have m0 := MemOk.start (fun _ => False) w0
 refine regS Hz (.assign rfl <| .nil) ?_
 clear Hz Az; intro Az Hz
 refine sr fun K0 hK0 => ?_
 refine goCh Hz (.move rfl <| .len rfl U22 <| .nil) ?_
 clear Hz Az; intro Az Hz
 refine wpList_plain rfl (fun K hK => ?_)
 refine e_litN Hz m0 20 (k := .i64) rfl rfl U46 fct12 rfl rfl rfl rfl ?_
 clear Hz Az m0; intro g6 Az w7 Hz m7
 refine hK _ _ ?_; clear hK
 have m8 := m7.freezeN 20 rfl; clear m7
 refine wpList_plain rfl (fun K hK => ?_)
 refine e_call Hz Try.func63 rfl rfl rfl rfl (rnums13x [(es.length : Int)] _ _ _ ((m8.rd (i := 20) rfl).any) (by simp) (one63 (by omega))) ?_
 rintro e w9 ⟨p9, c9, rfl, ho9, hb9⟩
 have m10 := m8.newN 21 hb9 ho9
 clear m8
 clear hb9 ho9
 refine ⟨_, rfl, ?_⟩; clear Hz Az; intro Az Hz
 refine hK _ _ ?_; clear hK
 refine goCh Hz (.assign rfl .nil) ?_
 clear Hz Az; intro Az Hz
 refine nl (hK0 _ _ ?_); clear hK0
 refine wp_seq_k (fun K1 hK1 => ?_)
 refine regS Hz (.assign rfl <| .nil) ?_
 clear Hz Az; intro Az Hz
 refine wp_block ?_
 refine wp_loop_ghost (fun g a w => ∃ (k : Nat) (b : List Int) (p : Option Addr) (c : Nat), k ≤ es.length ∧ g = es.length - k ∧ b = enc es.length ++ itemsE (es.take k) ∧ Has 32 [(0, .slice q es.length cq), (3, .slice p b.length c), (4, .int .i64 k)] a ∧ MemOk (cn w0) w0 [(9, .num (.slice p b.length c) 5 .u8 b)] w) (es.length) ?_ ?_
 · exact ⟨0, _, _, _, Nat.zero_le _, rfl, by rw [encs_one]; simp [itemsE], Hz.only [0, 3, 4], m10.ren [(9, 21)] (by decide)⟩
 clear Hz m10
 rintro g Az w14 ⟨k, b, p, c, hkl, hg, hbe, Hz, m14⟩
 refine wp_seq_k (fun K2 hK2 => ?_)
 refine regS Hz (.move rfl <| .move rfl <| .len rfl U22 <| .lss rfl rfl <| .nil) ?_
 clear Hz Az; intro Az Hz
 refine bool_cases Hz (t := 12) rfl ?_ ?_
 ·
  clear Hz; intro hb19 Hz; try simp only [QQ, Qax] at hb19
  have hk : k < es.length := by omega
  obtain ⟨⟨xb, xd⟩, hes⟩ : ∃ e, es[k]? = some e := ⟨_, List.getElem?_eq_getElem hk⟩
  have hed := hok _ (List.mem_of_getElem? hes)
  dsimp only at hed
  refine wp_cond_true (Hz.ev (x := .tmp 12) rfl) ?_
  refine ss (hK2 _ _ ?_); clear hK2
  refine wp_seq_k (fun K3 hK3 => ?_)
  refine wp_block ?_
  obtain ⟨gx21, ox21, vx21, hp21, hl21, hR21, hrg21⟩ := h0.extA (k) (r := [.v (.int .i64 xb), .ns .u8 xd]) (itD_get hes)
  cases hp21; clear hl21
  rcases hR21 with _ | ⟨hd21_0, _ | ⟨hd21_1, _ | _⟩⟩
  obtain rfl := hd21_0.v_out
  clear hd21_0
  obtain ⟨p22, c22, hv22, hw22⟩ := hd21_1.ns_shape; subst hv22
  obtain ⟨gx24, ox24, vx24, hp24, hl24, hR24, hrg24⟩ := h0.extA (k) (r := [.v (.int .i64 xb), .ns .u8 xd]) (itD_get hes)
  cases hp24; clear hl24
  rcases hR24 with _ | ⟨hd24_0, _ | ⟨hd24_1, _ | _⟩⟩
  obtain rfl := hd24_0.v_out
  clear hd24_0
  obtain ⟨p25, c25, hv25, hw25⟩ := hd24_1.ns_shape; subst hv25
  have m26 : MemOk _ _ [(9, _)] _ := m14.only [9]; clear m14
  refine region_p 17 (B := []) (m26.to trivial) m26 (by kernel_rfl) (fun w27 hP27 m27 => ?_); clear m26
  refine goR hP27 [0, 1, 2, 3, 4, 5, 9, 10, 11, 12, 13] [5, 13] 11 0 15935 Hz (m27.to trivial) (.move rfl <| .move rfl <| .move rfl <| .p (fun _ _ h => y_idx h rfl rfl U22 fct10 (k) rfl hk) <| .fieldAddrQ 0 rfl U29 rfl (s := 0) (by kernel_rfl) rfl <| .loadAt1 (fun _ h => (hrg21 h rfl)) (q := 0) rfl rfl rfl U3 rfl <| .move rfl <| .move rfl <| .p (fun _ _ h => y_idx h rfl rfl U22 fct10 (k) rfl hk) <| .fieldAddrQ 1 rfl U29 rfl (s := 0) (by kernel_rfl) rfl <| .loadAt1 (fun _ h => (hrg24 h rfl)) (q := 1) rfl rfl rfl U25 rfl <| .nil) ?_
  clear Hz Az; intro Az Hz
  refine stepE_only 6 rfl (by kernel_rfl) rfl (fun K hK => ?_)
  refine e_litN Hz m27 102 (k := .i64) rfl rfl U46 fct12 rfl rfl rfl rfl ?_
  clear Hz Az m27; intro g39 Az w40 Hz m40
  refine hK _ _ (m40.to trivial) ?_; clear hK K
  have m41 := m40.freezeN 102 rfl; clear m40
  refine stepE_only 7 rfl (by kernel_rfl) rfl (fun K hK => ?_)
  refine e_call Hz Try.func63 rfl rfl rfl rfl (rnums13x [xb] _ _ _ ((m41.rd (i := 102) rfl).any) (by simp) (one63 (by omega))) ?_
  rintro e w42 ⟨p42, c42, rfl, ho42, hb42⟩
  have m43 := m41.newN 103 hb42 ho42
  clear m41
  clear hb42 ho42
  refine ⟨_, rfl, ?_⟩; clear Hz Az; intro Az Hz
  refine hK _ _ (m43.to trivial) ?_; clear hK K
  refine stepE_only 8 rfl (by kernel_rfl) rfl (fun K hK => ?_)
  refine e_appN Hz m43 9 rfl rfl rfl (m43.numsO (i := 103) rfl) U25 fct13 (by decide) (by rw [hbe]; have h8 := itemsE_len (es.take k) (fun e he => (hok e (List.mem_of_mem_take he)).2); rw [List.length_take] at h8; have h9 := encs_len [xb]; rw [List.length_singleton] at h9; have h7 := (enc_len es.length).1; have h6 := (enc_len xd.length).1; simp only [List.length_append]; omega) rfl ?_
  clear Hz Az m43; intro p45 c45 Az w46 Hz m46
  refine hK _ _ (m46.to trivial) ?_; clear hK K
  refine stepE_only 14 rfl (by kernel_rfl) rfl (fun K hK => ?_)
  refine e_call Hz Try.func64 rfl rfl rfl rfl (rlump_x xd _ _ _ ((hd24_1.now' m46 rfl).any) (by omega)) ?_
  rintro e w47 ⟨p47, c47, rfl, ho47, hb47⟩
  have m48 := m46.newN 104 hb47 ho47
  clear m46
  clear hb47 ho47
  refine ⟨_, rfl, ?_⟩; clear Hz Az; intro Az Hz
  refine hK _ _ (m48.to trivial) ?_; clear hK K
  refine stepE_only 15 rfl (by kernel_rfl) rfl (fun K hK => ?_)
  refine e_appN Hz m48 9 rfl rfl rfl (m48.numsO (i := 104) rfl) U25 fct13 (by decide) (by rw [hbe]; have h8 := itemsE_len (es.take k) (fun e he => (hok e (List.mem_of_mem_take he)).2); rw [List.length_take] at h8; have h9 := encs_len [xb]; rw [List.length_singleton] at h9; have h7 := (enc_len es.length).1; have h6 := (enc_len xd.length).1; simp only [List.length_append]; omega) rfl ?_
  clear Hz Az m48; intro p50 c50 Az w51 Hz m51
  refine hK _ _ (m51.to trivial) ?_; clear hK K
  refine goA hP27 [16] 1 65535 131071 Hz (m51.to trivial) (.assign rfl <| .nil) ?_
  clear Hz Az; intro Az Hz
  refine wpAnyE_done (by kernel_rfl) ?_ _
  refine hK3 _ _ ?_; clear hK3
  replace Hz : Has 32 [(0, _), (3, _), (4, _)] Az := Hz.only [0, 3, 4]
  refine wp_region_lit ?_
  refine goCh Hz (.move rfl <| .add rfl rfl (r := ((k + 1 : Nat) : Int)) (by rw [IntWalk.i64_in _ (by omega)]; omega) <| .assign rfl <| .nil) ?_
  clear Hz Az; intro Az Hz
  refine wpList_nil ?_
  show ∃ n', n' < _ ∧ _
  exact ⟨es.length - (k + 1), by omega, k + 1, _, _, _, by omega, rfl, by rw [hbe, itemsE_snoc hes, encs_one]; simp only [itemE, List.append_assoc], Hz.only [0, 3, 4], m51.only [9]⟩
 clear Hz; intro hb19 Hz; try simp only [QQ, Qax] at hb19
 obtain rfl : k = es.length := by omega
 refine wp_cond_false (Hz.ev (x := .tmp 12) rfl) ?_
 refine wp_exit ?_
 refine hK1 _ _ ?_; clear hK1
 refine regS Hz (.move rfl <| .assign rfl <| .nil) ?_
 clear Hz Az; intro Az Hz
 refine wp_ret ?_
 try dsimp only [Exit.then, Exit.inBlock]
 refine (ret1 (fn := Try.f42) Hz rfl rfl ?_)
 rw [List.take_length] at hbe
 subst hbe
 exact ⟨_, _, rfl, m14.ok 9 _ rfl, m14.below⟩
end Go.Proofs.Ytkdnhndjjfjppaa.K
