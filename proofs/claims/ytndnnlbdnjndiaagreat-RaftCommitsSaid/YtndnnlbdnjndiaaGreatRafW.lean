/- raft: begin, count. -/
import Derived.Test.YtndnnlbdnjndiaaGreatRafV
namespace Go.Proofs.YtndnnlbdnjndiaaGreat.K
open Go.ChangeShapes Go.WideShapes Go.ChangeAt Go.RowKit
set_option linter.unusedVariables false
set_option linter.unusedSimpArgs false

theorem ps84rbe : placesS Tryz.prog 84 = some [(0, 1), (1, 7), (8, 7)] := by kernel_rfl
theorem sz3rbe : (Tryz.prog.info? 3).map (·.size) = some 1 := by kernel_rfl
theorem sz84rbe : (Tryz.prog.info? 84).map (·.size) = some 15 := by kernel_rfl
theorem zc84rbe : ((Tryz.prog.info? 84).bind (·.zero)).map (·.cells.toList) = some [.int .i64 0, .int .i64 0, .int .i64 0, .int .i64 0, .int .i64 0, .int .i64 0, .int .i64 0, .int .i64 0, .int .i64 0, .int .i64 0, .int .i64 0, .int .i64 0, .int .i64 0, .int .i64 0, .int .i64 0] := by kernel_rfl
theorem inf3rco : (Tryz.prog.info? 3).map (fun i => (i.zero, i.size, i.bytes)) = some (some (.int .i64 0), 1, 8) := by kernel_rfl
theorem sz3rco : (Tryz.prog.info? 3).map (·.size) = some 1 := by kernel_rfl

def begK (x : RV) (last : Int) : Nat → RV
 | 0 => { x with be := 0, n0 := 0, n1 := 0, n2 := 0, n3 := 0, n4 := 0, n5 := 0, n6 := 0, m0 := 0, m1 := 0, m2 := 0, m3 := 0, m4 := 0, m5 := 0, m6 := 0 }
 | k + 1 => setN (begK x last k) k (last + 1)
theorem memS_len7 (s : RS) : (memS s).length ≤ 7 := canon_len _
theorem matchL_len (s : RS) : (matchL s).length = (memS s).length := List.length_map _
theorem termsL_len (s : RS) : (termsL s).length = (lastS s - s.x.co).toNat := by simp [termsL]
theorem lastS_bd (s : RS) (hb : RLS s) : -1000000000000000 ≤ lastS s ∧ lastS s ≤ 1000000000100000 := by
 have h1 := hb.b; have h2 := hb.n
 show -1000000000000000 ≤ s.bi + (s.es.length : Int) ∧ s.bi + (s.es.length : Int) ≤ 1000000000100000
 omega
theorem match_self (s : RS) {k : Nat} (h : k < (memS s).length) (he : (memS s).getD k 0 = s.x.id) : (matchL s).take k ++ [lastS s] = (matchL s).take (k + 1) := by
 have h2 : k < (matchL s).length := by rw [matchL_len]; exact h
 rw [take_getD h2]; congr 2
 rw [List.getD, List.getElem?_eq_getElem h] at he
 have he : (memS s)[k] = s.x.id := he
 simp [matchL, List.getD, List.getElem?_eq_getElem h, he]
theorem match_other (s : RS) {k : Nat} (h : k < (memS s).length) (he : ¬ (memS s).getD k 0 = s.x.id) {v : Int} (hv : mx s.x ((memS s).getD k 0) = v) : (matchL s).take k ++ [v] = (matchL s).take (k + 1) := by
 have h2 : k < (matchL s).length := by rw [matchL_len]; exact h
 rw [take_getD h2]; congr 2
 rw [List.getD, List.getElem?_eq_getElem h] at he hv
 have he : ¬ (memS s)[k] = s.x.id := he
 have hv : mx s.x (memS s)[k] = v := hv
 simp [matchL, List.getD, List.getElem?_eq_getElem h, he, hv]
theorem terms_step (s : RS) {k : Nat} (h : k < (termsL s).length) : (termsL s).take k ++ [termS s (s.x.co + 1 + (k : Int))] = (termsL s).take (k + 1) := by
 rw [take_getD h]; congr 2
 have h2 : k < (lastS s - s.x.co).toNat := by rw [← termsL_len]; exact h
 simp [termsL, List.getD, h2]
theorem co_zero (s : RS) : s.x.co + 1 = s.x.co + 1 + ((0 : Nat) : Int) := by simp
set_option maxRecDepth 100000
set_option maxHeartbeats 4000000
theorem rbegin_x (X : Cx) (R L : Nat) (x : RV) (ys ms rs : Value) (re : Bool) (last : Int) (w0 : World) (hl : -2000000000000000 ≤ last ∧ last ≤ 2000000000000000) (m0 : MemOk X w0 [(1, .box R 86 (raC x L ys ms rs re))] w0) :
   Calls Tryz.prog 152 #[.pointer (some ⟨R, 5, none⟩), .int .i64 last] w0 fun e w' => e = .returned (.tuple #[]) ∧ MemOk X w0 [(1, .box R 86 (raC (begX x last) L ys ms rs re))] w' := by
 refine enter (fn := Tryz.f152) Tryz.func152 rfl Tryz.ntmps152 rfl (fun Az Hz => ?_)
 simp only [List.zipIdx_cons, List.zipIdx_nil, List.map_cons, List.map_nil, Nat.reduceAdd, Nat.zero_add] at Hz
 refine wp_seq_k (fun K0 hK0 => ?_)
 refine wp_region_lit ?_
 refine goCh Hz (.move rfl <| .buildG rfl zc84rbe ps84rbe rfl <| .nilCheck rfl <| .nil) ?_
 clear Hz Az; intro Az Hz
 refine wpList_plain rfl (fun K hK => ?_)
 refine e_storeR Hz m0 1 rfl rfl rfl rfl rfl sz84rbe (by dsimp only [List.take, List.drop, List.append_eq, List.append] <;> rfl) ?_
 clear m0; intro w7 m7 hB7
 clear hB7
 refine hK _ _ ?_; clear hK K
 refine wpList_nil ?_
 refine hK0 _ _ ?_; clear hK0; try clear K0
 refine regS Hz (.move rfl <| .nil) ?_
 clear Hz Az; intro Az Hz
 refine wp_block ?_
 refine wp_loop_ghost (fun g a w => ∃ (k : Nat), k ≤ 7 ∧ g = 7 - k ∧ Has 19 [(0, .pointer (some ⟨R, 5, none⟩)), (1, .int .i64 last), (8, .int .i64 (k : Nat))] a ∧ MemOk X w0 [(1, .box R 86 (raC (begK x last k) L ys ms rs re))] w) (7) ?_ ?_
 · exact ⟨0, Nat.zero_le _, rfl, Hz.only [0, 1, 8], m7.only [1]⟩
 ·
  clear Hz m7
  rintro g Az w9 ⟨k, hkl, hg, Hz, m9⟩
  refine regS Hz (.lss rfl rfl <| .nil) ?_
  clear Hz Az; intro Az Hz
  refine wp_seq_k (fun K1 hK1 => ?_)
  refine bool_cases Hz (t := 9) rfl ?_ ?_
  ·
   clear Hz; intro hb11 Hz
   try simp only [Q1x, Q2x, Q3x, Q4x, Q5x, Q6x, Q7x, Q8x, Q9x, Q0x, Qax, Qbx] at hb11
   have hk : k < 7 := by omega
   refine wp_cond_true (Hz.ev (x := .tmp 9) rfl) ?_
   refine wp_skip ?_
   refine hK1 _ _ ?_; clear hK1; try clear K1
   refine wp_seq_k (fun K2 hK2 => ?_)
   have hC2 : ∀ (a : Act) (w : World), (Has 19 [(0, .pointer (some ⟨R, 5, none⟩)), (1, .int .i64 last), (8, .int .i64 (k : Nat))] a ∧ MemOk X w0 [(1, .box R 86 (raC (begK x last (k + 1)) L ys ms rs re))] w) → K2 a w := by
     clear Hz m9
     rintro Az w12 ⟨Hz, m12⟩
     refine hK2 _ _ ?_; clear hK2; try clear K2
     refine wp_region_lit ?_
     refine goCh Hz (.add rfl rfl (r := ((k + 1 : Nat) : Int)) (by rw [IntWalk.i64_in _ (by omega)]; omega) <| .move rfl <| .nil) ?_
     clear Hz Az; intro Az Hz
     refine wpList_nil ?_
     show ∃ n', n' < _ ∧ _
     exact ⟨7 - (k + 1), by omega, k + 1, by omega, rfl, Hz.only [0, 1, 8], m12.only [1]⟩
   refine wp_block ?_
   refine regS Hz (.move rfl <| .assign rfl <| .nil) ?_
   clear Hz Az; intro Az Hz
   rcases (show k = 0 ∨ k = 1 ∨ k = 2 ∨ k = 3 ∨ k = 4 ∨ k = 5 ∨ k = 6 by omega) with hj | hj | hj | hj | hj | hj | hj
   ·
    subst hj
    refine wp_region_lit ?_
    refine goCh Hz (.move rfl <| .move rfl <| .move rfl <| .add rfl rfl (IntWalk.i64_in _ (by omega)) <| .nilCheck rfl <| .fieldAddr (off := 6) rfl Tryz.underlying84 rfl (s := 6) (by kernel_rfl) rfl <| .c rfl (fun _ h_ => y_idxA h_ rfl rfl Tryz.underlying82 sz3rbe 0 rfl (by decide) (off := 6) rfl) <| .nil) ?_
    clear Hz Az; intro Az Hz
    refine wpList_plain rfl (fun K hK => ?_)
    refine e_store1 Hz m9 1 rfl rfl rfl rfl rfl sz3rbe (by dsimp only [List.set] <;> rfl) ?_
    clear m9; intro w24 m24 hB24
    clear hB24
    refine hK _ _ ?_; clear hK K
    refine wpList_nil ?_
    show K2 _ _
    exact hC2 _ _ ⟨Hz.only [0, 1, 8], m24.only [1]⟩
   ·
    subst hj
    refine wp_region_lit ?_
    refine goCh Hz (.move rfl <| .move rfl <| .move rfl <| .add rfl rfl (IntWalk.i64_in _ (by omega)) <| .nilCheck rfl <| .fieldAddr (off := 6) rfl Tryz.underlying84 rfl (s := 6) (by kernel_rfl) rfl <| .c rfl (fun _ h_ => y_idxA h_ rfl rfl Tryz.underlying82 sz3rbe 1 rfl (by decide) (off := 7) rfl) <| .nil) ?_
    clear Hz Az; intro Az Hz
    refine wpList_plain rfl (fun K hK => ?_)
    refine e_store1 Hz m9 1 rfl rfl rfl rfl rfl sz3rbe (by dsimp only [List.set] <;> rfl) ?_
    clear m9; intro w32 m32 hB32
    clear hB32
    refine hK _ _ ?_; clear hK K
    refine wpList_nil ?_
    show K2 _ _
    exact hC2 _ _ ⟨Hz.only [0, 1, 8], m32.only [1]⟩
   ·
    subst hj
    refine wp_region_lit ?_
    refine goCh Hz (.move rfl <| .move rfl <| .move rfl <| .add rfl rfl (IntWalk.i64_in _ (by omega)) <| .nilCheck rfl <| .fieldAddr (off := 6) rfl Tryz.underlying84 rfl (s := 6) (by kernel_rfl) rfl <| .c rfl (fun _ h_ => y_idxA h_ rfl rfl Tryz.underlying82 sz3rbe 2 rfl (by decide) (off := 8) rfl) <| .nil) ?_
    clear Hz Az; intro Az Hz
    refine wpList_plain rfl (fun K hK => ?_)
    refine e_store1 Hz m9 1 rfl rfl rfl rfl rfl sz3rbe (by dsimp only [List.set] <;> rfl) ?_
    clear m9; intro w40 m40 hB40
    clear hB40
    refine hK _ _ ?_; clear hK K
    refine wpList_nil ?_
    show K2 _ _
    exact hC2 _ _ ⟨Hz.only [0, 1, 8], m40.only [1]⟩
   ·
    subst hj
    refine wp_region_lit ?_
    refine goCh Hz (.move rfl <| .move rfl <| .move rfl <| .add rfl rfl (IntWalk.i64_in _ (by omega)) <| .nilCheck rfl <| .fieldAddr (off := 6) rfl Tryz.underlying84 rfl (s := 6) (by kernel_rfl) rfl <| .c rfl (fun _ h_ => y_idxA h_ rfl rfl Tryz.underlying82 sz3rbe 3 rfl (by decide) (off := 9) rfl) <| .nil) ?_
    clear Hz Az; intro Az Hz
    refine wpList_plain rfl (fun K hK => ?_)
    refine e_store1 Hz m9 1 rfl rfl rfl rfl rfl sz3rbe (by dsimp only [List.set] <;> rfl) ?_
    clear m9; intro w48 m48 hB48
    clear hB48
    refine hK _ _ ?_; clear hK K
    refine wpList_nil ?_
    show K2 _ _
    exact hC2 _ _ ⟨Hz.only [0, 1, 8], m48.only [1]⟩
   ·
    subst hj
    refine wp_region_lit ?_
    refine goCh Hz (.move rfl <| .move rfl <| .move rfl <| .add rfl rfl (IntWalk.i64_in _ (by omega)) <| .nilCheck rfl <| .fieldAddr (off := 6) rfl Tryz.underlying84 rfl (s := 6) (by kernel_rfl) rfl <| .c rfl (fun _ h_ => y_idxA h_ rfl rfl Tryz.underlying82 sz3rbe 4 rfl (by decide) (off := 10) rfl) <| .nil) ?_
    clear Hz Az; intro Az Hz
    refine wpList_plain rfl (fun K hK => ?_)
    refine e_store1 Hz m9 1 rfl rfl rfl rfl rfl sz3rbe (by dsimp only [List.set] <;> rfl) ?_
    clear m9; intro w56 m56 hB56
    clear hB56
    refine hK _ _ ?_; clear hK K
    refine wpList_nil ?_
    show K2 _ _
    exact hC2 _ _ ⟨Hz.only [0, 1, 8], m56.only [1]⟩
   ·
    subst hj
    refine wp_region_lit ?_
    refine goCh Hz (.move rfl <| .move rfl <| .move rfl <| .add rfl rfl (IntWalk.i64_in _ (by omega)) <| .nilCheck rfl <| .fieldAddr (off := 6) rfl Tryz.underlying84 rfl (s := 6) (by kernel_rfl) rfl <| .c rfl (fun _ h_ => y_idxA h_ rfl rfl Tryz.underlying82 sz3rbe 5 rfl (by decide) (off := 11) rfl) <| .nil) ?_
    clear Hz Az; intro Az Hz
    refine wpList_plain rfl (fun K hK => ?_)
    refine e_store1 Hz m9 1 rfl rfl rfl rfl rfl sz3rbe (by dsimp only [List.set] <;> rfl) ?_
    clear m9; intro w64 m64 hB64
    clear hB64
    refine hK _ _ ?_; clear hK K
    refine wpList_nil ?_
    show K2 _ _
    exact hC2 _ _ ⟨Hz.only [0, 1, 8], m64.only [1]⟩
   ·
    subst hj
    refine wp_region_lit ?_
    refine goCh Hz (.move rfl <| .move rfl <| .move rfl <| .add rfl rfl (IntWalk.i64_in _ (by omega)) <| .nilCheck rfl <| .fieldAddr (off := 6) rfl Tryz.underlying84 rfl (s := 6) (by kernel_rfl) rfl <| .c rfl (fun _ h_ => y_idxA h_ rfl rfl Tryz.underlying82 sz3rbe 6 rfl (by decide) (off := 12) rfl) <| .nil) ?_
    clear Hz Az; intro Az Hz
    refine wpList_plain rfl (fun K hK => ?_)
    refine e_store1 Hz m9 1 rfl rfl rfl rfl rfl sz3rbe (by dsimp only [List.set] <;> rfl) ?_
    clear m9; intro w72 m72 hB72
    clear hB72
    refine hK _ _ ?_; clear hK K
    refine wpList_nil ?_
    show K2 _ _
    exact hC2 _ _ ⟨Hz.only [0, 1, 8], m72.only [1]⟩
  ·
   clear Hz; intro hb11 Hz
   try simp only [Q1x, Q2x, Q3x, Q4x, Q5x, Q6x, Q7x, Q8x, Q9x, Q0x, Qax, Qbx] at hb11
   obtain rfl : k = 7 := by omega
   refine wp_cond_false (Hz.ev (x := .tmp 9) rfl) ?_
   refine wp_exit ?_
   try dsimp only [Exit.then]
   try refine out_here ?_
   refine (ret0 (fn := Tryz.f152) Hz rfl ?_)
   exact ⟨rfl, m9.only [1]⟩
theorem rbegin_s (X : Cx) (R : Nat) (s : RS) (p : RP) (last : Int) (w0 : World) (hl : -2000000000000000 ≤ last ∧ last ≤ 2000000000000000) (m0 : MemOk X w0 (rfM R s p) w0) :
   Calls Tryz.prog 152 #[.pointer (some ⟨R, 5, none⟩), .int .i64 last] w0 fun e w' => ∃ p', e = .returned (.tuple #[]) ∧ MemOk X w0 (rfM R (withX s (begX s.x last)) p') w' := by
 refine (rbegin_x _ R p.L s.x _ _ _ s.re last _ hl (m0.into [(1, 1)] (by decide) rfl)).mono ?_
 rintro e w' ⟨rfl, hm⟩
 have mb := m0.back hm [(1, 1)] (by decide)
 exact ⟨p, rfl, mb.only [1, 2, 3, 4, 5, 6, 7, 8]⟩
theorem rcount_s (X : Cx) (R : Nat) (s : RS) (p : RP) (w0 : World) (hb : RLS s) (hc : -1000000000 ≤ s.x.co ∧ s.x.co ≤ 1000000000) (hd : lastS s - s.x.co ≤ 1000) (m0 : MemOk X w0 (rfM R s p) w0) :
   Calls Tryz.prog 116 #[.pointer (some ⟨R, 0, none⟩)] w0 fun e w' => ∃ p', e = .returned (.tuple #[]) ∧ MemOk X w0 (rfM R (countS s) p') w' := by
 refine enter (fn := Tryz.f116) Tryz.func116 rfl Tryz.ntmps116 rfl (fun Az Hz => ?_)
 simp only [List.zipIdx_cons, List.zipIdx_nil, List.map_cons, List.map_nil, Nat.reduceAdd, Nat.zero_add] at Hz
 have hml := matchL_len s
 have hm7 := memS_len7 s
 have htl := termsL_len s
 have hlb := lastS_bd s hb
 refine wp_seq_k (fun K0 hK0 => ?_)
 refine wp_region_lit ?_
 have m2 := m0.nilN 20 3 .i64
 clear m0
 refine goCh Hz (.assign rfl .nil) ?_
 clear Hz Az; intro Az Hz
 have m4 := m2.nilN 21 3 .i64
 clear m2
 refine goCh Hz (.assign rfl .nil) ?_
 clear Hz Az; intro Az Hz
 refine wpList_nil ?_
 refine hK0 _ _ ?_; clear hK0; try clear K0
 refine wp_seq_k (fun K1 hK1 => ?_)
 refine wp_region_lit ?_
 refine goCh Hz (.move rfl <| .nilCheck rfl <| .fieldAddr (off := 0) rfl Tryz.underlying86 rfl (s := 4) (by kernel_rfl) rfl <| .fieldAddr (off := 4) rfl Tryz.underlying81 rfl (s := 0) (by kernel_rfl) rfl <| .loadB1 m4 (i := 1) rfl rfl rfl Tryz.underlying79 rfl <| .nilCheck rfl <| .fieldAddr (off := 0) rfl Tryz.underlying123 rfl (s := 4) (by kernel_rfl) rfl <| .nil) ?_
 clear Hz Az; intro Az Hz
 refine wpList_plain rfl (fun K hK => ?_)
 refine e_call Hz Tryz.func75 rfl rfl rfl rfl (rlast_s R s p _ (rfM_is s p (m4.into [(1, 1), (2, 2), (3, 3), (4, 4), (5, 5), (6, 6), (7, 7), (8, 8)] (by decide) rfl)) hb) ?_
 rintro e w20 ⟨rfl, hb20⟩
 have m21 := m4.later hb20
 clear m4
 clear hb20
 refine ⟨_, rfl, ?_⟩; clear Hz Az; intro Az Hz
 refine hK _ _ ?_; clear hK K
 refine goCh Hz (.assign rfl .nil) ?_
 clear Hz Az; intro Az Hz
 refine wpList_nil ?_
 refine hK1 _ _ ?_; clear hK1; try clear K1
 refine wp_seq_k (fun K2 hK2 => ?_)
 replace Hz : Has 83 [(0, _), (2, _), (3, _), (4, _)] Az := Hz.only [0, 2, 3, 4]
 refine wp_seq_k (fun K3 hK3 => ?_)
 refine wp_region_lit ?_
 refine goCh Hz (.move rfl <| .nilCheck rfl <| .fieldAddr (off := 0) rfl Tryz.underlying86 rfl (s := 4) (by kernel_rfl) rfl <| .nil) ?_
 clear Hz Az; intro Az Hz
 refine wpList_plain rfl (fun K hK => ?_)
 refine e_call Hz Tryz.func49 rfl rfl rfl rfl (rmembers_s R s p _ (rfM_is s p (m21.into [(1, 1), (2, 2), (3, 3), (4, 4), (5, 5), (6, 6), (7, 7), (8, 8)] (by decide) rfl)) hb) ?_
 rintro e w31 ⟨qo, co9, rfl, hd31, hb31⟩
 have m32 := m21.callF 22 rfl hb31 hd31
 clear m21
 clear hb31 hd31
 refine ⟨_, rfl, ?_⟩; clear Hz Az; intro Az Hz
 refine hK _ _ ?_; clear hK K
 refine goCh Hz (.len rfl Tryz.underlying26 <| .move rfl <| .nil) ?_
 clear Hz Az; intro Az Hz
 refine wpList_nil ?_
 refine hK3 _ _ ?_; clear hK3; try clear K3
 refine wp_block ?_
 refine wp_loop_ghost (fun g a w => ∃ (k : Nat) (pa : Option Addr) (ca : Nat), k ≤ (memS s).length ∧ g = (memS s).length - k ∧ Has 83 [(0, .pointer (some ⟨R, 0, none⟩)), (2, .slice pa ((matchL s).take k).length ca), (3, .slice none 0 0), (4, .int .i64 (lastS s)), (19, .slice qo (memS s).length co9), (20, .int .i64 ((memS s).length : Nat)), (21, .int .i64 (k : Nat))] a ∧ MemOk X w0 ((20, .dat (.slice qo (memS s).length co9) (.ns .i64 (memS s))) :: (30, .num (.slice pa ((matchL s).take k).length ca) 3 .i64 ((matchL s).take k)) :: (31, .num (.slice none 0 0) 3 .i64 []) :: rfM R s p) w) ((memS s).length) ?_ ?_
 · exact ⟨0, none, 0, Nat.zero_le _, rfl, Hz.only [0, 2, 3, 4, 19, 20, 21], m32.ren [(20, 22), (30, 20), (31, 21), (1, 1), (2, 2), (3, 3), (4, 4), (5, 5), (6, 6), (7, 7), (8, 8)] (by decide)⟩
 ·
  clear Hz m32
  rintro g Az w36 ⟨k, pa, ca, hkl, hg, Hz, m36⟩
  refine regS Hz (.lss rfl rfl <| .nil) ?_
  clear Hz Az; intro Az Hz
  refine wp_seq_k (fun K4 hK4 => ?_)
  refine bool_cases Hz (t := 22) rfl ?_ ?_
  ·
   clear Hz; intro hb38 Hz
   try simp only [Q1x, Q2x, Q3x, Q4x, Q5x, Q6x, Q7x, Q8x, Q9x, Q0x, Qax, Qbx] at hb38
   have hk : k < (memS s).length := by omega
   have hnn := memS_in s (getD_mem hk)
   refine wp_cond_true (Hz.ev (x := .tmp 22) rfl) ?_
   refine wp_skip ?_
   refine hK4 _ _ ?_; clear hK4; try clear K4
   refine wp_seq_k (fun K5 hK5 => ?_)
   have hC5 : ∀ (a : Act) (w : World), (∃ (pa : Option Addr) (ca : Nat), Has 83 [(0, .pointer (some ⟨R, 0, none⟩)), (2, .slice pa ((matchL s).take (k + 1)).length ca), (3, .slice none 0 0), (4, .int .i64 (lastS s)), (19, .slice qo (memS s).length co9), (20, .int .i64 ((memS s).length : Nat)), (21, .int .i64 (k : Nat))] a ∧ MemOk X w0 ((20, .dat (.slice qo (memS s).length co9) (.ns .i64 (memS s))) :: (30, .num (.slice pa ((matchL s).take (k + 1)).length ca) 3 .i64 ((matchL s).take (k + 1))) :: (31, .num (.slice none 0 0) 3 .i64 []) :: rfM R s p) w) → K5 a w := by
     clear Hz m36
     rintro Az w39 ⟨pa, ca, Hz, m39⟩
     refine hK5 _ _ ?_; clear hK5; try clear K5
     refine wp_region_lit ?_
     refine goCh Hz (.add rfl rfl (r := ((k + 1 : Nat) : Int)) (by rw [IntWalk.i64_in _ (by omega)]; omega) <| .move rfl <| .nil) ?_
     clear Hz Az; intro Az Hz
     refine wpList_nil ?_
     show ∃ n', n' < _ ∧ _
     exact ⟨(memS s).length - (k + 1), by omega, k + 1, _, _, by omega, rfl, Hz.only [0, 2, 3, 4, 19, 20, 21], m39.only [20, 30, 31, 1, 2, 3, 4, 5, 6, 7, 8]⟩
   refine wp_block ?_
   refine wp_seq_k (fun K6 hK6 => ?_)
   refine wp_region_lit ?_
   obtain ⟨b43, o43, hp43, m43⟩ := m36.openN (i := 20) rfl (k) hk 100 rfl
   cases hp43; clear m36
   refine goCh Hz (.c rfl (fun _ h_ => y_idx h_ rfl rfl Tryz.underlying26 sz3rco (k) rfl hk) <| .loadC0 m43 (i := 100) rfl rfl Tryz.underlying3 rfl <| .assign rfl <| .nil) ?_
   clear Hz Az; intro Az Hz
   refine wpList_nil ?_
   refine hK6 _ _ ?_; clear hK6; try clear K6
   refine regS Hz (.move rfl <| .move rfl <| .nilCheck rfl <| .fieldAddr (off := 0) rfl Tryz.underlying86 rfl (s := 4) (by kernel_rfl) rfl <| .fieldAddr (off := 0) rfl Tryz.underlying81 rfl (s := 0) (by kernel_rfl) rfl <| .loadB1 m43 (i := 1) rfl rfl rfl Tryz.underlying3 rfl <| .eql rfl rfl <| .nil) ?_
   clear Hz Az; intro Az Hz
   refine bool_cases Hz (t := 31) rfl ?_ ?_
   ·
    clear Hz; intro hb54 Hz
    try simp only [Q1x, Q2x, Q3x, Q4x, Q5x, Q6x, Q7x, Q8x, Q9x, Q0x, Qax, Qbx] at hb54
    have hst := match_self s hk hb54
    refine wp_cond_true (Hz.ev (x := .tmp 31) rfl) ?_
    skip
    ·
     replace Hz : Has 83 [(0, _), (2, _), (3, _), (4, _), (19, _), (20, _), (21, _), (6, _)] Az := Hz.only [0, 2, 3, 4, 19, 20, 21, 6]
     refine wp_region_lit ?_
     refine goCh Hz (.move rfl <| .move rfl <| .nil) ?_
     clear Hz Az; intro Az Hz
     refine wpList_plain rfl (fun K hK => ?_)
     refine e_litN Hz m43 101 (k := .i64) rfl rfl Tryz.underlying26 inf3rco rfl rfl rfl rfl ?_
     clear Hz Az m43; intro g58 Az w59 Hz m59
     refine hK _ _ ?_; clear hK K
     refine wpList_plain rfl (fun K hK => ?_)
     refine e_appN Hz m59 30 rfl rfl rfl (m59.numsO (i := 101) rfl) Tryz.underlying26 inf3rco (by decide) (by simp; omega) rfl ?_
     clear Hz Az m59; intro p60 c60 Az w61 Hz m61
     refine hK _ _ ?_; clear hK K
     refine goCh Hz (.assign rfl .nil) ?_
     clear Hz Az; intro Az Hz
     refine wpList_nil ?_
     rw [hst] at Hz m61
     show K5 _ _
     exact hC5 _ _ ⟨_, _, Hz.only [0, 2, 3, 4, 19, 20, 21], m61.only [20, 30, 31, 1, 2, 3, 4, 5, 6, 7, 8]⟩
   ·
    clear Hz; intro hb54 Hz
    try simp only [Q1x, Q2x, Q3x, Q4x, Q5x, Q6x, Q7x, Q8x, Q9x, Q0x, Qax, Qbx] at hb54
    have hid := hb54
    refine wp_cond_false (Hz.ev (x := .tmp 31) rfl) ?_
    rcases (show (memS s).getD k 0 = 0 ∨ (memS s).getD k 0 = 1 ∨ (memS s).getD k 0 = 2 ∨ (memS s).getD k 0 = 3 ∨ (memS s).getD k 0 = 4 ∨ (memS s).getD k 0 = 5 ∨ (memS s).getD k 0 = 6 by omega) with hj | hj | hj | hj | hj | hj | hj
    ·
     rw [hj] at Hz
     have hst := match_other s hk hid (v := s.x.m0) (by rw [hj]; rfl)
     replace Hz : Has 83 [(0, _), (2, _), (3, _), (4, _), (19, _), (20, _), (21, _), (6, _)] Az := Hz.only [0, 2, 3, 4, 19, 20, 21, 6]
     refine wp_region_lit ?_
     refine goCh Hz (.move rfl <| .move rfl <| .move rfl <| .nilCheck rfl <| .fieldAddr (off := 5) rfl Tryz.underlying86 rfl (s := 14) (by kernel_rfl) rfl <| .fieldAddr (off := 13) rfl Tryz.underlying84 rfl (s := 6) (by kernel_rfl) rfl <| .c rfl (fun _ h_ => y_idxA h_ rfl rfl Tryz.underlying82 sz3rco 0 rfl (by decide) (off := 13) rfl) <| .loadB1 m43 (i := 1) rfl rfl rfl Tryz.underlying3 rfl <| .nil) ?_
     clear Hz Az; intro Az Hz
     refine wpList_plain rfl (fun K hK => ?_)
     refine e_litN Hz m43 101 (k := .i64) rfl rfl Tryz.underlying26 inf3rco rfl rfl rfl rfl ?_
     clear Hz Az m43; intro g72 Az w73 Hz m73
     refine hK _ _ ?_; clear hK K
     refine wpList_plain rfl (fun K hK => ?_)
     refine e_appN Hz m73 30 rfl rfl rfl (m73.numsO (i := 101) rfl) Tryz.underlying26 inf3rco (by decide) (by simp; omega) rfl ?_
     clear Hz Az m73; intro p74 c74 Az w75 Hz m75
     refine hK _ _ ?_; clear hK K
     refine goCh Hz (.assign rfl .nil) ?_
     clear Hz Az; intro Az Hz
     refine wpList_nil ?_
     rw [hst] at Hz m75
     show K5 _ _
     exact hC5 _ _ ⟨_, _, Hz.only [0, 2, 3, 4, 19, 20, 21], m75.only [20, 30, 31, 1, 2, 3, 4, 5, 6, 7, 8]⟩
    ·
     rw [hj] at Hz
     have hst := match_other s hk hid (v := s.x.m1) (by rw [hj]; rfl)
     replace Hz : Has 83 [(0, _), (2, _), (3, _), (4, _), (19, _), (20, _), (21, _), (6, _)] Az := Hz.only [0, 2, 3, 4, 19, 20, 21, 6]
     refine wp_region_lit ?_
     refine goCh Hz (.move rfl <| .move rfl <| .move rfl <| .nilCheck rfl <| .fieldAddr (off := 5) rfl Tryz.underlying86 rfl (s := 14) (by kernel_rfl) rfl <| .fieldAddr (off := 13) rfl Tryz.underlying84 rfl (s := 6) (by kernel_rfl) rfl <| .c rfl (fun _ h_ => y_idxA h_ rfl rfl Tryz.underlying82 sz3rco 1 rfl (by decide) (off := 14) rfl) <| .loadB1 m43 (i := 1) rfl rfl rfl Tryz.underlying3 rfl <| .nil) ?_
     clear Hz Az; intro Az Hz
     refine wpList_plain rfl (fun K hK => ?_)
     refine e_litN Hz m43 101 (k := .i64) rfl rfl Tryz.underlying26 inf3rco rfl rfl rfl rfl ?_
     clear Hz Az m43; intro g86 Az w87 Hz m87
     refine hK _ _ ?_; clear hK K
     refine wpList_plain rfl (fun K hK => ?_)
     refine e_appN Hz m87 30 rfl rfl rfl (m87.numsO (i := 101) rfl) Tryz.underlying26 inf3rco (by decide) (by simp; omega) rfl ?_
     clear Hz Az m87; intro p88 c88 Az w89 Hz m89
     refine hK _ _ ?_; clear hK K
     refine goCh Hz (.assign rfl .nil) ?_
     clear Hz Az; intro Az Hz
     refine wpList_nil ?_
     rw [hst] at Hz m89
     show K5 _ _
     exact hC5 _ _ ⟨_, _, Hz.only [0, 2, 3, 4, 19, 20, 21], m89.only [20, 30, 31, 1, 2, 3, 4, 5, 6, 7, 8]⟩
    ·
     rw [hj] at Hz
     have hst := match_other s hk hid (v := s.x.m2) (by rw [hj]; rfl)
     replace Hz : Has 83 [(0, _), (2, _), (3, _), (4, _), (19, _), (20, _), (21, _), (6, _)] Az := Hz.only [0, 2, 3, 4, 19, 20, 21, 6]
     refine wp_region_lit ?_
     refine goCh Hz (.move rfl <| .move rfl <| .move rfl <| .nilCheck rfl <| .fieldAddr (off := 5) rfl Tryz.underlying86 rfl (s := 14) (by kernel_rfl) rfl <| .fieldAddr (off := 13) rfl Tryz.underlying84 rfl (s := 6) (by kernel_rfl) rfl <| .c rfl (fun _ h_ => y_idxA h_ rfl rfl Tryz.underlying82 sz3rco 2 rfl (by decide) (off := 15) rfl) <| .loadB1 m43 (i := 1) rfl rfl rfl Tryz.underlying3 rfl <| .nil) ?_
     clear Hz Az; intro Az Hz
     refine wpList_plain rfl (fun K hK => ?_)
     refine e_litN Hz m43 101 (k := .i64) rfl rfl Tryz.underlying26 inf3rco rfl rfl rfl rfl ?_
     clear Hz Az m43; intro g100 Az w101 Hz m101
     refine hK _ _ ?_; clear hK K
     refine wpList_plain rfl (fun K hK => ?_)
     refine e_appN Hz m101 30 rfl rfl rfl (m101.numsO (i := 101) rfl) Tryz.underlying26 inf3rco (by decide) (by simp; omega) rfl ?_
     clear Hz Az m101; intro p102 c102 Az w103 Hz m103
     refine hK _ _ ?_; clear hK K
     refine goCh Hz (.assign rfl .nil) ?_
     clear Hz Az; intro Az Hz
     refine wpList_nil ?_
     rw [hst] at Hz m103
     show K5 _ _
     exact hC5 _ _ ⟨_, _, Hz.only [0, 2, 3, 4, 19, 20, 21], m103.only [20, 30, 31, 1, 2, 3, 4, 5, 6, 7, 8]⟩
    ·
     rw [hj] at Hz
     have hst := match_other s hk hid (v := s.x.m3) (by rw [hj]; rfl)
     replace Hz : Has 83 [(0, _), (2, _), (3, _), (4, _), (19, _), (20, _), (21, _), (6, _)] Az := Hz.only [0, 2, 3, 4, 19, 20, 21, 6]
     refine wp_region_lit ?_
     refine goCh Hz (.move rfl <| .move rfl <| .move rfl <| .nilCheck rfl <| .fieldAddr (off := 5) rfl Tryz.underlying86 rfl (s := 14) (by kernel_rfl) rfl <| .fieldAddr (off := 13) rfl Tryz.underlying84 rfl (s := 6) (by kernel_rfl) rfl <| .c rfl (fun _ h_ => y_idxA h_ rfl rfl Tryz.underlying82 sz3rco 3 rfl (by decide) (off := 16) rfl) <| .loadB1 m43 (i := 1) rfl rfl rfl Tryz.underlying3 rfl <| .nil) ?_
     clear Hz Az; intro Az Hz
     refine wpList_plain rfl (fun K hK => ?_)
     refine e_litN Hz m43 101 (k := .i64) rfl rfl Tryz.underlying26 inf3rco rfl rfl rfl rfl ?_
     clear Hz Az m43; intro g114 Az w115 Hz m115
     refine hK _ _ ?_; clear hK K
     refine wpList_plain rfl (fun K hK => ?_)
     refine e_appN Hz m115 30 rfl rfl rfl (m115.numsO (i := 101) rfl) Tryz.underlying26 inf3rco (by decide) (by simp; omega) rfl ?_
     clear Hz Az m115; intro p116 c116 Az w117 Hz m117
     refine hK _ _ ?_; clear hK K
     refine goCh Hz (.assign rfl .nil) ?_
     clear Hz Az; intro Az Hz
     refine wpList_nil ?_
     rw [hst] at Hz m117
     show K5 _ _
     exact hC5 _ _ ⟨_, _, Hz.only [0, 2, 3, 4, 19, 20, 21], m117.only [20, 30, 31, 1, 2, 3, 4, 5, 6, 7, 8]⟩
    ·
     rw [hj] at Hz
     have hst := match_other s hk hid (v := s.x.m4) (by rw [hj]; rfl)
     replace Hz : Has 83 [(0, _), (2, _), (3, _), (4, _), (19, _), (20, _), (21, _), (6, _)] Az := Hz.only [0, 2, 3, 4, 19, 20, 21, 6]
     refine wp_region_lit ?_
     refine goCh Hz (.move rfl <| .move rfl <| .move rfl <| .nilCheck rfl <| .fieldAddr (off := 5) rfl Tryz.underlying86 rfl (s := 14) (by kernel_rfl) rfl <| .fieldAddr (off := 13) rfl Tryz.underlying84 rfl (s := 6) (by kernel_rfl) rfl <| .c rfl (fun _ h_ => y_idxA h_ rfl rfl Tryz.underlying82 sz3rco 4 rfl (by decide) (off := 17) rfl) <| .loadB1 m43 (i := 1) rfl rfl rfl Tryz.underlying3 rfl <| .nil) ?_
     clear Hz Az; intro Az Hz
     refine wpList_plain rfl (fun K hK => ?_)
     refine e_litN Hz m43 101 (k := .i64) rfl rfl Tryz.underlying26 inf3rco rfl rfl rfl rfl ?_
     clear Hz Az m43; intro g128 Az w129 Hz m129
     refine hK _ _ ?_; clear hK K
     refine wpList_plain rfl (fun K hK => ?_)
     refine e_appN Hz m129 30 rfl rfl rfl (m129.numsO (i := 101) rfl) Tryz.underlying26 inf3rco (by decide) (by simp; omega) rfl ?_
     clear Hz Az m129; intro p130 c130 Az w131 Hz m131
     refine hK _ _ ?_; clear hK K
     refine goCh Hz (.assign rfl .nil) ?_
     clear Hz Az; intro Az Hz
     refine wpList_nil ?_
     rw [hst] at Hz m131
     show K5 _ _
     exact hC5 _ _ ⟨_, _, Hz.only [0, 2, 3, 4, 19, 20, 21], m131.only [20, 30, 31, 1, 2, 3, 4, 5, 6, 7, 8]⟩
    ·
     rw [hj] at Hz
     have hst := match_other s hk hid (v := s.x.m5) (by rw [hj]; rfl)
     replace Hz : Has 83 [(0, _), (2, _), (3, _), (4, _), (19, _), (20, _), (21, _), (6, _)] Az := Hz.only [0, 2, 3, 4, 19, 20, 21, 6]
     refine wp_region_lit ?_
     refine goCh Hz (.move rfl <| .move rfl <| .move rfl <| .nilCheck rfl <| .fieldAddr (off := 5) rfl Tryz.underlying86 rfl (s := 14) (by kernel_rfl) rfl <| .fieldAddr (off := 13) rfl Tryz.underlying84 rfl (s := 6) (by kernel_rfl) rfl <| .c rfl (fun _ h_ => y_idxA h_ rfl rfl Tryz.underlying82 sz3rco 5 rfl (by decide) (off := 18) rfl) <| .loadB1 m43 (i := 1) rfl rfl rfl Tryz.underlying3 rfl <| .nil) ?_
     clear Hz Az; intro Az Hz
     refine wpList_plain rfl (fun K hK => ?_)
     refine e_litN Hz m43 101 (k := .i64) rfl rfl Tryz.underlying26 inf3rco rfl rfl rfl rfl ?_
     clear Hz Az m43; intro g142 Az w143 Hz m143
     refine hK _ _ ?_; clear hK K
     refine wpList_plain rfl (fun K hK => ?_)
     refine e_appN Hz m143 30 rfl rfl rfl (m143.numsO (i := 101) rfl) Tryz.underlying26 inf3rco (by decide) (by simp; omega) rfl ?_
     clear Hz Az m143; intro p144 c144 Az w145 Hz m145
     refine hK _ _ ?_; clear hK K
     refine goCh Hz (.assign rfl .nil) ?_
     clear Hz Az; intro Az Hz
     refine wpList_nil ?_
     rw [hst] at Hz m145
     show K5 _ _
     exact hC5 _ _ ⟨_, _, Hz.only [0, 2, 3, 4, 19, 20, 21], m145.only [20, 30, 31, 1, 2, 3, 4, 5, 6, 7, 8]⟩
    ·
     rw [hj] at Hz
     have hst := match_other s hk hid (v := s.x.m6) (by rw [hj]; rfl)
     replace Hz : Has 83 [(0, _), (2, _), (3, _), (4, _), (19, _), (20, _), (21, _), (6, _)] Az := Hz.only [0, 2, 3, 4, 19, 20, 21, 6]
     refine wp_region_lit ?_
     refine goCh Hz (.move rfl <| .move rfl <| .move rfl <| .nilCheck rfl <| .fieldAddr (off := 5) rfl Tryz.underlying86 rfl (s := 14) (by kernel_rfl) rfl <| .fieldAddr (off := 13) rfl Tryz.underlying84 rfl (s := 6) (by kernel_rfl) rfl <| .c rfl (fun _ h_ => y_idxA h_ rfl rfl Tryz.underlying82 sz3rco 6 rfl (by decide) (off := 19) rfl) <| .loadB1 m43 (i := 1) rfl rfl rfl Tryz.underlying3 rfl <| .nil) ?_
     clear Hz Az; intro Az Hz
     refine wpList_plain rfl (fun K hK => ?_)
     refine e_litN Hz m43 101 (k := .i64) rfl rfl Tryz.underlying26 inf3rco rfl rfl rfl rfl ?_
     clear Hz Az m43; intro g156 Az w157 Hz m157
     refine hK _ _ ?_; clear hK K
     refine wpList_plain rfl (fun K hK => ?_)
     refine e_appN Hz m157 30 rfl rfl rfl (m157.numsO (i := 101) rfl) Tryz.underlying26 inf3rco (by decide) (by simp; omega) rfl ?_
     clear Hz Az m157; intro p158 c158 Az w159 Hz m159
     refine hK _ _ ?_; clear hK K
     refine goCh Hz (.assign rfl .nil) ?_
     clear Hz Az; intro Az Hz
     refine wpList_nil ?_
     rw [hst] at Hz m159
     show K5 _ _
     exact hC5 _ _ ⟨_, _, Hz.only [0, 2, 3, 4, 19, 20, 21], m159.only [20, 30, 31, 1, 2, 3, 4, 5, 6, 7, 8]⟩
  ·
   clear Hz; intro hb38 Hz
   try simp only [Q1x, Q2x, Q3x, Q4x, Q5x, Q6x, Q7x, Q8x, Q9x, Q0x, Qax, Qbx] at hb38
   obtain rfl : k = (memS s).length := by omega
   rw [← matchL_len s, List.take_length] at m36 Hz
   refine wp_cond_false (Hz.ev (x := .tmp 22) rfl) ?_
   refine wp_exit ?_
   refine hK2 _ _ ?_; clear hK2; try clear K2
   refine wp_seq_k (fun K7 hK7 => ?_)
   refine regS Hz (.move rfl <| .nilCheck rfl <| .fieldAddr (off := 22) rfl Tryz.underlying86 rfl (s := 0) (by kernel_rfl) rfl <| .loadB1 m36 (i := 1) rfl rfl rfl Tryz.underlying3 rfl <| .add rfl rfl (r := s.x.co + 1) (IntWalk.i64_in _ (by omega)) <| .assign rfl <| .nil) ?_
   clear Hz Az; intro Az Hz
   refine wp_block ?_
   refine wp_loop_ghost (fun g a w => ∃ (k : Nat) (pb : Option Addr) (cb : Nat), k ≤ (termsL s).length ∧ g = (termsL s).length - k ∧ Has 83 [(0, .pointer (some ⟨R, 0, none⟩)), (2, .slice pa (matchL s).length ca), (3, .slice pb ((termsL s).take k).length cb), (4, .int .i64 (lastS s)), (7, .int .i64 (s.x.co + 1 + (k : Nat)))] a ∧ MemOk X w0 ((30, .num (.slice pa (matchL s).length ca) 3 .i64 (matchL s)) :: (31, .num (.slice pb ((termsL s).take k).length cb) 3 .i64 ((termsL s).take k)) :: rfM R s p) w) ((termsL s).length) ?_ ?_
   · exact ⟨0, none, 0, Nat.zero_le _, rfl, (co_zero s) ▸ Hz.only [0, 2, 3, 4, 7], m36.ren [(30, 30), (31, 31), (1, 1), (2, 2), (3, 3), (4, 4), (5, 5), (6, 6), (7, 7), (8, 8)] (by decide)⟩
   ·
    clear Hz m36
    rintro g Az w167 ⟨k, pb, cb, hkl, hg, Hz, m167⟩
    refine wp_seq_k (fun K8 hK8 => ?_)
    refine regS Hz (.move rfl <| .move rfl <| .leq rfl rfl <| .nil) ?_
    clear Hz Az; intro Az Hz
    refine bool_cases Hz (t := 54) rfl ?_ ?_
    ·
     clear Hz; intro hb171 Hz
     try simp only [Q1x, Q2x, Q3x, Q4x, Q5x, Q6x, Q7x, Q8x, Q9x, Q0x, Qax, Qbx] at hb171
     have hk : k < (termsL s).length := by rw [htl]; omega
     refine wp_cond_true (Hz.ev (x := .tmp 54) rfl) ?_
     refine wp_skip ?_
     refine hK8 _ _ ?_; clear hK8; try clear K8
     refine wp_seq_k (fun K9 hK9 => ?_)
     refine wp_block ?_
     refine wp_region_lit ?_
     refine goCh Hz (.move rfl <| .move rfl <| .nilCheck rfl <| .fieldAddr (off := 0) rfl Tryz.underlying86 rfl (s := 4) (by kernel_rfl) rfl <| .fieldAddr (off := 4) rfl Tryz.underlying81 rfl (s := 0) (by kernel_rfl) rfl <| .loadB1 m167 (i := 1) rfl rfl rfl Tryz.underlying79 rfl <| .move rfl <| .nil) ?_
     clear Hz Az; intro Az Hz
     refine wpList_plain rfl (fun K hK => ?_)
     refine e_call Hz Tryz.func113 rfl rfl rfl rfl (rterm_s R s p _ (rfM_is s p (m167.into [(1, 1), (2, 2), (3, 3), (4, 4), (5, 5), (6, 6), (7, 7), (8, 8)] (by decide) rfl)) hb (s.x.co + 1 + (k : Int))) ?_
     rintro e w179 ⟨rfl, hb179⟩
     have m180 := m167.later hb179
     clear m167
     clear hb179
     refine ⟨_, rfl, ?_⟩; clear Hz Az; intro Az Hz
     refine hK _ _ ?_; clear hK K
     refine wpList_plain rfl (fun K hK => ?_)
     refine e_litN Hz m180 200 (k := .i64) rfl rfl Tryz.underlying26 inf3rco rfl rfl rfl rfl ?_
     clear Hz Az m180; intro g182 Az w183 Hz m183
     refine hK _ _ ?_; clear hK K
     refine wpList_plain rfl (fun K hK => ?_)
     refine e_appN Hz m183 31 rfl rfl rfl (m183.numsO (i := 200) rfl) Tryz.underlying26 inf3rco (by decide) (by simp; omega) rfl ?_
     clear Hz Az m183; intro p184 c184 Az w185 Hz m185
     refine hK _ _ ?_; clear hK K
     refine goCh Hz (.assign rfl .nil) ?_
     clear Hz Az; intro Az Hz
     refine wpList_nil ?_
     refine hK9 _ _ ?_; clear hK9; try clear K9
     replace Hz : Has 83 [(0, _), (2, _), (3, _), (4, _), (7, _)] Az := Hz.only [0, 2, 3, 4, 7]
     refine wp_region_lit ?_
     refine goCh Hz (.move rfl <| .add rfl rfl (r := s.x.co + 1 + ((k + 1 : Nat) : Int)) (by rw [IntWalk.i64_in _ (by omega)]; omega) <| .assign rfl <| .nil) ?_
     clear Hz Az; intro Az Hz
     refine wpList_nil ?_
     show ∃ n', n' < _ ∧ _
     rw [terms_step s hk] at Hz m185
     exact ⟨(termsL s).length - (k + 1), by omega, k + 1, _, _, by omega, rfl, Hz.only [0, 2, 3, 4, 7], m185.only [30, 31, 1, 2, 3, 4, 5, 6, 7, 8]⟩
    ·
     clear Hz; intro hb171 Hz
     try simp only [Q1x, Q2x, Q3x, Q4x, Q5x, Q6x, Q7x, Q8x, Q9x, Q0x, Qax, Qbx] at hb171
     obtain rfl : k = (termsL s).length := by omega
     rw [List.take_length] at m167 Hz
     refine wp_cond_false (Hz.ev (x := .tmp 54) rfl) ?_
     refine wp_exit ?_
     refine hK7 _ _ ?_; clear hK7; try clear K7
     have m191 : MemOk _ _ [(1, _), (2, _), (3, _), (4, _), (5, _), (6, _), (7, _), (8, _), (30, _), (31, _)] _ := m167.only [1, 2, 3, 4, 5, 6, 7, 8, 30, 31]; clear m167
     refine region_p 13 (B := [(1, _), (2, _), (3, _), (4, _), (5, _), (6, _), (7, _), (8, _), (30, _), (31, _)]) (m191.to ⟨il, il, il, il, il, il, il, il, il, il, trivial⟩) m191 (by kernel_rfl) (fun w192 hP192 m192 => ?_); clear m191
     refine goR hP192 [0, 1, 2, 3, 4, 5, 6, 7, 8, 9, 10, 11, 12] [6, 10] 13 0 8191 Hz (m192.to ⟨il, il, il, il, il, il, il, il, il, il, trivial⟩) (.move rfl <| .move rfl <| .nilCheck rfl <| .fieldAddr (off := 0) rfl Tryz.underlying86 rfl (s := 4) (by kernel_rfl) rfl <| .fieldAddr (off := 2) rfl Tryz.underlying81 rfl (s := 1) (by kernel_rfl) rfl <| .fieldAddr (off := 2) rfl Tryz.underlying25 rfl (s := 0) (by kernel_rfl) rfl <| .loadB1 hh (i := 1) rfl rfl rfl Tryz.underlying3 rfl <| .move rfl <| .nilCheck rfl <| .fieldAddr (off := 22) rfl Tryz.underlying86 rfl (s := 0) (by kernel_rfl) rfl <| .loadB1 hh (i := 1) rfl rfl rfl Tryz.underlying3 rfl <| .move rfl <| .move rfl <| .nil) ?_
     clear Hz Az; intro Az Hz
     refine stepE_end 13 rfl (by kernel_rfl) rfl (by rfl) (fun K hK => ?_)
     refine e_call Hz Tryz.func147 rfl rfl rfl rfl (commitC_any s.x.te s.x.co (matchL s) (termsL s) _ _ _ (IsInts.ofNums (m192.numsO (i := 30) rfl)) (IsInts.ofNums (m192.numsO (i := 31) rfl)) (by omega) (by omega) (by omega) (by omega)) ?_
     rintro e w206 ⟨rfl, hb206⟩
     have m207 := m192.later hb206
     clear m192
     clear hb206
     refine ⟨_, rfl, ?_⟩; clear Hz Az; intro Az Hz
     refine hK _ _ ?_; clear hK K
     refine goB hP192 [14, 15] 2 16383 65535 Hz (.nilCheck rfl <| .fieldAddr (off := 22) rfl Tryz.underlying86 rfl (s := 0) (by kernel_rfl) rfl <| .nil) ?_
     clear Hz Az; intro Az Hz
     refine stepE_end 16 rfl (by kernel_rfl) rfl (by rfl) (fun K hK => ?_)
     refine e_store1 Hz m207 1 rfl rfl rfl rfl rfl sz3rco (by dsimp only [List.set] <;> rfl) ?_
     clear m207; intro w211 m211 hB211
     clear hB211
     refine hK _ _ ?_; clear hK K
     refine wpAnyE_done (by kernel_rfl) ?_ _
     try dsimp only [Exit.then]
     try refine out_here ?_
     refine (ret0 (fn := Tryz.f116) Hz rfl ?_)
     exact ⟨_, rfl, m211.only [1, 2, 3, 4, 5, 6, 7, 8]⟩
end Go.Proofs.YtndnnlbdnjndiaaGreat.K
