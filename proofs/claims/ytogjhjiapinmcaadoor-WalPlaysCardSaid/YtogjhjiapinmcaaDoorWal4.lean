/- wal: Scan. -/
import Derived.Test.YtogjhjiapinmcaaDoorWal3
namespace Go.Proofs.YtogjhjiapinmcaaDoor.K
open Go.ChangeShapes Go.WideShapes Go.ChangeAt Go.RowKit
set_option linter.unusedVariables false
set_option linter.unusedSimpArgs false

theorem inf24wsc : (Tryd.prog.info? 24).map (fun i => (i.zero, i.size, i.bytes)) = some (some (.slice none 0 0), 1, 24) := by kernel_rfl

set_option maxRecDepth 100000
set_option maxHeartbeats 4000000
theorem read_no {B S : Nat} {vu : Value} {secs : List (List Int)} {uns : List Un} {l : Int} {f to gn : Int} {w0 : World} (hR : readV secs f to gn = none) (hD : IsDisk w0 B S vu secs uns l) (hT : TabOk w0) (h01 : 1 ≤ w0.heap.size) (hf0 : -1000000000 ≤ f) (hf1 : f ≤ 1000000000) (ht0 : -1000000000 ≤ to) (ht1 : to ≤ 9223372036854775807) (hsl : secs.length ≤ 100) :
   Calls Tryd.prog 31 #[.pointer (some ⟨B, 0, none⟩), .int .i64 f, .int .i64 to, .int .u64 gn] w0 fun e w' => e = .returned (.tuple #[.slice none 0 0, .int .i64 0, .bool false]) ∧ Below w0.heap.size w0 w' := by
 refine (read_x f to gn w0 hD hT h01 hf0 hf1 ht0 ht1 hsl).mono fun e w' h => ?_
 rw [hR] at h
 exact ⟨h.2, h.1⟩
theorem read_yes {B S : Nat} {vu : Value} {secs : List (List Int)} {uns : List Un} {l : Int} {f to gn : Int} {w0 : World} {x : List Int} {n : Nat} (hR : readV secs f to gn = some (x, n)) (hD : IsDisk w0 B S vu secs uns l) (hT : TabOk w0) (h01 : 1 ≤ w0.heap.size) (hf0 : -1000000000 ≤ f) (hf1 : f ≤ 1000000000) (ht0 : -1000000000 ≤ to) (ht1 : to ≤ 9223372036854775807) (hsl : secs.length ≤ 100) :
   Calls Tryd.prog 31 #[.pointer (some ⟨B, 0, none⟩), .int .i64 f, .int .i64 to, .int .u64 gn] w0 fun e w' => ∃ (p : Option Addr) (c : Nat), e = .returned (.tuple #[.slice p x.length c, .int .i64 (n : Int), .bool true]) ∧ Rd (New w0) w' (.slice p x.length c) (.ns .u8 x) ∧ Below w0.heap.size w0 w' := by
 refine (read_x f to gn w0 hD hT h01 hf0 hf1 ht0 ht1 hsl).mono fun e w' h => ?_
 rw [hR] at h
 obtain ⟨hb, p, c, e1, hd⟩ := h
 exact ⟨p, c, e1, hd, hb⟩
theorem partsK_at {secs : List (List Int)} {f gn : Int} {k : Nat} {x : List Int} (h : partsK secs f gn (k + 1) = some x) : f + k < secs.length := by
 simp only [partsK] at h
 cases hk : partsK secs f gn k with
 | none => rw [hk] at h; cases h
 | some a =>
   cases hp : partV secs (f + k) gn with
   | none => rw [hk, hp] at h; cases h
   | some b => exact (partV_at hp).2
theorem readV_at {secs : List (List Int)} {f to gn : Int} {z : List Int} {n : Nat} (h : readV secs f to gn = some (z, n)) (hs : ∀ s ∈ secs, Sec s) : 0 ≤ f ∧ 1 ≤ n ∧ f + n ≤ to ∧ f + n ≤ secs.length := by
 cases hP : partV secs f gn with
 | none => unfold readV at h; rw [hP] at h; cases h
 | some b =>
   have h0 := partV_at hP
   obtain ⟨hb48, hbb⟩ := partV_ok hP hs
   obtain ⟨⟨a1, y, er2⟩, hN⟩ : ∃ z, numR b 0 65535 = z := ⟨_, rfl⟩
   obtain ⟨⟨ha0, ha1⟩, hy48, -, -, -⟩ := numR_all hN hbb (by omega) (by decide)
   obtain ⟨k, rfl⟩ : ∃ n : Nat, a1 = (n : Int) := ⟨a1.toNat, by omega⟩
   rw [readV_some hP hN hb48] at h
   split at h
   · cases h
   · split at h
     · cases h
     · rename_i hG
       have hn1 : 1 ≤ secN (48 - y.length + k + 4) := by unfold secN; omega
       obtain ⟨q, hq⟩ : ∃ q, secN (48 - y.length + k + 4) = q + 1 := ⟨secN (48 - y.length + k + 4) - 1, by omega⟩
       rw [hq] at h hG
       cases hK : partsK secs f gn (q + 1) with
       | none => rw [hK] at h; cases h
       | some x =>
         rw [hK] at h
         dsimp only at h
         split at h
         · injection h with h
           injection h with h1 h2
           have := partsK_at hK
           omega
         · cases h
def scanF (secs : List (List Int)) (to gn : Int) : Nat → Int → List (List Int) × Int
 | 0, f => ([], f)
 | m + 1, f => if f < to then match readV secs f to gn with
   | none => ([], f)
   | some (b, n) => (b :: (scanF secs to gn m (f + n)).1, (scanF secs to gn m (f + n)).2) else ([], f)
theorem scanF_end {secs : List (List Int)} {to gn f : Int} {m : Nat} (h : ¬ f < to) : scanF secs to gn m f = ([], f) := by
 cases m with
 | zero => rfl
 | succ m => rw [scanF, if_neg h]
theorem scanF_none {secs : List (List Int)} {to gn f : Int} {m : Nat} (h : f < to) (hR : readV secs f to gn = none) : scanF secs to gn m f = ([], f) := by
 cases m with
 | zero => rfl
 | succ m => rw [scanF, if_pos h, hR]
theorem scanF_some {secs : List (List Int)} {to gn f : Int} {m : Nat} {b : List Int} {n : Nat} (ls : List (List Int)) (h : f < to) (hR : readV secs f to gn = some (b, n)) : (ls ++ (scanF secs to gn (m + 1) f).1, (scanF secs to gn (m + 1) f).2) = ((ls ++ [b]) ++ (scanF secs to gn m (f + n)).1, (scanF secs to gn m (f + n)).2) := by
 rw [scanF, if_pos h, hR, List.append_assoc]; rfl
theorem scan_x {B S : Nat} {vu : Value} {secs : List (List Int)} {uns : List Un} {l : Int} (f0 to gn : Int) (w0 : World) (hD : IsDisk w0 B S vu secs uns l) (hT : TabOk w0) (h01 : 1 ≤ w0.heap.size) (hf0 : -1000000000 ≤ f0) (hf1 : f0 ≤ 1000000000) (ht0 : -9223372036854775808 ≤ to) (ht1 : to ≤ 9223372036854775807) (hsl : secs.length ≤ 100) :
   Calls Tryd.prog 15 #[.pointer (some ⟨B, 0, none⟩), .int .i64 f0, .int .i64 to, .int .u64 gn] w0 fun e w' => ∃ (p : Option Addr) (c : Nat), e = .returned (.tuple #[.slice p (scanF secs to gn (to - f0).toNat f0).1.length c, .int .i64 (scanF secs to gn (to - f0).toNat f0).2]) ∧ Rd (New w0) w' (.slice p (scanF secs to gn (to - f0).toNat f0).1.length c) (.l 1 ((scanF secs to gn (to - f0).toNat f0).1.map bD)) ∧ Below w0.heap.size w0 w' := by
 refine enter (fn := Tryd.f15) Tryd.func15 rfl Tryd.ntmps15 rfl (fun Az Hz => ?_)
 simp only [List.zipIdx_cons, List.zipIdx_nil, List.map_cons, List.map_nil, Nat.reduceAdd, Nat.zero_add] at Hz
 have m0 := MemOk.start (fun _ => False) w0
 refine regS Hz (.assign rfl <| .assign rfl <| .nil) ?_
 clear Hz Az; intro Az Hz
 refine regS Hz (.assign rfl <| .nil) ?_
 clear Hz Az; intro Az Hz
 refine wp_seq_k (fun K0 hK0 => ?_)
 refine wp_block ?_
 refine wp_loop_ghost (fun g a w => ∃ (m : Nat) (f : Int) (ls : List (List Int)) (p : Option Addr) (c : Nat), g = m ∧ to - f ≤ m ∧ f0 ≤ f ∧ f ≤ 1000000000 ∧ (ls = [] ∨ (ls.length : Int) ≤ f ∧ f ≤ secs.length) ∧ scanF secs to gn (to - f0).toNat f0 = (ls ++ (scanF secs to gn m f).1, (scanF secs to gn m f).2) ∧ Has 41 [(0, .pointer (some ⟨B, 0, none⟩)), (1, .int .i64 f), (2, .int .i64 to), (3, .int .u64 gn), (10, .slice p ls.length c)] a ∧ MemOk (cn w0) w0 [(9, .row (.slice p ls.length c) 24 1 (ls.map bD))] w) ((to - f0).toNat) ?_ ?_
 · have mz := m0.nilR 9 24 1
   exact ⟨(to - f0).toNat, f0, [], _, _, rfl, by omega, by omega, hf1, .inl rfl, rfl, Hz.only [0, 1, 2, 3, 10], mz.only [9]⟩
 ·
  clear Hz m0
  rintro g Az w4 ⟨m, f, ls, p, c, hg, hm, hff, hf9, hls, hS, Hz, m4⟩
  refine wp_seq_k (fun K1 hK1 => ?_)
  refine wp_seq_k (fun K2 hK2 => ?_)
  refine wp_region_lit ?_
  refine goCh Hz (.move rfl <| .neqP rfl rfl Tryd.underlying27 <| .move rfl <| .nil) ?_
  clear Hz Az; intro Az Hz
  refine bool_cases Hz (t := 16) rfl ?_ ?_
  rotate_left
  · intro hb _; exact absurd hb (by simp)
  clear Hz; intro _ Hz
  refine goCh Hz (.moveZ rfl <| .moveZ rfl <| .lssZ rfl rfl <| .pickT rfl rfl <| .nil) ?_
  clear Hz Az; intro Az Hz
  refine wpList_nil ?_
  refine hK2 _ _ ?_; clear hK2; try clear K2
  refine bool_cases Hz (t := 20) rfl ?_ ?_
  ·
   clear Hz; intro hb16 Hz
   try simp only [Q1x, Q2x, Q3x, Q4x, Q5x, Q6x, Q7x, Q8x, Q9x, Q0x, Qax, Qbx] at hb16
   have hft : f < to := by have := hb16; simpa using this
   refine wp_cond_true (Hz.ev (x := .tmp 20) rfl) ?_
   refine wp_skip ?_
   refine hK1 _ _ ?_; clear hK1; try clear K1
   refine wp_block ?_
   refine wp_seq_k (fun K3 hK3 => ?_)
   rcases hR : readV secs f to gn with _ | ⟨z, nn⟩
   ·
    have hTot : scanF secs to gn (to - f0).toNat f0 = (ls, f) := by rw [hS, scanF_none hft hR, List.append_nil]
    replace Hz : Has 41 [(0, _), (1, _), (2, _), (3, _), (10, _)] Az := Hz.only [0, 1, 2, 3, 10]
    refine wp_region_lit ?_
    refine goCh Hz (.move rfl <| .move rfl <| .move rfl <| .move rfl <| .nil) ?_
    clear Hz Az; intro Az Hz
    refine wpList_plain rfl (fun K hK => ?_)
    refine e_call Hz Tryd.func31 rfl rfl rfl rfl (read_no hR (hD.later m4.below) (hT.below m4.below h01) (Nat.le_trans h01 m4.below.size) (by omega) (by omega) (by omega) ht1 hsl) ?_
    rintro e w22 ⟨rfl, hb22⟩
    have m23 := m4.later hb22
    clear m4
    clear hb22
    refine ⟨_, rfl, ?_⟩; clear Hz Az; intro Az Hz
    refine hK _ _ ?_; clear hK K
    refine goCh Hz (.move rfl <| .extract rfl rfl <| .extract rfl rfl <| .extract rfl rfl <| .assign rfl <| .assign rfl <| .assign rfl <| .nil) ?_
    clear Hz Az; intro Az Hz
    refine wpList_nil ?_
    refine hK3 _ _ ?_; clear hK3; try clear K3
    refine wp_seq_k (fun K4 hK4 => ?_)
    replace Hz : Has 41 [(0, _), (1, _), (2, _), (3, _), (10, _), (11, _), (12, _), (13, _)] Az := Hz.only [0, 1, 2, 3, 10, 11, 12, 13]
    refine regS Hz (.move rfl <| .not rfl <| .nil) ?_
    clear Hz Az; intro Az Hz
    refine wp_cond_true (Hz.ev (x := .tmp 31) rfl) ?_
    refine wp_exit ?_
    refine hK0 _ _ ?_; clear hK0; try clear K0
    refine regS Hz (.move rfl <| .move rfl <| .assign rfl <| .assign rfl <| .nil) ?_
    clear Hz Az; intro Az Hz
    refine wp_ret ?_
    try dsimp only [Exit.then, Exit.inBlock]
    refine (ret2 (fn := Tryd.f15) Hz rfl rfl rfl ?_)
    have m39 := m23.freezeR 9 rfl; clear m23
    rw [hTot]
    exact ⟨_, _, rfl, m39.outF (i := 9) rfl, m39.below⟩
   ·
    obtain ⟨hf9, hn1, hn2, hn3⟩ := readV_at hR hD.secs_ok
    obtain ⟨j, rfl⟩ : ∃ j, m = j + 1 := ⟨m - 1, by omega⟩
    have hll : ls.length ≤ 1000 := hls.elim (fun e => by rw [e]; simp) (fun e => by omega)
    have hS2 := hS.trans (scanF_some ls hft hR)
    replace Hz : Has 41 [(0, _), (1, _), (2, _), (3, _), (10, _)] Az := Hz.only [0, 1, 2, 3, 10]
    refine wp_region_lit ?_
    refine goCh Hz (.move rfl <| .move rfl <| .move rfl <| .move rfl <| .nil) ?_
    clear Hz Az; intro Az Hz
    refine wpList_plain rfl (fun K hK => ?_)
    refine e_call Hz Tryd.func31 rfl rfl rfl rfl (read_yes hR (hD.later m4.below) (hT.below m4.below h01) (Nat.le_trans h01 m4.below.size) (by omega) (by omega) (by omega) ht1 hsl) ?_
    rintro e w45 ⟨p45, c45, rfl, hd45, hb45⟩
    have m46 := m4.callF 100 rfl hb45 hd45
    clear m4
    clear hb45 hd45
    refine ⟨_, rfl, ?_⟩; clear Hz Az; intro Az Hz
    refine hK _ _ ?_; clear hK K
    refine goCh Hz (.move rfl <| .extract rfl rfl <| .extract rfl rfl <| .extract rfl rfl <| .assign rfl <| .assign rfl <| .assign rfl <| .nil) ?_
    clear Hz Az; intro Az Hz
    refine wpList_nil ?_
    refine hK3 _ _ ?_; clear hK3; try clear K3
    refine wp_seq_k (fun K5 hK5 => ?_)
    replace Hz : Has 41 [(0, _), (1, _), (2, _), (3, _), (10, _), (11, _), (12, _), (13, _)] Az := Hz.only [0, 1, 2, 3, 10, 11, 12, 13]
    refine regS Hz (.move rfl <| .not rfl <| .nil) ?_
    clear Hz Az; intro Az Hz
    refine wp_cond_false (Hz.ev (x := .tmp 31) rfl) ?_
    refine wp_skip ?_
    refine hK5 _ _ ?_; clear hK5; try clear K5
    refine wp_seq_k (fun K6 hK6 => ?_)
    refine wp_region_lit ?_
    refine goCh Hz (.move rfl <| .move rfl <| .nil) ?_
    clear Hz Az; intro Az Hz
    refine wpList_plain rfl (fun K hK => ?_)
    refine e_litR Hz m46 101 (mm := 1) rfl (.cons rfl rfl (.cons (m46.rd (i := 100) rfl) .nil) <| .nil) Tryd.underlying22 inf24wsc rfl rfl rfl rfl rfl ?_
    clear Hz Az m46; intro g62 Az w63 Hz m63
    refine hK _ _ ?_; clear hK K
    have m65 := m63.freezeR 101 rfl; clear m63
    refine wpList_plain rfl (fun K hK => ?_)
    refine e_appR Hz m65 9 rfl rfl rfl (m65.rd (i := 101) rfl) Tryd.underlying22 inf24wsc rfl rfl (by decide) (by rw [List.length_map]; simp; omega) rfl ?_
    clear Hz Az m65; intro p64 c64 Az w66 Hz m66
    refine hK _ _ ?_; clear hK K
    refine goCh Hz (.assign rfl .nil) ?_
    clear Hz Az; intro Az Hz
    refine wpList_nil ?_
    refine hK6 _ _ ?_; clear hK6; try clear K6
    replace Hz : Has 41 [(0, _), (1, _), (2, _), (3, _), (10, _), (12, _)] Az := Hz.only [0, 1, 2, 3, 10, 12]
    refine wp_region_lit ?_
    refine goCh Hz (.move rfl <| .move rfl <| .add rfl rfl (r := f + nn) (IntWalk.i64_in _ (by omega)) <| .assign rfl <| .nil) ?_
    clear Hz Az; intro Az Hz
    refine wpList_nil ?_
    show ∃ n', n' < _ ∧ _
    have e9 : ls.map bD ++ [[D.ns .u8 z]] = (ls ++ [z]).map bD := by rw [List.map_append]; rfl
    rw [e9, List.length_map] at Hz m66
    exact ⟨j, by omega, j, f + nn, ls ++ [z], _, _, rfl, by omega, by omega, by omega, .inr ⟨by rw [List.length_append]; rcases hls with rfl | hls <;> simp <;> omega, by omega⟩, hS2, Hz.only [0, 1, 2, 3, 10], m66.only [9]⟩
  ·
   clear Hz; intro hb16 Hz
   try simp only [Q1x, Q2x, Q3x, Q4x, Q5x, Q6x, Q7x, Q8x, Q9x, Q0x, Qax, Qbx] at hb16
   have hft : ¬ f < to := by have := hb16; simpa using this
   have hTot : scanF secs to gn (to - f0).toNat f0 = (ls, f) := by rw [hS, scanF_end hft, List.append_nil]
   refine wp_cond_false (Hz.ev (x := .tmp 20) rfl) ?_
   refine wp_exit ?_
   refine hK0 _ _ ?_; clear hK0; try clear K0
   replace Hz : Has 41 [(0, _), (1, _), (2, _), (3, _), (10, _)] Az := Hz.only [0, 1, 2, 3, 10]
   refine regS Hz (.move rfl <| .move rfl <| .assign rfl <| .assign rfl <| .nil) ?_
   clear Hz Az; intro Az Hz
   refine wp_ret ?_
   try dsimp only [Exit.then, Exit.inBlock]
   refine (ret2 (fn := Tryd.f15) Hz rfl rfl rfl ?_)
   have m78 := m4.freezeR 9 rfl; clear m4
   rw [hTot]
   exact ⟨_, _, rfl, m78.outF (i := 9) rfl, m78.below⟩
end Go.Proofs.YtogjhjiapinmcaaDoor.K
