/- The walk of PackShort: it returns true, and writes nothing that was there. -/
import Derived.Test.YtgknpolcabeniaaPackW1
namespace Go.Proofs.Ytgknpolcabeniaa.K
open Go.ChangeShapes Go.WideShapes Go.ChangeAt Go.RowKit
set_option linter.unusedVariables false

def grp (f y : Nat) : Nat := if y = 0 then 0 else (encF f y).length

theorem grp_step (f y : Nat) (hy : y ≠ 0) (h : y < 128 ^ (f + 1)) : ∃ f', grp f y = 1 + grp f' (y / 128) ∧ y / 128 < 128 ^ (f' + 1) := by
  cases f with
  | zero =>
    refine ⟨0, ?_, ?_⟩
    · have : y / 128 = 0 := by omega
      simp [grp, hy, this, encF]
    · omega
  | succ f =>
    refine ⟨f, ?_, ?_⟩
    · unfold grp
      rw [if_neg hy, encF]
      by_cases h1 : y < 128
      · rw [if_pos h1, if_pos (by omega)]; simp
      · rw [if_neg h1, if_neg (by omega)]; simp; omega
    · rw [Nat.pow_succ] at h
      exact Nat.div_lt_of_lt_mul (by rw [Nat.mul_comm]; exact h)

theorem grp_start (x : Nat) (h : x < 128 ^ 10) : ∃ f, (encF 9 x).length = 1 + grp f (x / 128) ∧ x / 128 < 128 ^ (f + 1) := by
  by_cases h0 : x = 0
  · subst h0; exact ⟨0, by simp [grp, encF], by simp⟩
  · obtain ⟨f, h1, h2⟩ := grp_step 9 x h0 h
    refine ⟨f, ?_, h2⟩
    rw [← h1]; simp [grp, h0]

theorem numR_short (x : Int) (j : Nat) (hj : j < (enc x).length) (most : Int) : numR ((enc x).take j) 0 most = (0, [], 21) := by
  unfold numR
  rw [if_pos rfl]
  have : dec 0 0 ((enc x).take j) = .err 21 := short_dec 9 x.toNat 0 0 j (by omega) hj
  rw [this]

set_option maxRecDepth 100000 in
set_option maxHeartbeats 4000000 in
theorem short_walk (a0 a1 a2 : Int) (w : World) (l0 : 0 ≤ a0) (u0 : a0 ≤ 18446744073709551615) (l1 : 0 ≤ a1) (u1 : a1 ≤ 255) (l2 : 0 ≤ a2) (u2 : a2 ≤ 255) :
    Calls Try.prog 6 #[.int .u64 a0, .int .u8 a1, .int .u8 a2] w fun e w' => e = .returned (.bool true) ∧ Below w.heap.size w w' := by
  go_enter Try.func6, Try.ntmps6
  go_wp2_with fail
  refine (known_true _).mono ?_
  rintro en w1 ⟨rfl, hb1⟩
  go_wp2_with fail
  refine (edge_any a0 a1 _ l0 u0 l1 u1).mono ?_
  rintro en w2 ⟨rfl, hb2⟩
  obtain ⟨x0, x1⟩ := edge_bd a0 a1 l0 u0
  obtain ⟨x, hx⟩ : ∃ x : Nat, edgeF a0 a1 = x := ⟨(edgeF a0 a1).toNat, by omega⟩
  rw [hx] at x0 x1 ⊢
  have hB2 := hb1.trans (hb2.mono hb1.size)
  clear hb1 hb2 hx
  go_wp2_with fail
  refine (put_any _ [(x : Int)] _ (IsNums.lit .u64 w2 [(x : Int)] _ _ _ _ rfl rfl) (by intro j hj; simp at hj; subst hj; simp; omega) (by simp)).mono ?_
  rintro en w3 ⟨u3, rfl, hown3, hb3⟩
  have hB3 := (hB2.alloc hB2.size _).trans (hb3.mono (by have := hB2.size; simp; omega))
  rw [show encs [(x : Int)] = enc x by simp [encs]] at hown3
  obtain ⟨hel1, hel2⟩ := enc_len (x : Int)
  have hlt := NumsLt.ofOwn hown3
  obtain ⟨p3, c3, rfl, hc3, -⟩ := id hlt
  have HLT := Lib.hid hlt
  have hx128 : x < 128 ^ 10 := by
    have : (128 : Nat) ^ 10 = 1180591620717411303424 := by decide
    omega
  have hgs : ∃ f, (enc (x : Int)).length = 1 + grp f (x / 128) ∧ x / 128 < 128 ^ (f + 1) := grp_start x hx128
  clear hx128
  obtain ⟨L, hL⟩ : ∃ L, (enc (x : Int)).length = L := ⟨_, rfl⟩
  rw [hL] at hgs hel1 hel2 hc3 ⊢
  have HLn := Lib.hid hL
  have HG := Lib.hid hgs
  clear hb3 hown3 hB2 hlt hgs hL
  go_wp2
  go_loop [9, 10] (fun n y => ∃ (f k m : Nat), n = .int .i64 (k : Int) ∧ y = .int .u64 (m : Int) ∧ L = k + grp f m ∧ m < 128 ^ (f + 1) ∧ (m : Int) ≤ 18446744073709551615) (fun _ y => (intOf y).toNat)
  case atStart =>
    obtain ⟨f, h1, h2⟩ := HG.out
    exact ⟨f, 1, x / 128, rfl, by simp, h1, h2, by omega⟩
  case round =>
    obtain ⟨f, k, m, rfl, rfl, h1, h2, h3⟩ := hrel
    by_cases hm : m = 0
    · subst hm
      obtain rfl : k = L := by simp [grp] at h1; omega
      clear h1 h2 h3
      obtain ⟨q, hq⟩ : ∃ q : Nat, a2 % (k : Int) = q := ⟨(a2 % (k : Int)).toNat, by have := Int.emod_nonneg a2 (show (k : Int) ≠ 0 by omega); omega⟩
      have hqk : q < k := by have := Int.emod_lt_of_pos a2 (show (0 : Int) < k by omega); omega
      have htk := ((HLT.out.take q (by rw [HLn.out]; omega)).nums (Nat.le_refl _))
      have htb : ∀ b ∈ (enc (x : Int)).take q, 0 ≤ b ∧ b ≤ 255 := fun b hb => enc_bytes x x1 b (List.mem_of_mem_take hb)
      have htl : ((enc (x : Int)).take q).length = q := by simp; have := HLn.out; omega
      have hno := numR_short (x : Int) q (by rw [HLn.out]; exact hqk) 18446744073709551615
      generalize (enc (x : Int)).take q = T at htk htb htl hno
      have HT := Lib.hid htk
      have HTB := Lib.hid htb
      have HTL := Lib.hid htl
      have HNO := Lib.hid hno
      clear htk htb htl hno HLn
      go_wp2_with fail
      refine (new_any _ T _ HT.out HTB.out (by rw [HTL.out]; omega)).mono ?_
      rintro en w4 ⟨B, u4, rfl, hBs, hr, hb4⟩
      have hB4 : Below w.heap.size w w4 := hB3.trans (hb4.mono hB3.size)
      have hBz : w.heap.size ≤ B := by have := hB3.size; omega
      clear hb4 hB3 hBs HT HTB HTL HLT
      go_wp2_with fail
      refine (num_any B _ _ _ 18446744073709551615 _ hr (by omega)).mono ?_
      rintro en w5 ⟨rfl, v5, hr5, ho5⟩
      rw [HNO.out] at hr5 ⊢
      have hB5 := hB4.trans (ho5.below hBz hB4.size)
      clear hr hB4 ho5
      go_wp2_with (go_at_call 20; ((with_reducible refine (err_any B _ _ _ _ hr5).mono ?_); rintro en w' ⟨rfl, rfl⟩))
      go_ret
      exact ⟨rfl, hB5⟩
    · obtain ⟨f', h4, h5⟩ := grp_step f m hm h2
      have H4 := Lib.hid h4
      have H5 := Lib.hid h5
      have H1 := Lib.hid h1
      have hgl : grp f m ≥ 1 := by rw [h4]; omega
      have hm1 : 0 < m := by omega
      have hk : k ≤ 10 := by omega
      clear h4 h5 h1 h2 hgl hm
      go_wp2
      go_round
      case rel => exact ⟨f', k + 1, m / 128, by go_num, by simp, by rw [H1.out, H4.out]; omega, H5.out, by omega⟩
      case measure => simp [intOf]; omega

end Go.Proofs.Ytgknpolcabeniaa.K
