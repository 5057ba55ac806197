/- SlotNewest's walk. -/
import Derived.Test.YthecjhjomkpgkaaSlot6
namespace Go.Proofs.Ythecjhjomkpgkaa.K
open Go.ChangeShapes Go.WideShapes Go.ChangeAt Go.RowKit
set_option linter.unusedVariables false

theorem choose_new (secs : List (List Int)) (h2 : secs.length = 2) (c g a q : Nat) (hc0 : 1 ≤ c) (hc : c < 2 ^ 64) (hg : g < 2 ^ 64) (ha : a ≤ 1) (hq : q < 2) (hold : ∀ j, j < 2 → cntS (readS (secs.getD j [])) < c) :
    chooseS (readS ((secs.set q (slotB c g a)).getD 0 [])) (readS ((secs.set q (slotB c g a)).getD 1 [])) = some (c, g, a) := by
  have hr := readS_slot c g a hc0 hc hg ha
  have h0 := hold 0 (by omega)
  have h1 := hold 1 (by omega)
  match secs, h2 with
  | [s0, s1], _ =>
    have h0' : cntS (readS s0) < c := h0
    have h1' : cntS (readS s1) < c := h1
    have hq2 : q = 0 ∨ q = 1 := by omega
    rcases hq2 with rfl | rfl
    · show chooseS (readS (slotB c g a)) (readS s1) = _
      rw [hr]
      unfold chooseS
      rw [decide_eq_false (by show ¬ c < _; omega)]
      simp
    · show chooseS (readS s0) (readS (slotB c g a)) = _
      rw [hr]
      unfold chooseS
      rw [decide_eq_true (by show _ < c; exact h0')]
      simp
theorem cnt_new (secs : List (List Int)) (h2 : secs.length = 2) (c g a q : Nat) (hc0 : 1 ≤ c) (hc : c < 2 ^ 64) (hg : g < 2 ^ 64) (ha : a ≤ 1) (hq : q < 2) (hold : ∀ j, j < 2 → cntS (readS (secs.getD j [])) < c) :
    ∀ j, j < 2 → cntS (readS ((secs.set q (slotB c g a)).getD j [])) < c + 1 := by
  have hr := readS_slot c g a hc0 hc hg ha
  have h0 := hold 0 (by omega)
  have h1 := hold 1 (by omega)
  match secs, h2 with
  | [s0, s1], _ =>
    have h0' : cntS (readS s0) < c := h0
    have h1' : cntS (readS s1) < c := h1
    have hn : cntS (readS (slotB c g a)) < c + 1 := by rw [hr]; show c < c + 1; omega
    intro j hj
    have hq2 : q = 0 ∨ q = 1 := by omega
    have hj2 : j = 0 ∨ j = 1 := by omega
    rcases hq2 with rfl | rfl <;> rcases hj2 with rfl | rfl
    · exact hn
    · exact Nat.lt_succ_of_lt h1'
    · exact Nat.lt_succ_of_lt h0'
    · exact hn

set_option maxRecDepth 100000 in
set_option maxHeartbeats 1000000 in
theorem newest_walk (n f : Nat) (hn : n ≤ 255) (hf : f ≤ 4294967295) (ga : Option Addr) (len cap : Nat) (gs : List Int) (w : World) (hg : IsNums .u64 w (.slice ga len cap) gs) (hl : gs.length = len) (hb : ∀ j, j < gs.length → 0 ≤ gs.getD j 0 ∧ gs.getD j 0 ≤ 18446744073709551615) :
    Calls Try.prog 5 #[.int .u8 n, .slice ga len cap, .int .u32 f] w fun e w' => e = .returned (.bool true) ∧ Below w.heap.size w w' := by
  have HG := Lib.hid hg
  have HL := Lib.hid hl
  have HGB := Lib.hid hb
  clear hg hl hb
  by_cases h12 : len ≤ 12
  · have h12I : ¬ (12 : Int) < len := by omega
    go_enter Try.func5, Try.ntmps5
    go_wp2_with fail
    refine (known_any w).mono ?_
    rintro e w1 ⟨rfl, hb1⟩
    have B1 := Lib.hid hb1
    clear hb1
    go_wp2_with fail
    refine (new_disk 2 w1 (by omega)).mono ?_
    rintro e w2 ⟨B, S, rfl, hS, hd2, hb2⟩
    have HS : Hid (w.heap.size ≤ S) := Lib.hid (Nat.le_trans B1.out.size hS)
    have D2 := Lib.hid hd2
    have B2 := Lib.hid (B1.out.trans (hb2.mono B1.out.size))
    clear hS hd2 hb2 B1
    go_wp2_with fail
    refine (choose_any D2.out (by decide)).mono ?_
    rintro e w3 ⟨rfl, hb3⟩
    rw [show chooseS (readS ((List.replicate 2 zeros).getD 0 [])) (readS ((List.replicate 2 zeros).getD 1 [])) = none by rw [show (List.replicate 2 zeros).getD 0 [] = zeros from rfl, show (List.replicate 2 zeros).getD 1 [] = zeros from rfl, readS_zeros]; rfl]
    rw [show slotO none = .agg #[.int .u64 0, .int .u64 0, .int .i64 0] from rfl, show (none : SlotN).isSome = false from rfl]
    have D3 := Lib.hid ((D2.out.later hb3).alloc (.cells #[.int .u64 0, .int .u64 0, .int .i64 0] 24))
    have hB3 := B2.out.trans (hb3.mono B2.out.size)
    have B3 := Lib.hid (hB3.alloc hB3.size (.cells #[.int .u64 0, .int .u64 0, .int .i64 0] 24))
    clear hb3 hB3 D2 B2
    go_wp2
    go_loopw [10] (fun i wr => ∃ (k : Nat) (secs : List (List Int)), k ≤ len ∧ i = .int .i64 k ∧ IsDisk wr B S (.slice none 0 0) secs [] (-1) ∧ secs.length = 2 ∧ (∀ j, j < 2 → cntS (readS (secs.getD j [])) < f + k + 1) ∧ Below w.heap.size w wr) (fun i _ => len - (intOf i).toNat)
    case atStart =>
      refine ⟨0, _, Nat.zero_le _, rfl, D3.out, rfl, fun j hj => ?_, B3.out⟩
      have hj2 : j = 0 ∨ j = 1 := by omega
      rcases hj2 with rfl | rfl
      · show cntS (readS zeros) < _; rw [readS_zeros]; show 0 < _; omega
      · show cntS (readS zeros) < _; rw [readS_zeros]; show 0 < _; omega
    case round =>
      obtain ⟨k, secs, hk, rfl, hd, h2, hold, hbel⟩ := hrel
      by_cases hlt : k < len
      · obtain ⟨ga', c', e1, h0 | ⟨gb, go, rfl, hgb, hgc⟩⟩ := HG.out
        · have := HL.out; omega
        injection e1 with e1 e2 e3
        subst e1
        clear e2 e3
        have hcell := hgc k (by rw [HL.out]; exact hlt)
        have hgk := HGB.out k (by rw [HL.out]; exact hlt)
        obtain ⟨g, hgg⟩ : ∃ g : Nat, gs.getD k 0 = g := ⟨(gs.getD k 0).toNat, by omega⟩
        rw [hgg] at hcell hgk
        have hcr : wr.cell? ⟨gb, go + k, none⟩ = some (.int .u64 g) := by rw [hbel.cell hgb]; exact hcell
        obtain ⟨c, hc⟩ : ∃ c, f + k + 1 = c := ⟨_, rfl⟩
        obtain ⟨A, hA⟩ : ∃ A, (k + n) % 2 = A := ⟨_, rfl⟩
        rw [hc] at hold
        have hcI : (f : Int) + (k : Int) + 1 = (c : Int) := by omega
        have htm : ((k : Int) + (n : Int)).tmod 2 = (A : Int) := by rw [Int.tmod_eq_emod_of_nonneg (by omega)]; omega
        have hk12 : (k : Int) ≤ 12 := by omega
        have hf32 : (f : Int) ≤ 4294967295 := by omega
        have hn8 : (n : Int) ≤ 255 := by omega
        have hwf : IntKind.u64.wrap (f : Int) = (f : Int) := by rw [IntKind.wrap_u64]; omega
        have hwk : IntKind.u64.wrap (k : Int) = (k : Int) := by rw [IntKind.wrap_u64]; omega
        have hwn : IntKind.i64.wrap (n : Int) = (n : Int) := IntWalk.i64_in _ (by omega)
        have hwfk : IntKind.u64.wrap ((f : Int) + (k : Int)) = (f : Int) + (k : Int) := by rw [IntKind.wrap_u64]; omega
        have hwc : IntKind.u64.wrap ((f : Int) + (k : Int) + 1) = (c : Int) := by rw [IntKind.wrap_u64]; omega
        have hkI : (k : Int) < len := by omega
        have D4 := Lib.hid hd
        have H2 := Lib.hid h2
        have HOLD := Lib.hid hold
        have BR := Lib.hid hbel
        have HC := Lib.hid hc
        have HA := Lib.hid hA
        clear hd h2 hold hbel hc hA hgc hgg hcell
        go_wp2_with fail
        have hx4 := Blk.alloc wr 24 #[.int .u64 c, .int .u64 g, .int .i64 A]
        have hd4 := D4.out.alloc (.cells #[.int .u64 c, .int .u64 g, .int .i64 A] 24)
        have hB4 := BR.out.alloc BR.out.size (.cells #[.int .u64 c, .int .u64 g, .int .i64 A] 24)
        have hfr := D4.out.fresh
        have hc1 : 1 ≤ c := by have := HC.out; omega
        have hc64 : c < 2 ^ 64 := by have := HC.out; omega
        have hg64 : g < 2 ^ 64 := by omega
        have hA1 : A ≤ 1 := by have := HA.out; omega
        refine (set_live hd4 c g A (c % 2) A (.inl rfl) (by omega) (by omega) rfl (by rw [H2.out]; omega)).mono ?_
        rintro e w5 ⟨rfl, hd5, hk5⟩
        have D5 := Lib.hid hd5
        have hB5 := hB4.trans (hd4.below hk5 HS.out hB4.size)
        have hx5 := hx4.keep hk5 hfr
        have B5 := Lib.hid hB5
        have X5 := Lib.hid hx5
        have CN := Lib.hid (choose_new secs H2.out c g A (c % 2) hc1 hc64 hg64 hA1 (by omega) HOLD.out)
        have CM := Lib.hid (cnt_new secs H2.out c g A (c % 2) hc1 hc64 hg64 hA1 (by omega) HOLD.out)
        have HL2 : Hid ((secs.set (c % 2) (slotB c g A)).length = 2) := Lib.hid (by rw [List.length_set]; exact H2.out)
        obtain ⟨sn, hsn⟩ : ∃ x, secs.set (c % 2) (slotB c g A) = x := ⟨_, rfl⟩
        rw [hsn] at D5 CN CM HL2
        clear hx4 hd4 hB4 hfr hc1 hc64 hg64 hA1 hd5 hk5 hB5 hx5 hsn
        go_wp2_with fail
        refine (choose_any D5.out (by rw [HL2.out]; omega)).mono ?_
        rintro e w6 ⟨rfl, hb6⟩
        rw [CN.out, show slotO (some (c, g, A)) = .agg #[.int .u64 c, .int .u64 g, .int .i64 A] from rfl, show (some (c, g, A) : SlotN).isSome = true from rfl]
        have D7 := Lib.hid ((D5.out.later hb6).alloc (.cells #[.int .u64 c, .int .u64 g, .int .i64 A] 24))
        have hB6 := B5.out.trans (hb6.mono B5.out.size)
        have B7 := Lib.hid (hB6.alloc hB6.size (.cells #[.int .u64 c, .int .u64 g, .int .i64 A] 24))
        have hx7 := (X5.out.below hb6 X5.out.lt).keep (Keep.alloc (fun _ => False) w6 (.cells #[.int .u64 c, .int .u64 g, .int .i64 A] 24)) (fun h => h)
        have x0 := hx7.cell 0
        have x1 := hx7.cell 1
        have x2 := hx7.cell 2
        clear hb6 hB6 hx7 D5 B5 X5
        go_wp2
        go_roundw
        case rel => exact ⟨k + 1, sn, by omega, by go_num, D7.out, HL2.out, (by rw [show f + (k + 1) + 1 = c + 1 by have := HC.out; omega]; exact CM.out), B7.out⟩
        case measure => simp [intOf]; omega
      · obtain rfl : k = len := by omega
        go_wp2
        go_ret
        exact ⟨rfl, hbel⟩
  · have h12I : (12 : Int) < len := by omega
    go_enter Try.func5, Try.ntmps5
    go_wp2_with fail
    refine (known_any w).mono ?_
    rintro e w1 ⟨rfl, hb1⟩
    have B1 := Lib.hid hb1
    clear hb1
    go_wp2
    go_ret
    exact ⟨rfl, B1.out⟩
end Go.Proofs.Ythecjhjomkpgkaa.K
