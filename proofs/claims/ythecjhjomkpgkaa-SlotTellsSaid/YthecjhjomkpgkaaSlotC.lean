/- SlotTells' walk. -/
import Derived.Test.YthecjhjomkpgkaaSlotB
namespace Go.Proofs.Ythecjhjomkpgkaa.K
open Go.ChangeShapes Go.WideShapes Go.ChangeAt Go.RowKit
set_option linter.unusedVariables false

theorem Str.takeS {w : World} {g c : Nat} {L : List Int} (h : Str w (.slice (some ⟨g, 0, none⟩) 64 c) L) (i : Nat) (hl : L.length = 64) (hi : i < 64) : Str w (.slice (some ⟨g, 0, none⟩) i c) (L.take i) := by
  obtain ⟨⟨a', c', e1, h1⟩, h2, -⟩ := h
  have hli : (L.take i).length = i := by rw [List.length_take]; omega
  refine ⟨⟨_, c, by rw [hli], ?_⟩, fun x hx => h2 x (List.mem_of_mem_take hx), _, c, by rw [hli], fun h => by omega⟩
  by_cases h0 : i = 0
  · left; rw [hli]; exact h0
  · rcases h1 with h1 | ⟨b, off, e2, h3, h4⟩
    · omega
    · injection e1 with e1 e5 e6
      subst e1
      refine .inr ⟨b, off, e2, h3, fun j hj => ?_⟩
      rw [hli] at hj
      rw [h4 j (by omega)]
      simp [List.getD, List.getElem?_take, hj]
theorem and_u64 (x k : Nat) : ∃ y : Nat, bits .and .u64 (x : Int) (k : Int) = (y : Int) ∧ y < 18446744073709551616 := by
  have h : ∀ n : Int, 0 ≤ IntKind.u64.wrap n ∧ IntKind.u64.wrap n < 18446744073709551616 := fun n => by rw [IntKind.wrap_u64]; omega
  have hb : 0 ≤ bits .and .u64 (x : Int) (k : Int) ∧ bits .and .u64 (x : Int) (k : Int) < 18446744073709551616 := by
    unfold bits
    split <;> first | exact h _ | (constructor <;> simp)
  exact ⟨(bits .and .u64 (x : Int) (k : Int)).toNat, by omega, by omega⟩
theorem and_i64 (x k : Int) : -9223372036854775808 ≤ bits .and .i64 x k ∧ bits .and .i64 x k ≤ 9223372036854775807 := by
  have h : ∀ n : Int, -9223372036854775808 ≤ IntKind.i64.wrap n ∧ IntKind.i64.wrap n ≤ 9223372036854775807 := fun n => by rw [IntKind.wrap_i64]; omega
  unfold bits
  split <;> first | exact h _ | (constructor <;> simp)
theorem area_nat (a : Int) (h : a ≤ 9223372036854775807) : ∃ A : Nat, ((a = (A : Int)) ∨ (a < 0 ∧ A = 0)) ∧ A ≤ 9223372036854775807 := by
  by_cases h0 : 0 ≤ a
  · exact ⟨a.toNat, .inl (by omega), by omega⟩
  · exact ⟨0, .inr ⟨by omega, rfl⟩, by omega⟩

theorem own_blk {W : World} {base : Nat} {v : Value} {L : List Int} (h : W.ownsRow base 5 1 v 64 (B8 L)) : ∃ g cap cur, v = .slice (some ⟨g, 0, none⟩) 64 cap ∧ base ≤ g ∧ 64 ≤ cap ∧ Blk W g 5 cur ∧ cur.take 64 = B8 L ∧ 64 ≤ cur.length := by
  rcases h.2 with ⟨-, h0⟩ | ⟨g, cap, cur, e, hb, hk, hle, hcm, hsz, htk⟩
  · cases h0
  · refine ⟨g, cap, cur.toList, e, hb, hle, ?_, htk, by rw [Array.length_toList, hsz]; omega⟩
    unfold Blk
    rw [Array.toArray_toList]
    exact hk
theorem blk_cell {W : World} {g : Nat} {cur : List Value} {L : List Int} (h : Blk W g 5 cur) (ht : cur.take 64 = B8 L) (hl : L.length = 64) (i : Nat) (hi : i < 64) : W.cell? ⟨g, i, none⟩ = some (.int .u8 (L.getD i 0)) := by
  rw [h.cell, ← B8_get L i (by omega), ← ht, List.getElem?_take, if_pos hi]
theorem blk_set_nums {W : World} {g cap : Nat} {cur : List Value} {L : List Int} (h : Blk W g 5 cur) (ht : cur.take 64 = B8 L) (hl : L.length = 64) (i : Nat) (hi : i < 64) (y : Int) : IsNums .u8 (W.setCell ⟨g, i, none⟩ (.int .u8 y)) (.slice (some ⟨g, 0, none⟩) 64 cap) (L.set i y) := by
  refine (h.setCell i _).nums 0 cap (L.set i y) 64 (by simp [hl]) (fun j hj => ?_)
  rw [List.length_set, hl] at hj
  rw [Nat.zero_add, ← B8_set, ← ht, ← List.take_set, List.getElem?_take, if_pos hj]
theorem xor_byte (a b : Int) : 0 ≤ bits .xor .u8 a b ∧ bits .xor .u8 a b ≤ 255 := by
  have h : ∀ n : Int, 0 ≤ IntKind.u8.wrap n ∧ IntKind.u8.wrap n ≤ 255 := fun n => by rw [IntKind.wrap_u8]; omega
  unfold bits
  split <;> first | exact h _ | (constructor <;> simp)

set_option maxRecDepth 100000 in
set_option maxHeartbeats 4000000 in
theorem stells_walk (c g : Nat) (a : Int) (ra : Option Addr) (rl rc : Nat) (r : List Int) (t xv : Nat) (w : World) (hc : c < 18446744073709551616) (hg : g < 18446744073709551616) (a0 : -9223372036854775808 ≤ a) (a1 : a ≤ 9223372036854775807)
    (hr : IsNums .u8 w (.slice ra rl rc) r) (hrl : r.length = rl) (hrc : rl ≤ rc) (hrb : ∀ x ∈ r, 0 ≤ x ∧ x ≤ 255) (ht : t ≤ 65535) (hxv : xv ≤ 255) :
    Calls Try.prog 3 #[.agg #[.int .u64 c, .int .u64 g, .int .i64 a], .slice ra rl rc, .int .u16 t, .int .u8 xv] w fun e w' => e = .returned (.bool true) ∧ Below w.heap.size w w' := by
  have R0 := Lib.hid hr
  have HRL := Lib.hid hrl
  have HRC := Lib.hid hrc
  have HRB := Lib.hid hrb
  have B0 : Hid (Below w.heap.size w (w.alloc (.cells #[.int .u64 c, .int .u64 g, .int .i64 a] 24))) := Lib.hid ((Below.refl _ w).alloc (Nat.le_refl _) _)
  have X0 : Hid (Blk (w.alloc (.cells #[.int .u64 c, .int .u64 g, .int .i64 a] 24)) w.heap.size 24 [.int .u64 c, .int .u64 g, .int .i64 a]) := Lib.hid (Blk.alloc w 24 #[.int .u64 c, .int .u64 g, .int .i64 a])
  clear hr hrl hrc hrb
  by_cases h70 : rl ≤ 70
  · have h70I : ¬ (70 : Int) < rl := by omega
    go_enter Try.func3, Try.ntmps3
    go_wp2_with fail
    refine (known_any _).mono ?_
    rintro e w1 ⟨rfl, hb1⟩
    have B1 := Lib.hid (B0.out.trans (hb1.mono B0.out.size))
    have hx1 := X0.out.below hb1 X0.out.lt
    have x0 := hx1.cell 0
    have x1 := hx1.cell 1
    have x2 := hx1.cell 2
    obtain ⟨c', hc', hc1⟩ := and_u64 c 4095
    obtain ⟨g', hg', hg1⟩ := and_u64 g 255
    obtain ⟨a', ha'⟩ : ∃ a', bits .and .i64 a 1 = a' := ⟨_, rfl⟩
    have ha1 := and_i64 a 1
    rw [ha'] at ha1
    rw [show ((4095 : Nat) : Int) = 4095 from rfl] at hc'
    rw [show ((255 : Nat) : Int) = 255 from rfl] at hg'
    clear hb1 hx1 X0 B0
    go_wp2
    have hb2 : Below w1.heap.size w1 (w1.alloc (.cells #[.int .u64 c, .int .u64 g, .int .i64 a, .int .u64 c', .int .u64 g', .int .i64 a'] 24)) := (Below.refl _ _).alloc (Nat.le_refl _) _
    have hx2 := Blk.alloc w1 24 #[.int .u64 c, .int .u64 g, .int .i64 a, .int .u64 c', .int .u64 g', .int .i64 a']
    obtain ⟨w2, hw2⟩ : ∃ x, w1.alloc (.cells #[.int .u64 c, .int .u64 g, .int .i64 a, .int .u64 c', .int .u64 g', .int .i64 a'] 24) = x := ⟨_, rfl⟩
    rw [hw2] at hb2 hx2 ⊢
    have B2 := Lib.hid (B1.out.trans (hb2.mono B1.out.size))
    obtain ⟨N2, hN2⟩ : ∃ x, w1.heap.size = x := ⟨_, rfl⟩
    rw [hN2] at hx2 ⊢
    have X2 := Lib.hid hx2
    have CB := Lib.hid hc
    have CB1 := Lib.hid hc1
    have GB := Lib.hid hg
    have GB1 := Lib.hid hg1
    have AB := Lib.hid (And.intro a0 a1)
    have AB1 := Lib.hid ha1
    clear hb2 hx2 hw2 hN2 B1 hc hc1 hg hg1 a0 a1 ha1 hc' hg' ha' x0 x1 x2
    go_loopw [38] (fun i wr => ∃ k : Nat, k ≤ 2 ∧ i = .int .i64 k ∧ Below w2.heap.size w2 wr) (fun i _ => 2 - (intOf i).toNat)
    case atStart => exact ⟨0, Nat.zero_le _, rfl, Below.refl _ _⟩
    case round =>
      obtain ⟨k, hk, rfl, hbel⟩ := hrel
      by_cases hlt : k < 2
      · have hxr := X2.out.below hbel X2.out.lt
        obtain ⟨C, G, A0, hCB, hGB, hAB, q0, q1, q2⟩ : ∃ (C G : Nat) (A0 : Int), C < 18446744073709551616 ∧ G < 18446744073709551616 ∧ (-9223372036854775808 ≤ A0 ∧ A0 ≤ 9223372036854775807) ∧ wr.cell? ⟨N2, k * 3, none⟩ = some (.int .u64 C) ∧ wr.cell? ⟨N2, k * 3 + 1, none⟩ = some (.int .u64 G) ∧ wr.cell? ⟨N2, k * 3 + 2, none⟩ = some (.int .i64 A0) := by
          have hk2 : k = 0 ∨ k = 1 := by omega
          rcases hk2 with rfl | rfl
          · exact ⟨c, g, a, CB.out, GB.out, AB.out, by rw [hxr.cell]; rfl, by rw [hxr.cell]; rfl, by rw [hxr.cell]; rfl⟩
          · exact ⟨c', g', a', CB1.out, GB1.out, AB1.out, by rw [hxr.cell]; rfl, by rw [hxr.cell]; rfl, by rw [hxr.cell]; rfl⟩
        obtain ⟨A, hA, hA1⟩ := area_nat A0 hAB.2
        have HA := Lib.hid hA
        have hx3 := Blk.alloc wr 24 #[.int .u64 C, .int .u64 G, .int .i64 A0]
        have F3 := Lib.hid (hbel.alloc hbel.size (.cells #[.int .u64 C, .int .u64 G, .int .i64 A0] 24))
        have X3 := Lib.hid hx3
        have hkI : (k : Int) < 2 := by omega
        clear hA hx3 hbel hxr
        go_wp2_with fail
        refine (sput_at _ C G A A0 HA.out (by omega)).mono ?_
        rintro e w4 ⟨rfl, hg4, hb4⟩
        obtain ⟨P, hP⟩ : ∃ P, (wr.alloc (.cells #[.int .u64 C, .int .u64 G, .int .i64 A0] 24)).heap.size + 1 = P := ⟨_, rfl⟩
        rw [hP] at hg4 ⊢
        have hx4 := X3.out.below hb4 X3.out.lt
        have hn4 : IsNums .u8 w4 (.slice (some ⟨P, 0, none⟩) 64 64) (slotB C G A) := hg4.nums 0 64 _ 64 rfl (fun j hj => by rw [Nat.zero_add])
        have F4 := Lib.hid (F3.out.trans (hb4.mono F3.out.size))
        have N4 := Lib.hid hn4
        have X4 := Lib.hid hx4
        have y0 := hx4.cell 0
        have y1 := hx4.cell 1
        have y2 := hx4.cell 2
        clear hb4 hg4 hn4 hx4 hP X3 F3 q0 q1 q2
        go_wp2_with fail
        refine (as_any w4 C G A0).mono ?_
        rintro e w5 ⟨rfl, hb5⟩
        have F5 := Lib.hid (F4.out.trans (hb5.mono F4.out.size))
        have N5 := Lib.hid (N4.out.below hb5 (Nat.le_refl _))
        clear hb5 y0 y1 y2 F4 N4 X4
        go_wp2_with fail
        refine (pput_any w5 C G A A0 HA.out (by omega)).mono ?_
        rintro e w6 ⟨u6, rfl, ho6, hb6⟩
        obtain ⟨g6, c6, cur6, hu6, hg6, hcap6, hbk6, -, -⟩ := own_blk ho6
        subst hu6
        have hlt6 := hbk6.lt
        have hn6 : IsNums .u8 w6 (.slice (some ⟨g6, 0, none⟩) 64 c6) (slotB C G A) := IsNums.ofOwn ho6
        have F6 := Lib.hid (F5.out.trans (hb6.mono F5.out.size))
        have hv5 := conv_str (P := Try.prog) (N5.out.below hb6 (Nat.le_refl _)) 25 5 Try.underlying25 Try.underlying5 9 Try.underlying9
        have hv6 := conv_str (P := Try.prog) hn6 25 5 Try.underlying25 Try.underlying5 9 Try.underlying9
        have O6 := Lib.hid ho6
        have N6 := Lib.hid hn6
        clear hb6 ho6 hn6 F5 N5 hbk6 hg6
        obtain ⟨L, hL⟩ : ∃ L, slotB C G A = L := ⟨_, rfl⟩
        have HSEC : Hid (Sec L) := Lib.hid (by rw [← hL]; exact slotB_sec C G A)
        rw [hL] at hv5 hv6 O6 N6
        clear hL
        have hs6 := F6.out.size
        obtain ⟨i7, hi7e⟩ : ∃ i, t % 64 = i := ⟨_, rfl⟩
        have hi7 : i7 < 64 := by omega
        have htm : (t : Int).tmod 64 = (i7 : Int) := by rw [Int.tmod_eq_emod_of_nonneg (by omega)]; omega
        have hwt : IntKind.i64.wrap (t : Int) = (t : Int) := IntWalk.i64_in _ (by omega)
        have hi7I : (i7 : Int) < 64 := by omega
        have hi70 : (0 : Int) ≤ i7 := by omega
        obtain ⟨l7, hL7⟩ : ∃ x, L.getD i7 0 = x := ⟨_, rfl⟩
        obtain ⟨y7, hy7⟩ : ∃ y, bits .xor .u8 l7 (xv : Int) = y := ⟨_, rfl⟩
        have hyb := xor_byte l7 (xv : Int)
        rw [hy7] at hyb
        have YB := Lib.hid hyb
        clear hyb hi7e
        go_wp2_with (at_builtin; (refine wpList_appN rfl (.const (.slice none 0 0)) (.tmp 52) 25 rfl w6.heap.size 5 .u8 1 Try.underlying25 info_u8 (by omega) _ 0 [] rfl (World.ownsRow_nil _ _ _ _) _ L rfl N6.out (by rw [HSEC.out.1]; omega) (Nat.le_refl _) ?_); intro v7 w7 hown7 hb7; rw [HSEC.out.1, Nat.zero_add, List.nil_append] at hown7; have O7 := Lib.hid hown7; have HB7 := Lib.hid hb7; obtain ⟨g7, cap7, cur7, hv7, hg7, hcap7, hbk7, htk7, hln7⟩ := own_blk hown7; subst hv7; have hcl7 := blk_cell hbk7 htk7 HSEC.out.1 i7 hi7; have hfr7 := hbk7.free i7; have K7 := Lib.hid hbk7; have T7 := Lib.hid htk7; have G7 := Lib.hid hg7; rw [hL7] at hcl7; clear hown7 hb7 hbk7 htk7 hln7 hg7)
        obtain ⟨w8, hw8⟩ : ∃ x, w7.setCell ⟨g7, i7, none⟩ (.int .u8 y7) = x := ⟨_, rfl⟩
        rw [hw8]
        have hb8 : Below w6.heap.size w6 w8 := by rw [← hw8]; exact HB7.out.setCell G7.out _
        have F8 := Lib.hid (F6.out.trans (hb8.mono F6.out.size))
        have hd8 : IsNums .u8 w8 (.slice (some ⟨g7, 0, none⟩) 64 cap7) (L.set i7 y7) := by rw [← hw8]; exact blk_set_nums K7.out T7.out HSEC.out.1 i7 hi7 y7
        have SC8 : Hid (Str w8.drew (.slice (some ⟨g6, 0, none⟩) 64 c6) L) := Lib.hid ⟨(N6.out.below hb8 (Nat.le_refl _)).below (Below.refl w8.heap.size w8).drew (Nat.le_refl _), HSEC.out.2, _, c6, by rw [HSEC.out.1], fun _ => hcap6⟩
        have SD8 : Hid (Str w8.drew (.slice (some ⟨g7, 0, none⟩) 64 cap7) (L.set i7 y7)) := Lib.hid ⟨hd8.below (Below.refl w8.heap.size w8).drew (Nat.le_refl _), fun x hx => (by
          rcases List.mem_or_eq_of_mem_set hx with h | h
          · exact HSEC.out.2 x h
          · rw [h]; exact YB.out), _, cap7, by rw [List.length_set, HSEC.out.1], fun _ => hcap7⟩
        have SR8 : Hid (Str w8.drew (.slice ra rl rc) r) := Lib.hid ⟨(R0.out.below ((B2.out.trans (F8.out.mono B2.out.size)).drew) (Nat.le_refl _)), HRB.out, ra, rc, by rw [HRL.out], fun h => by have := HRC.out; have := HRL.out; omega⟩
        have hic : ¬ c6 < i7 := by omega
        have hicI : (i7 : Int) ≤ c6 := by omega
        obtain ⟨M, hM⟩ : ∃ M, w8.drew.heap.size = M := ⟨_, rfl⟩
        clear hb8 hd8 hw8 K7 T7 G7 HB7 N6 O6 hs6 hv5 hv6 hlt6 hcl7 hfr7 F6
        refine regionE_begin 14 (fun _ => True) (by kernel_rfl) ?_
        refine stepE_any 0 (some 65) (v := ?vm0) (fun _ => trivial) rfl (by rfl) (by kernel_rfl) (by kernel_rfl) (by kernel_rfl) (by decide) (fun _ _ _ h => h) (by rfl) ?ym0 ?nm0
        case ym0 => intro W; go_simp; try with_reducible rfl
        try simp only [Act.put, List.setIfInBounds_toArray, List.set_cons_zero, List.set_cons_succ]
        refine stepE_any 1 (some 66) (v := ?vm1) (fun _ => trivial) rfl (by rfl) (by kernel_rfl) (by kernel_rfl) (by kernel_rfl) (by decide) (fun _ _ _ h => h) (by rfl) ?ym1 ?nm1
        case ym1 => intro W; go_simp; try with_reducible rfl
        try simp only [Act.put, List.setIfInBounds_toArray, List.set_cons_zero, List.set_cons_succ]
        refine stepE_any 2 (some 67) (v := ?vm2) (fun _ => trivial) rfl (by rfl) (by kernel_rfl) (by kernel_rfl) (by kernel_rfl) (by decide) (fun _ _ _ h => h) (by rfl) ?ym2 ?nm2
        case ym2 => intro W; go_simp; try with_reducible rfl
        try simp only [Act.put, List.setIfInBounds_toArray, List.set_cons_zero, List.set_cons_succ]
        refine stepE_any 3 (some 68) (v := ?vm3) (fun _ => trivial) rfl (by rfl) (by kernel_rfl) (by kernel_rfl) (by kernel_rfl) (by decide) (fun _ _ _ h => h) (by rfl) ?ym3 ?nm3
        case ym3 => intro W; go_simp; try with_reducible rfl
        try simp only [Act.put, List.setIfInBounds_toArray, List.set_cons_zero, List.set_cons_succ]
        refine stepE_any 5 (some 70) (v := ?vm5) (fun _ => trivial) rfl (by rfl) (by kernel_rfl) (by kernel_rfl) (by kernel_rfl) (by decide) (fun _ _ _ h => h) (by rfl) ?ym5 ?nm5
        case ym5 => intro W; go_simp; try with_reducible rfl
        try simp only [Act.put, List.setIfInBounds_toArray, List.set_cons_zero, List.set_cons_succ]
        refine stepE_any 7 (some 72) (v := ?vm7) (fun _ => trivial) rfl (by rfl) (by kernel_rfl) (by kernel_rfl) (by kernel_rfl) (by decide) (fun _ _ _ h => h) (by rfl) ?ym7 ?nm7
        case ym7 => intro W; go_simp; try with_reducible rfl
        try simp only [Act.put, List.setIfInBounds_toArray, List.set_cons_zero, List.set_cons_succ]
        refine stepE_any 8 (some 73) (v := ?vm8) (fun _ => trivial) rfl (by rfl) (by kernel_rfl) (by kernel_rfl) (by kernel_rfl) (by decide) (fun _ _ _ h => h) (by rfl) ?ym8 ?nm8
        case ym8 => intro W; go_simp; try with_reducible rfl
        try simp only [Act.put, List.setIfInBounds_toArray, List.set_cons_zero, List.set_cons_succ]
        refine stepE_any 9 (some 74) (v := ?vm9) (fun _ => trivial) rfl (by rfl) (by kernel_rfl) (by kernel_rfl) (by kernel_rfl) (by decide) (fun _ _ _ h => h) (by rfl) ?ym9 ?nm9
        case ym9 => intro W; go_simp; try with_reducible rfl
        try simp only [Act.put, List.setIfInBounds_toArray, List.set_cons_zero, List.set_cons_succ]
        refine stepE_any 10 (some 75) (v := ?vm10) (fun _ => trivial) rfl (by rfl) (by kernel_rfl) (by kernel_rfl) (by kernel_rfl) (by decide) (fun _ _ _ h => h) (by rfl) ?ym10 ?nm10
        case ym10 => intro W; go_simp; try with_reducible rfl
        try simp only [Act.put, List.setIfInBounds_toArray, List.set_cons_zero, List.set_cons_succ]
        refine stepE_any 11 (some 76) (v := ?vm11) (fun _ => trivial) rfl (by rfl) (by kernel_rfl) (by kernel_rfl) (by kernel_rfl) (by decide) (fun _ _ _ h => h) (by rfl) ?ym11 ?nm11
        case ym11 => intro W; go_simp; try with_reducible rfl
        try simp only [Act.put, List.setIfInBounds_toArray, List.set_cons_zero, List.set_cons_succ]
        refine stepE_any 12 (some 77) (v := ?vm12) (fun _ => trivial) rfl (by rfl) (by kernel_rfl) (by kernel_rfl) (by kernel_rfl) (by decide) (fun _ _ _ h => h) (by rfl) ?ym12 ?nm12
        case ym12 => intro W; go_simp; try with_reducible rfl
        try simp only [Act.put, List.setIfInBounds_toArray, List.set_cons_zero, List.set_cons_succ]
        refine stepE_any 13 (some 78) (v := ?vm13) (fun _ => trivial) rfl (by rfl) (by kernel_rfl) (by kernel_rfl) (by kernel_rfl) (by decide) (fun _ _ _ h => h) (by rfl) ?ym13 ?nm13
        case ym13 => intro W; go_simp; try with_reducible rfl
        try simp only [Act.put, List.setIfInBounds_toArray, List.set_cons_zero, List.set_cons_succ]
        refine stepE_any 16 (some 81) (v := ?vm16) (fun _ => trivial) rfl (by rfl) (by kernel_rfl) (by kernel_rfl) (by kernel_rfl) (by decide) (fun _ _ _ h => h) (by rfl) ?ym16 ?nm16
        case ym16 => intro W; go_simp; try with_reducible rfl
        try simp only [Act.put, List.setIfInBounds_toArray, List.set_cons_zero, List.set_cons_succ]
        -- 4: builtin:append -> 69
        refine stepE_only 4 rfl (by kernel_rfl) (by rfl) (fun K' hK => ?_)
        refine wp_appN (.const (.slice none 0 0)) (.tmp 68) 25 rfl M 5 .u8 1 Try.underlying25 info_u8 (by omega) _ 0 [] (World.ownsRow_nil _ _ _ _) (.slice (some ⟨g6, 0, none⟩) 64 c6) L SC8.out.1 (by rw [HSEC.out.1]; omega) (Nat.le_of_eq hM.symm) (by rfl) (by rfl) (fun v9 w9 hown9 hb9 => ?_)
        rw [HSEC.out.1, Nat.zero_add, List.nil_append] at hown9
        have O9 := Lib.hid hown9
        have BB9 := Lib.hid hb9
        refine hK _ _ trivial ?_
        clear hown9 hb9
        clear hK K'
        try simp only [Act.put, List.setIfInBounds_toArray, List.set_cons_zero, List.set_cons_succ]
        -- 6: builtin:append -> 71
        refine stepE_only 6 rfl (by kernel_rfl) (by rfl) (fun K' hK => ?_)
        refine wp_appN (.tmp 69) (.tmp 70) 25 rfl M 5 .u8 1 Try.underlying25 info_u8 (by omega) v9 64 (B8 L) O9.out (.slice ra rl rc) r (SR8.out.1.below (BB9.out.mono (Nat.le_of_eq hM)) (Nat.le_refl _)) (by rw [HRL.out]; omega) (by have := BB9.out.size; omega) (by rfl) (by rfl) (fun v10 w10 hown10 hb10 => ?_)
        have O10 := Lib.hid (show w10.ownsRow M 5 1 v10 (64 + r.length) (B8 (L ++ r)) by rw [B8_append]; exact hown10)
        have BB10 := Lib.hid (BB9.out.trans hb10)
        obtain ⟨p10, c10, hv10⟩ := ownsRow_shape hown10
        subst hv10
        refine hK _ _ trivial ?_
        clear hown10 hb10
        clear hK K'
        try simp only [Act.put, List.setIfInBounds_toArray, List.set_cons_zero, List.set_cons_succ]
        -- 14: buildSlice -> 79
        refine stepE_end 14 rfl (by kernel_rfl) (by rfl) (by rfl) (fun K' hK => ?_)
        go_simp
        refine hK _ _ ?_
        clear hK K'
        try simp only [Act.put, List.setIfInBounds_toArray, List.set_cons_zero, List.set_cons_succ]
        refine stepE_any 15 (some 80) (v := ?vm15) (fun h => (Bool.false_ne_true (h.symm.trans (by rfl))).elim) rfl (by rfl) (by kernel_rfl) (by kernel_rfl) (by kernel_rfl) (by decide) (fun _ _ _ h => h) (by rfl) ?ym15 ?nm15
        case ym15 => intro W; go_simp; try with_reducible rfl
        try simp only [Act.put, List.setIfInBounds_toArray, List.set_cons_zero, List.set_cons_succ]
        refine wpAnyE_done (by kernel_rfl) ?_ _
        have hM6 : M ≤ w10.heap.size := by have := BB10.out.size; omega
        have BD : Hid (Below w8.drew.heap.size w8.drew (w10.alloc (.cells #[.slice (some ⟨g6, 0, none⟩) 64 c6, .slice (some ⟨g7, 0, none⟩) 64 cap7, .slice ra rl rc, .slice p10 (64 + r.length) c10, .slice (some ⟨g6, 0, none⟩) i7 c6] 25))) := Lib.hid ((BB10.out.mono (Nat.le_of_eq hM)).alloc (by rw [hM]; exact hM6) _)
        have hx11 := Blk.alloc w10 25 #[.slice (some ⟨g6, 0, none⟩) 64 c6, .slice (some ⟨g7, 0, none⟩) 64 cap7, .slice ra rl rc, .slice p10 (64 + r.length) c10, .slice (some ⟨g6, 0, none⟩) i7 c6]
        have hn10 : IsNums .u8 w10 (.slice p10 (64 + r.length) c10) (L ++ r) := IsNums.ofOwn O10.out
        have hl10 : (L ++ r).length = 64 + r.length := by rw [List.length_append, HSEC.out.1]
        have hc10 : 64 ≤ c10 := by
          rcases O10.out.2 with ⟨-, h0⟩ | ⟨g, cap, cur, e, -, -, hle, -⟩
          · omega
          · injection e with e1 e2 e3; omega
        have hs10 : Str (w10.alloc (.cells #[.slice (some ⟨g6, 0, none⟩) 64 c6, .slice (some ⟨g7, 0, none⟩) 64 cap7, .slice ra rl rc, .slice p10 (64 + r.length) c10, .slice (some ⟨g6, 0, none⟩) i7 c6] 25)) (.slice p10 (64 + r.length) c10) (L ++ r) := ⟨hn10.alloc _, fun x hx => (by
          rcases List.mem_append.1 hx with h | h
          · exact HSEC.out.2 x h
          · exact HRB.out x h), p10, c10, by rw [hl10], fun _ => hc10⟩
        have hstr : ∀ m, m < 5 → ∃ p n cc bs, ([.slice (some ⟨g6, 0, none⟩) 64 c6, .slice (some ⟨g7, 0, none⟩) 64 cap7, .slice ra rl rc, .slice p10 (64 + r.length) c10, .slice (some ⟨g6, 0, none⟩) i7 c6] : List Value)[m]? = some (.slice p n cc) ∧ Str (w10.alloc (.cells #[.slice (some ⟨g6, 0, none⟩) 64 c6, .slice (some ⟨g7, 0, none⟩) 64 cap7, .slice ra rl rc, .slice p10 (64 + r.length) c10, .slice (some ⟨g6, 0, none⟩) i7 c6] 25)) (.slice p n cc) bs := fun m hm => (by
          have hm5 : m = 0 ∨ m = 1 ∨ m = 2 ∨ m = 3 ∨ m = 4 := by omega
          rcases hm5 with rfl | rfl | rfl | rfl | rfl
          · exact ⟨_, _, _, _, rfl, SC8.out.below BD.out⟩
          · exact ⟨_, _, _, _, rfl, SD8.out.below BD.out⟩
          · exact ⟨_, _, _, _, rfl, SR8.out.below BD.out⟩
          · exact ⟨_, _, _, _, rfl, hs10⟩
          · exact ⟨_, _, _, _, rfl, (SC8.out.below BD.out).takeS i7 HSEC.out.1 (by omega)⟩)
        have F11 := Lib.hid (F8.out.drew.trans (BD.out.mono F8.out.drew.size))
        obtain ⟨w11, hw11⟩ : ∃ x, w10.alloc (.cells #[.slice (some ⟨g6, 0, none⟩) 64 c6, .slice (some ⟨g7, 0, none⟩) 64 cap7, .slice ra rl rc, .slice p10 (64 + r.length) c10, .slice (some ⟨g6, 0, none⟩) i7 c6] 25) = x := ⟨_, rfl⟩
        rw [hw11] at hx11 hstr F11 ⊢
        obtain ⟨N11, hN11⟩ : ∃ x, w10.heap.size = x := ⟨_, rfl⟩
        rw [hN11] at hx11 ⊢
        have X11 := Lib.hid hx11
        have ST := Lib.hid hstr
        clear hM6 BD hx11 hn10 hl10 hc10 hs10 hstr hw11 hN11 O10 O9 BB9 BB10 SC8 SD8 SR8 F8 hM YB hic hicI
        go_wp2
        go_loopw [81] (fun i wr => ∃ m : Nat, m ≤ 5 ∧ i = .int .i64 m ∧ Below w11.heap.size w11 wr) (fun i _ => 5 - (intOf i).toNat)
        case atStart => exact ⟨0, Nat.zero_le _, rfl, Below.refl _ _⟩
        case round =>
          obtain ⟨m, hm, rfl, hbel⟩ := hrel
          by_cases hmt : m < 5
          · obtain ⟨p, n, cc, bs, hget, hs11⟩ := ST.out m hmt
            have hcell : wr.cell? ⟨N11, m, none⟩ = some (.slice p n cc) := by rw [(X11.out.below hbel X11.out.lt).cell]; exact hget
            have SW := Lib.hid (hs11.below hbel)
            have FW := Lib.hid (F11.out.trans (hbel.mono F11.out.size))
            have BW := Lib.hid hbel
            have hmI : (m : Int) < 5 := by omega
            clear hget hs11 hbel
            go_wp2_with fail
            refine (sread_any wr _ bs SW.out).mono ?_
            rintro e w12 ⟨rfl, hb12⟩
            obtain ⟨R, hR⟩ : ∃ r, readS bs = r := ⟨_, rfl⟩
            rw [hR, slotO_eq]
            obtain ⟨C1, hC1⟩ : ∃ x, cntS R = x := ⟨_, rfl⟩
            obtain ⟨G1, hG1⟩ : ∃ x, genS R = x := ⟨_, rfl⟩
            obtain ⟨a1', hA1'⟩ : ∃ x, areS R = x := ⟨_, rfl⟩
            obtain ⟨A1, hA1e⟩ : ∃ x : Int, (a1' : Int) = x := ⟨_, rfl⟩
            obtain ⟨b1, hk1⟩ : ∃ x, R.isSome = x := ⟨_, rfl⟩
            rw [hC1, hG1, hA1', hA1e, hk1]
            have ER := Lib.hid (show readS bs = R ∧ cntS R = C1 ∧ genS R = G1 ∧ areS R = a1' ∧ (a1' : Int) = A1 ∧ R.isSome = b1 from ⟨hR, hC1, hG1, hA1', hA1e, hk1⟩)
            have hx12 := Blk.alloc w12 24 #[.int .u64 C1, .int .u64 G1, .int .i64 A1]
            have hba : Below wr.heap.size wr (w12.alloc (.cells #[.int .u64 C1, .int .u64 G1, .int .i64 A1] 24)) := hb12.alloc hb12.size _
            have SW2 := Lib.hid (SW.out.below hba)
            have BW2 := Lib.hid (BW.out.trans (hba.mono BW.out.size))
            have X12 := Lib.hid hx12
            clear hb12 hx12 hba hR hC1 hG1 hA1' hA1e hk1 SW BW
            go_wp2_with fail
            refine (pread_any _ _ bs SW2.out).mono ?_
            rintro e w13 ⟨rfl, hb13⟩
            rw [ER.out.1, slotO_eq, ER.out.2.1, ER.out.2.2.1, ER.out.2.2.2.1, ER.out.2.2.2.2.1, ER.out.2.2.2.2.2]
            have hx13 := X12.out.below hb13 X12.out.lt
            have hB13 := BW2.out.trans (hb13.mono BW2.out.size)
            have hy14 := Blk.alloc w13 31 #[.int .u64 C1, .int .u64 G1, .int .i64 A1]
            have hx14 := hx13.keep (Keep.alloc (fun _ => False) w13 (.cells #[.int .u64 C1, .int .u64 G1, .int .i64 A1] 31)) (fun h => h)
            have B14 := Lib.hid (hB13.alloc hB13.size (.cells #[.int .u64 C1, .int .u64 G1, .int .i64 A1] 31))
            have X14 := Lib.hid hx14
            have Y14 := Lib.hid hy14
            clear hb13 hx13 hB13 hy14 hx14 SW2 BW2 X12 ER
            go_wp2_with fail
            obtain ⟨w14, hw14⟩ : ∃ x, w13.alloc (.cells #[.int .u64 C1, .int .u64 G1, .int .i64 A1] 31) = x := ⟨_, rfl⟩
            rw [hw14] at B14 X14 Y14 ⊢
            have hxx : ∀ W, Keep (fun _ => False) w14.drew W → Blk W w12.heap.size 24 [.int .u64 C1, .int .u64 G1, .int .i64 A1] := fun W hW => (X14.out.keep (Keep.drew (fun _ => False) _) (fun h => h)).keep hW (fun h => h)
            have hyy : ∀ W, Keep (fun _ => False) w14.drew W → Blk W w13.heap.size 31 [.int .u64 C1, .int .u64 G1, .int .i64 A1] := fun W hW => (Y14.out.keep (Keep.drew (fun _ => False) _) (fun h => h)).keep hW (fun h => h)
            have HX0 := Lib.hid (fun W hW => (hxx W hW).cell 0)
            have HX1 := Lib.hid (fun W hW => (hxx W hW).cell 1)
            have HX2 := Lib.hid (fun W hW => (hxx W hW).cell 2)
            have HY0 := Lib.hid (fun W hW => (hyy W hW).cell 0)
            have HY1 := Lib.hid (fun W hW => (hyy W hW).cell 1)
            have HY2 := Lib.hid (fun W hW => (hyy W hW).cell 2)
            clear hxx hyy hw14
            refine regionE_begin 8 (fun W => Keep (fun _ => False) w14.drew W) (by kernel_rfl) ?_
            refine stepE_any 0 (some 95) (v := ?vz0) (fun _ => Keep.refl _ _) rfl (by rfl) (by kernel_rfl) (by kernel_rfl) (by kernel_rfl) (by decide) (fun _ _ _ h => h) (by rfl) ?yz0 ?nz0
            case yz0 => intro W; go_simp; try with_reducible rfl
            try simp only [Act.put, List.setIfInBounds_toArray, List.set_cons_zero, List.set_cons_succ]
            refine stepE_any 1 (some 96) (v := ?vz1) (fun _ => Keep.refl _ _) rfl (by rfl) (by kernel_rfl) (by kernel_rfl) (by kernel_rfl) (by decide) (fun _ _ _ h => h) (by rfl) ?yz1 ?nz1
            case yz1 => intro W; go_simp; try with_reducible rfl
            try simp only [Act.put, List.setIfInBounds_toArray, List.set_cons_zero, List.set_cons_succ]
            refine stepE_any 2 (some 97) (v := ?vz2) (fun _ => Keep.refl _ _) rfl (by rfl) (by kernel_rfl) (by kernel_rfl) (by kernel_rfl) (by decide) (fun _ _ _ h => h) (by rfl) ?yz2 ?nz2
            case yz2 => intro W; go_simp; try with_reducible rfl
            try simp only [Act.put, List.setIfInBounds_toArray, List.set_cons_zero, List.set_cons_succ]
            refine stepE_any 3 (some 98) (v := ?vz3) (fun _ => Keep.refl _ _) rfl (by rfl) (by kernel_rfl) (by kernel_rfl) (by kernel_rfl) (by decide) (fun _ _ _ h => h) (by rfl) ?yz3 ?nz3
            case yz3 => intro W; go_simp; try with_reducible rfl
            try simp only [Act.put, List.setIfInBounds_toArray, List.set_cons_zero, List.set_cons_succ]
            refine stepE_read 4 14 (some 99) (v := ?vz4) (Keep.refl _ _) rfl (by rfl) (by kernel_rfl) (by kernel_rfl) (by kernel_rfl) (by kernel_rfl) (by kernel_rfl) (fun _ _ _ h => h) (by rfl) ?yz4 ?nz4
            case yz4 => intro W hW; have q0 := HX0.out W hW; have q1 := HX1.out W hW; have q2 := HX2.out W hW; go_simp; try with_reducible rfl
            try simp only [Act.put, List.setIfInBounds_toArray, List.set_cons_zero, List.set_cons_succ]
            refine stepE_read 6 14 (some 101) (v := ?vz6) (Keep.refl _ _) rfl (by rfl) (by kernel_rfl) (by kernel_rfl) (by kernel_rfl) (by kernel_rfl) (by kernel_rfl) (fun _ _ _ h => h) (by rfl) ?yz6 ?nz6
            case yz6 => intro W hW; have q0 := HY0.out W hW; have q1 := HY1.out W hW; have q2 := HY2.out W hW; go_simp; try with_reducible rfl
            try simp only [Act.put, List.setIfInBounds_toArray, List.set_cons_zero, List.set_cons_succ]
            -- 5: call:12 -> 100
            refine stepE_only 5 rfl (by kernel_rfl) (by rfl) (fun K' hK => ?_)
            go_simp
            refine (as_any _ C1 G1 A1).mono ?_
            rintro e w15 ⟨rfl, hb15⟩
            refine hK _ _ (Keep.ofBelow hb15) ?_
            have F15 := Lib.hid hb15
            clear hb15
            clear hK K'
            try simp only [Act.put, List.setIfInBounds_toArray, List.set_cons_zero, List.set_cons_succ]
            refine stepE_any 7 (some 102) (v := ?vz7) (fun _ => Keep.ofBelow F15.out) rfl (by rfl) (by kernel_rfl) (by kernel_rfl) (by kernel_rfl) (by decide) (fun _ _ _ h => h) (by rfl) ?yz7 ?nz7
            case yz7 => intro W; go_simp; try with_reducible rfl
            try simp only [Act.put, List.setIfInBounds_toArray, List.set_cons_zero, List.set_cons_succ]
            -- 8: pick -> 103
            refine stepE_end 8 rfl (by kernel_rfl) (by rfl) (by rfl) (fun K' hK => ?_)
            go_simp
            refine hK _ _ ?_
            clear hK K'
            refine wpAnyE_done (by kernel_rfl) ?_ _
            have B15 := Lib.hid (B14.out.drew.trans (F15.out.mono B14.out.drew.size))
            clear F15 B14 HX0 HX1 HX2 HY0 HY1 HY2 X14 Y14
            go_wp2
            go_roundw
            case rel => exact ⟨m + 1, by omega, by go_num, B15.out⟩
            case measure => simp [intOf]; omega
          · obtain rfl : m = 5 := by omega
            have F12 := Lib.hid (F11.out.trans (hbel.mono F11.out.size))
            clear hbel
            rw [show ((5 : Nat) : Int) = 5 from rfl]
            go_wp2
            go_roundw
            case rel => exact ⟨k + 1, by omega, by go_num, F12.out⟩
            case measure => simp [intOf]; omega
      · obtain rfl : k = 2 := by omega
        have B3 := Lib.hid (B2.out.trans (hbel.mono B2.out.size))
        clear hbel
        rw [show ((2 : Nat) : Int) = 2 from rfl]
        go_wp2
        go_ret
        exact ⟨rfl, B3.out⟩
  · have h70I : (70 : Int) < rl := by omega
    go_enter Try.func3, Try.ntmps3
    go_wp2_with fail
    refine (known_any _).mono ?_
    rintro e w1 ⟨rfl, hb1⟩
    have B1 := Lib.hid (B0.out.trans (hb1.mono B0.out.size))
    clear hb1
    go_wp2
    go_ret
    exact ⟨rfl, B1.out⟩
end Go.Proofs.Ythecjhjomkpgkaa.K
