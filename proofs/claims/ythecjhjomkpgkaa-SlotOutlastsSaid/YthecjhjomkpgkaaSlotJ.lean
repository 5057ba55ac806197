/- SlotOutlasts' walk. -/
import Derived.Test.YthecjhjomkpgkaaRefD
import Derived.Test.YthecjhjomkpgkaaSlotH
import Derived.Test.YthecjhjomkpgkaaStage2
namespace Go.Proofs.Ythecjhjomkpgkaa.K
open Go.ChangeShapes Go.WideShapes Go.ChangeAt Go.RowKit
set_option linter.unusedVariables false

theorem slotT {b : Bool} {c1 g1 a1 c2 g2 a2 : Nat} : slotO (if b then some (c2, g2, a2) else some (c1, g1, a1)) = .agg #[.int .u64 (if b then c2 else c1 : Nat), .int .u64 (if b then g2 else g1 : Nat), .int .i64 (if b then a2 else a1 : Nat)] := by cases b <;> rfl
theorem slotI {b : Bool} {c1 g1 a1 c2 g2 a2 : Nat} : (if b then some (c2, g2, a2) else some (c1, g1, a1) : Option (Nat × Nat × Nat)).isSome = true := by cases b <;> rfl

theorem rpower_all {F : Nat → Prop} {w : World} {B : Nat} {secs : List (List Int)} {wl : List (Int × List Int)} {l : Int} (h : RDisk F w B secs wl l) (m : Int) (m0 : -1 ≤ m) (m1 : m ≤ 9223372036854775807) :
    Calls Try.prog 20 #[.pointer (some ⟨B, 0, none⟩), .int .i64 m] w fun e w' => e = .returned (.tuple #[]) ∧ RDisk F w' B secs wl m ∧ Keep (fun k => k = B) w w' := by
  obtain ⟨vs, vl, h1, h2, h3⟩ := h.body
  refine (rpower_any w B vs vl l m h1 m0 m1).mono ?_
  rintro e w' ⟨rfl, hr, hk⟩
  exact ⟨rfl, h.same h1 h2 h3 hr hk m0 m1, hk⟩
theorem oneS_get {q p : Nat} {SB : List Int} (hq : q < 2) (hp : p < 2) (h : q ≠ p) : (oneS q SB).getD p [] = zeros := by
  have hc : (q = 0 ∧ p = 1) ∨ (q = 1 ∧ p = 0) := by omega
  rcases hc with ⟨rfl, rfl⟩ | ⟨rfl, rfl⟩ <;> rfl

set_option maxRecDepth 100000 in
set_option maxHeartbeats 8000000 in
theorem outlasts_walk (n g1 g2 ar pw : Nat) (mask torn : Int) (w : World) (hn : n ≤ 4294967295) (hg1 : g1 < 18446744073709551616) (hg2 : g2 < 18446744073709551616) (har : ar ≤ 255) (hpw : pw ≤ 255) (m0 : 0 ≤ mask) (m1 : mask ≤ 18446744073709551615) (t0 : -9223372036854775808 ≤ torn) (t1 : torn ≤ 9223372036854775807) :
    Calls Try.prog 4 #[.int .u32 n, .int .u64 g1, .int .u64 g2, .int .u8 ar, .int .u8 pw, .int .u64 mask, .int .i64 torn] w fun e w' => e = .returned (.bool true) ∧ Below w.heap.size w w' := by
  obtain ⟨c1, hc1⟩ : ∃ c, n + 1 = c := ⟨_, rfl⟩
  obtain ⟨c2, hc2⟩ : ∃ c, n + 2 = c := ⟨_, rfl⟩
  obtain ⟨A1, hA1⟩ : ∃ c, ar % 2 = c := ⟨_, rfl⟩
  obtain ⟨d, hd⟩ : ∃ c, ar / 2 = c := ⟨_, rfl⟩
  obtain ⟨A2, hA2⟩ : ∃ c, d % 2 = c := ⟨_, rfl⟩
  obtain ⟨q, hq⟩ : ∃ c, pw % 4 = c := ⟨_, rfl⟩
  obtain ⟨l, hl⟩ : ∃ l, (q : Int) - 1 = l := ⟨_, rfl⟩
  have hwn : IntKind.u64.wrap (n : Int) = (n : Int) := by rw [IntKind.wrap_u64]; omega
  have hwc1 : IntKind.u64.wrap ((n : Int) + 1) = (c1 : Int) := by rw [IntKind.wrap_u64]; omega
  have hwc2 : IntKind.u64.wrap ((n : Int) + 2) = (c2 : Int) := by rw [IntKind.wrap_u64]; omega
  have ht1 : (ar : Int).tmod 2 = (A1 : Int) := by rw [Int.tmod_eq_emod_of_nonneg (by omega)]; omega
  have ht2 : (ar : Int).tdiv 2 = (d : Int) := by rw [Int.tdiv_eq_ediv_of_nonneg (by omega)]; omega
  have ht3 : (d : Int) % 2 = (A2 : Int) := by omega
  have ht5 : (d : Int) % 256 = (d : Int) := by omega
  have ht4 : (pw : Int).tmod 4 = (q : Int) := by rw [Int.tmod_eq_emod_of_nonneg (by omega)]; omega
  have hw1 : IntKind.i64.wrap (A1 : Int) = (A1 : Int) := IntWalk.i64_in _ (by omega)
  have hw2 : IntKind.i64.wrap (A2 : Int) = (A2 : Int) := IntWalk.i64_in _ (by omega)
  have hw3 : IntKind.i64.wrap (q : Int) = (q : Int) := IntWalk.i64_in _ (by omega)
  have hw4 : IntKind.i64.wrap l = l := IntWalk.i64_in _ (by omega)
  have HC1 : Hid (n + 1 = c1) := Lib.hid hc1
  have HC2 : Hid (n + 2 = c2) := Lib.hid hc2
  have HA : Hid (A1 ≤ 1 ∧ A2 ≤ 1) := Lib.hid (by omega)
  have HL : Hid (-1 ≤ l ∧ l ≤ 2) := Lib.hid (by omega)
  have HN := Lib.hid hn
  have HG := Lib.hid (And.intro hg1 hg2)
  clear hc1 hc2 hA1 hd hA2 hq hn hg1 hg2
  go_enter Try.func4, Try.ntmps4
  go_wp2_with fail
  refine (known_any w).mono ?_
  rintro e w1 ⟨rfl, hb1⟩
  have B1 := Lib.hid hb1
  clear hb1
  go_wp2_with fail
  refine (new_disk 3 w1 (by omega)).mono ?_
  rintro e w2 ⟨B, S, rfl, hS, hd2, hb2⟩
  have HS : Hid (w.heap.size ≤ S) := Lib.hid (Nat.le_trans B1.out.size hS)
  have D2 := Lib.hid hd2
  have B2 := Lib.hid (B1.out.trans (hb2.mono B1.out.size))
  clear hS hd2 hb2 B1
  go_wp2_with fail
  refine (rnew_any w2 3 (by omega)).mono ?_
  rintro e w3 ⟨R, rfl, hR, hr3, hb3⟩
  have HR : Hid (w2.heap.size ≤ R) := Lib.hid hR
  have MLOW : Hid (∀ k, Mine B S (.slice none 0 0) k → w.heap.size ≤ k) := Lib.hid (fun k hk => by
    rcases hk with rfl | rfl | hk
    · have := HS.out; have := D2.out.lt; omega
    · exact HS.out
    · cases hk)
  have MB : Hid (∀ k, Mine B S (.slice none 0 0) k → k < w2.heap.size) := Lib.hid (fun k hk => D2.out.mine_lt k hk)
  have D3 := Lib.hid (D2.out.later hb3)
  have R3 := Lib.hid hr3
  have B3 := Lib.hid (B2.out.trans (hb3.mono B2.out.size))
  have WR2 := Lib.hid B2.out.size
  clear hR hr3 hb3 D2 B2
  go_wp2_with fail
  have hxa := Blk.alloc w3 24 #[.int .u64 c1, .int .u64 g1, .int .i64 A1]
  have hd4 := D3.out.alloc (.cells #[.int .u64 c1, .int .u64 g1, .int .i64 A1] 24)
  have hr4 := R3.out.alloc (.cells #[.int .u64 c1, .int .u64 g1, .int .i64 A1] 24)
  have hb4 := B3.out.alloc B3.out.size (.cells #[.int .u64 c1, .int .u64 g1, .int .i64 A1] 24)
  have hrl : R < w3.heap.size := R3.out.fbd R (Nat.le_refl _)
  obtain ⟨w4, hw4e⟩ : ∃ x, w3.alloc (.cells #[.int .u64 c1, .int .u64 g1, .int .i64 A1] 24) = x := ⟨_, rfl⟩
  have hs4 : w4.heap.size = w3.heap.size + 1 := by rw [← hw4e]; simp
  rw [hw4e] at hxa hd4 hr4 hb4
  have hxb := Blk.alloc w4 24 #[.int .u64 c2, .int .u64 g2, .int .i64 A2]
  have hxa5 := hxa.below ((Below.refl w4.heap.size w4).alloc (Nat.le_refl _) (.cells #[.int .u64 c2, .int .u64 g2, .int .i64 A2] 24)) hxa.lt
  have hd5 := hd4.alloc (.cells #[.int .u64 c2, .int .u64 g2, .int .i64 A2] 24)
  have hr5 := hr4.alloc (.cells #[.int .u64 c2, .int .u64 g2, .int .i64 A2] 24)
  have hb5 := hb4.alloc hb4.size (.cells #[.int .u64 c2, .int .u64 g2, .int .i64 A2] 24)
  rw [hw4e]
  obtain ⟨w5, hw5e⟩ : ∃ x, w4.alloc (.cells #[.int .u64 c2, .int .u64 g2, .int .i64 A2] 24) = x := ⟨_, rfl⟩
  rw [hw5e] at hxb hxa5 hd5 hr5 hb5
  rw [hw5e]
  obtain ⟨Na, hNa⟩ : ∃ x, w3.heap.size = x := ⟨_, rfl⟩
  rw [hNa] at hxa5 hs4 hrl ⊢
  obtain ⟨Nb, hNb⟩ : ∃ x, Na + 1 = x := ⟨_, rfl⟩
  rw [hs4, hNb] at hxb
  rw [hNb]
  have XA5 := Lib.hid hxa5
  have XB5 := Lib.hid hxb
  have D5 := Lib.hid hd5
  have R5 := Lib.hid hr5
  have B5 := Lib.hid hb5
  have NR : Hid (R < Na ∧ Na < Nb) := Lib.hid (by constructor <;> omega)
  have NOM : Hid (∀ k, Mine B S (.slice none 0 0) k → k ≤ R ∧ k ≠ R ∧ k ≠ Na ∧ k ≠ Nb) := Lib.hid (fun k hk => by have := MB.out k hk; have := HR.out; omega)
  have LEN : Hid ((List.replicate 3 zeros).length = 3) := Lib.hid rfl
  clear hxa hd4 hr4 hb4 hw4e hxb hxa5 hd5 hr5 hb5 hw5e hs4 hrl hNa hNb D3 R3 B3
  refine regionE_begin 6 (fun W => Blk W Na 24 [.int .u64 c1, .int .u64 g1, .int .i64 A1]) (by kernel_rfl) ?_
  refine stepE_any 0 (some 46) (v := ?va0) (fun _ => (XA5.out.below (Below.refl _ w5).drew XA5.out.lt)) rfl (by rfl) (by kernel_rfl) (by kernel_rfl) (by kernel_rfl) (by decide) (fun _ _ _ h => h) (by rfl) ?ya0 ?na0
  case ya0 => intro W; go_simp; try with_reducible rfl
  try simp only [Act.put, List.setIfInBounds_toArray, List.set_cons_zero, List.set_cons_succ]
  refine stepE_read 1 16 (some 47) (v := ?va1) ((XA5.out.below (Below.refl _ w5).drew XA5.out.lt)) rfl (by rfl) (by kernel_rfl) (by kernel_rfl) (by kernel_rfl) (by kernel_rfl) (by kernel_rfl) (fun _ _ _ h => h) (by rfl) ?ya1 ?na1
  case ya1 => intro W hW; have q0 := hW.cell 0; have q1 := hW.cell 1; have q2 := hW.cell 2; go_simp; try with_reducible rfl
  try simp only [Act.put, List.setIfInBounds_toArray, List.set_cons_zero, List.set_cons_succ]
  refine stepE_any 3 (some 49) (v := ?va3) (fun _ => (XA5.out.below (Below.refl _ w5).drew XA5.out.lt)) rfl (by rfl) (by kernel_rfl) (by kernel_rfl) (by kernel_rfl) (by decide) (fun _ _ _ h => h) (by rfl) ?ya3 ?na3
  case ya3 => intro W; go_simp; try with_reducible rfl
  try simp only [Act.put, List.setIfInBounds_toArray, List.set_cons_zero, List.set_cons_succ]
  refine stepE_read 4 16 (some 50) (v := ?va4) ((XA5.out.below (Below.refl _ w5).drew XA5.out.lt)) rfl (by rfl) (by kernel_rfl) (by kernel_rfl) (by kernel_rfl) (by kernel_rfl) (by kernel_rfl) (fun _ _ _ h => h) (by rfl) ?ya4 ?na4
  case ya4 => intro W hW; have q0 := hW.cell 0; have q1 := hW.cell 1; have q2 := hW.cell 2; go_simp; try with_reducible rfl
  try simp only [Act.put, List.setIfInBounds_toArray, List.set_cons_zero, List.set_cons_succ]
  -- 2: call:17 -> 48
  refine stepE_only 2 rfl (by kernel_rfl) (by rfl) (fun K' hK => ?_)
  go_simp
  refine (set_live (D5.out.later (Below.refl _ w5).drew) c1 g1 A1 (c1 % 2) A1 (.inl rfl) (by have := HA.out; omega) (by have := HN.out; have := HC1.out; omega) rfl (by rw [LEN.out]; omega)).mono ?_
  rintro e w6 ⟨rfl, hdp, hkp⟩
  have Kw6 := Lib.hid hkp
  have Dw6 := Lib.hid hdp
  have Xw6 := Lib.hid ((XA5.out.below (Below.refl _ w5).drew XA5.out.lt).keep hkp (fun h => (NOM.out _ h).2.2.1 rfl))
  refine hK _ _ Xw6.out ?_
  clear hkp hdp
  clear hK K'
  try simp only [Act.put, List.setIfInBounds_toArray, List.set_cons_zero, List.set_cons_succ]
  -- 5: call:12 -> 51
  refine stepE_only 5 rfl (by kernel_rfl) (by rfl) (fun K' hK => ?_)
  go_simp
  refine (as_any _ c1 g1 A1).mono ?_
  rintro e w7 ⟨rfl, hb7⟩
  have Bw7 := Lib.hid hb7
  have Rw7 := Lib.hid (((R5.out.later (Below.refl _ w5).drew).keep Kw6.out (fun k hk => (NOM.out k hk).1) (fun h => (NOM.out _ h).2.1 rfl)).later hb7)
  refine hK _ _ (Xw6.out.below hb7 Xw6.out.lt) ?_
  clear hb7
  clear hK K'
  try simp only [Act.put, List.setIfInBounds_toArray, List.set_cons_zero, List.set_cons_succ]
  -- 6: call:18 -> 52
  refine stepE_end 6 rfl (by kernel_rfl) (by rfl) (by rfl) (fun K' hK => ?_)
  go_simp
  refine (rset_m1 Rw7.out c1 g1 A1 (c1 % 2) A1 (.inl rfl) (by have := HA.out; omega) (by have := HN.out; have := HC1.out; omega) rfl (by rw [LEN.out]; omega)).mono ?_
  rintro e w8 ⟨rfl, hdr, hkr⟩
  have Kw8 := Lib.hid hkr
  have Rw8 := Lib.hid hdr
  refine hK _ _ ?_
  clear hkr hdr
  clear hK K'
  try simp only [Act.put, List.setIfInBounds_toArray, List.set_cons_zero, List.set_cons_succ]
  refine stepE_any 7 (some 53) (v := ?va7) (fun h => (Bool.false_ne_true (h.symm.trans (by rfl))).elim) rfl (by rfl) (by kernel_rfl) (by kernel_rfl) (by kernel_rfl) (by decide) (fun _ _ _ h => h) (by rfl) ?ya7 ?na7
  case ya7 => intro W; go_simp; try with_reducible rfl
  try simp only [Act.put, List.setIfInBounds_toArray, List.set_cons_zero, List.set_cons_succ]
  refine wpAnyE_done (by kernel_rfl) ?_ _

  have hs1 : Hid ((oneS (c1 % 2) (slotB c1 g1 A1)).length = 3) := Lib.hid (by unfold oneS; rw [List.length_set]; rfl)
  have D8 : Hid (IsDisk w8 B S (.slice none 0 0) (oneS (c1 % 2) (slotB c1 g1 A1)) [] (-1)) := Lib.hid ((Dw6.out.later Bw7.out).keep Kw8.out (fun k hk e => (NOM.out k hk).2.1 e))
  have R8 : Hid (RDisk (fun k => k ≤ R) w8 R (oneS (c1 % 2) (slotB c1 g1 A1)) [] (-1)) := Lib.hid Rw8.out
  have xx : ∀ N cs, Blk w5 N 24 cs → ¬ Mine B S (.slice none 0 0) N → N ≠ R → Blk w8 N 24 cs := fun N cs h h1 h2 => by
    have h6 := (h.below (Below.refl _ w5).drew h.lt).keep Kw6.out h1
    exact (h6.below Bw7.out h6.lt).keep Kw8.out h2
  have XA8 := Lib.hid (xx Na _ XA5.out (fun h => (NOM.out _ h).2.2.1 rfl) (by have := NR.out; omega))
  have XB8 := Lib.hid (xx Nb _ XB5.out (fun h => (NOM.out _ h).2.2.2 rfl) (by have := NR.out; omega))
  have BL8 : Hid (Below w.heap.size w w8) := Lib.hid (by
    have e1 := B5.out.drew
    have e2 := e1.trans (Keep.below Kw6.out (N := w.heap.size) (fun k hk => MLOW.out k hk) e1.size)
    have e3 := e2.trans (Bw7.out.mono e2.size)
    exact e3.trans (Keep.below Kw8.out (fun k e => by have h' : k = R := e; have := HR.out; have := WR2.out; omega) e3.size))
  clear xx XA5 XB5 D5 R5 B5 Dw6 Rw7 Rw8 Kw6 Bw7 Kw8 Xw6
  go_wp2_with fail
  refine (power_all D8.out l HL.out.1 (by have := HL.out; omega)).mono ?_
  rintro e w9 ⟨rfl, hd9, hk9⟩
  have D9 := Lib.hid hd9
  have R9 := Lib.hid (R8.out.keep hk9 (fun k e => (NOM.out k (.inl e)).1) (fun e => (NOM.out _ (.inl e)).2.1 rfl))
  have XA9 := Lib.hid (XA8.out.keep hk9 (fun e => (NOM.out _ (.inl e)).2.2.1 rfl))
  have XB9 := Lib.hid (XB8.out.keep hk9 (fun e => (NOM.out _ (.inl e)).2.2.2 rfl))
  have BL9 := Lib.hid (BL8.out.trans (Keep.below hk9 (fun k e => MLOW.out k (.inl e)) BL8.out.size))
  clear hd9 hk9 D8 R8 XA8 XB8 BL8
  go_wp2_with fail
  refine (rpower_all R9.out l HL.out.1 (by have := HL.out; omega)).mono ?_
  rintro e w10 ⟨rfl, hr10, hk10⟩
  have R10 := Lib.hid hr10
  have D10 := Lib.hid (D9.out.keep hk10 (fun k hk e => (NOM.out k hk).2.1 e))
  have XA10 := Lib.hid (XA9.out.keep hk10 (fun e => by have h' : Na = R := e; have := NR.out; omega))
  have XB10 := Lib.hid (XB9.out.keep hk10 (fun e => by have h' : Nb = R := e; have := NR.out; omega))
  have BL10 := Lib.hid (BL9.out.trans (Keep.below hk10 (fun k e => by have h' : k = R := e; have := HR.out; have := WR2.out; omega) BL9.out.size))
  clear hr10 hk10 D9 R9 XA9 XB9 BL9
  go_wp2_with fail
  refine regionE_begin 6 (fun W => Blk W Nb 24 [.int .u64 c2, .int .u64 g2, .int .i64 A2]) (by kernel_rfl) ?_
  refine stepE_any 0 (some 66) (v := ?vb0) (fun _ => (XB10.out.below (Below.refl _ w10).drew XB10.out.lt)) rfl (by rfl) (by kernel_rfl) (by kernel_rfl) (by kernel_rfl) (by decide) (fun _ _ _ h => h) (by rfl) ?yb0 ?nb0
  case yb0 => intro W; go_simp; try with_reducible rfl
  try simp only [Act.put, List.setIfInBounds_toArray, List.set_cons_zero, List.set_cons_succ]
  refine stepE_read 1 16 (some 67) (v := ?vb1) ((XB10.out.below (Below.refl _ w10).drew XB10.out.lt)) rfl (by rfl) (by kernel_rfl) (by kernel_rfl) (by kernel_rfl) (by kernel_rfl) (by kernel_rfl) (fun _ _ _ h => h) (by rfl) ?yb1 ?nb1
  case yb1 => intro W hW; have q0 := hW.cell 0; have q1 := hW.cell 1; have q2 := hW.cell 2; go_simp; try with_reducible rfl
  try simp only [Act.put, List.setIfInBounds_toArray, List.set_cons_zero, List.set_cons_succ]
  refine stepE_any 3 (some 69) (v := ?vb3) (fun _ => (XB10.out.below (Below.refl _ w10).drew XB10.out.lt)) rfl (by rfl) (by kernel_rfl) (by kernel_rfl) (by kernel_rfl) (by decide) (fun _ _ _ h => h) (by rfl) ?yb3 ?nb3
  case yb3 => intro W; go_simp; try with_reducible rfl
  try simp only [Act.put, List.setIfInBounds_toArray, List.set_cons_zero, List.set_cons_succ]
  refine stepE_read 4 16 (some 70) (v := ?vb4) ((XB10.out.below (Below.refl _ w10).drew XB10.out.lt)) rfl (by rfl) (by kernel_rfl) (by kernel_rfl) (by kernel_rfl) (by kernel_rfl) (by kernel_rfl) (fun _ _ _ h => h) (by rfl) ?yb4 ?nb4
  case yb4 => intro W hW; have q0 := hW.cell 0; have q1 := hW.cell 1; have q2 := hW.cell 2; go_simp; try with_reducible rfl
  try simp only [Act.put, List.setIfInBounds_toArray, List.set_cons_zero, List.set_cons_succ]
  -- 2: call:17 -> 68
  refine stepE_only 2 rfl (by kernel_rfl) (by rfl) (fun K' hK => ?_)
  go_simp
  refine (set_all (D10.out.later (Below.refl _ w10).drew) HL.out.1 HL.out.2 c2 g2 A2 (c2 % 2) A2 (.inl rfl) (by have := HA.out; omega) (by have := HN.out; have := HC2.out; omega) rfl (by rw [hs1.out]; omega)).mono ?_
  rintro e w11 ⟨E, sp, us, vu, lp, rfl, hSP, hdp, hkp, hvp⟩
  have Kw11 := Lib.hid hkp
  have Dw11 := Lib.hid hdp
  have Xw11 := Lib.hid ((XB10.out.below (Below.refl _ w10).drew XB10.out.lt).keep hkp (fun h => (NOM.out _ h).2.2.2 rfl))
  refine hK _ _ Xw11.out ?_
  have VU := Lib.hid hvp
  have SP := Lib.hid hSP
  clear hvp hSP
  clear hkp hdp
  clear hK K'
  try simp only [Act.put, List.setIfInBounds_toArray, List.set_cons_zero, List.set_cons_succ]
  -- 5: call:12 -> 71
  refine stepE_only 5 rfl (by kernel_rfl) (by rfl) (fun K' hK => ?_)
  go_simp
  refine (as_any _ c2 g2 A2).mono ?_
  rintro e w12 ⟨rfl, hb7⟩
  have Bw12 := Lib.hid hb7
  have Rw12 := Lib.hid (((R10.out.later (Below.refl _ w10).drew).extend (F' := fun k => k ≤ R ∨ vu.ownBlock = some k) Kw11.out (fun k hk _ => (NOM.out k hk).1) (fun h => (NOM.out _ h).2.1 rfl) (fun k h => h.elim .inl (fun h => .inr (VU.out k h))) (fun k h => h.elim (fun h => by have := XB10.out.lt; have := NR.out; have h7 := Kw11.out.size; have h9 : w10.drew.heap.size = w10.heap.size := rfl; omega) (fun h => Dw11.out.mine_lt k (.inr (.inr h)))) (.inl (Nat.le_refl _))).later hb7)
  refine hK _ _ (Xw11.out.below hb7 Xw11.out.lt) ?_
  clear hb7
  clear hK K'
  try simp only [Act.put, List.setIfInBounds_toArray, List.set_cons_zero, List.set_cons_succ]
  -- 6: call:18 -> 72
  refine stepE_end 6 rfl (by kernel_rfl) (by rfl) (by rfl) (fun K' hK => ?_)
  go_simp
  refine (rset_all Rw12.out HL.out.1 HL.out.2 c2 g2 A2 (c2 % 2) A2 (.inl rfl) (by have := HA.out; omega) (by have := HN.out; have := HC2.out; omega) rfl (by rw [hs1.out]; omega)).mono ?_
  rintro e w13 ⟨E2, sr, wl, lr, rfl, hSR, hdr, hkr⟩
  have Kw13 := Lib.hid hkr
  have Rw13 := Lib.hid hdr
  refine hK _ _ ?_
  clear hkr hdr
  clear hK K'
  try simp only [Act.put, List.setIfInBounds_toArray, List.set_cons_zero, List.set_cons_succ]
  refine stepE_any 7 (some 19) (v := ?vb7) (fun h => (Bool.false_ne_true (h.symm.trans (by rfl))).elim) rfl (by rfl) (by kernel_rfl) (by kernel_rfl) (by kernel_rfl) (by decide) (fun _ _ _ h => h) (by rfl) ?yb7 ?nb7
  case yb7 => intro W; go_simp; try with_reducible rfl
  try simp only [Act.put, List.setIfInBounds_toArray, List.set_cons_zero, List.set_cons_succ]
  refine stepE_any 8 (some 20) (v := ?vb8) (fun h => (Bool.false_ne_true (h.symm.trans (by rfl))).elim) rfl (by rfl) (by kernel_rfl) (by kernel_rfl) (by kernel_rfl) (by decide) (fun _ _ _ h => h) (by rfl) ?yb8 ?nb8
  case yb8 => intro W; go_simp; try with_reducible rfl
  try simp only [Act.put, List.setIfInBounds_toArray, List.set_cons_zero, List.set_cons_succ]
  refine wpAnyE_done (by kernel_rfl) ?_ _

  obtain ⟨n9, hn9, hE9, hEE, hE2, hcp, hcr⟩ := crash_same SP.out hSR (slotB_len c2 g2 A2) (by rw [hs1.out]; omega) (by rw [oneS_get (by omega) (by omega) (by have := HC1.out; have := HC2.out; omega)]; rfl) mask torn
  subst hE2
  rw [oneS_get (by omega) (by omega) (by have := HC1.out; have := HC2.out; omega)] at hcp hcr
  have hlt10 : R < w10.drew.heap.size ∧ Na < w10.drew.heap.size ∧ Nb < w10.drew.heap.size := by
    have := XB10.out.lt; have := NR.out; have h9 : w10.drew.heap.size = w10.heap.size := rfl
    omega
  have NOV : Hid (∀ k, Mine B S vu k → (k ≤ R ∨ vu.ownBlock = some k) ∧ k ≠ R ∧ k ≠ Na ∧ k ≠ Nb ∧ w.heap.size ≤ k) := Lib.hid (fun k hk => by
    rcases hk with h | h | h
    · have h1 := NOM.out k (.inl h); have h2 := MLOW.out k (.inl h); exact ⟨.inl h1.1, h1.2.1, h1.2.2.1, h1.2.2.2, h2⟩
    · have h1 := NOM.out k (.inr (.inl h)); have h2 := MLOW.out k (.inr (.inl h)); exact ⟨.inl h1.1, h1.2.1, h1.2.2.1, h1.2.2.2, h2⟩
    · have h1 := VU.out k h; have h2 := BL10.out.size; have h9 : w10.drew.heap.size = w10.heap.size := rfl
      exact ⟨.inr h, by omega, by omega, by omega, by omega⟩)
  have D13 : Hid (IsDisk w13 B S vu sp us lp) := Lib.hid ((Dw11.out.later Bw12.out).keep Kw13.out (fun k hk e => (NOV.out k hk).2.1 e))
  have xx : ∀ N cs, Blk w10 N 24 cs → ¬ Mine B S (.slice none 0 0) N → N ≠ R → Blk w13 N 24 cs := fun N cs h h1 h2 => by
    have h6 := (h.below (Below.refl _ w10).drew h.lt).keep Kw11.out h1
    exact (h6.below Bw12.out h6.lt).keep Kw13.out h2
  have XA13 := Lib.hid (xx Na _ XA10.out (fun h => (NOM.out _ h).2.2.1 rfl) (by have := NR.out; omega))
  have XB13 := Lib.hid (xx Nb _ XB10.out (fun h => (NOM.out _ h).2.2.2 rfl) (by have := NR.out; omega))
  have BL13 : Hid (Below w.heap.size w w13) := Lib.hid (by
    have e1 := BL10.out.drew
    have e2 := e1.trans (Keep.below Kw11.out (N := w.heap.size) (fun k hk => MLOW.out k hk) e1.size)
    have e3 := e2.trans (Bw12.out.mono e2.size)
    exact e3.trans (Keep.below Kw13.out (fun k e => by have h' : k = R := e; have := HR.out; have := WR2.out; omega) e3.size))
  have FEW := Lib.hid SP.out.few
  have SRL : Hid (sr.length = 3) := Lib.hid (hSR.len.trans hs1.out)
  have HCP := Lib.hid hcp
  have HCR := Lib.hid hcr
  have E9 := Lib.hid hE9
  have N9 := Lib.hid hn9
  clear xx XA10 XB10 D10 R10 BL10 Dw11 Rw12 Kw11 Bw12 Kw13 Xw11 hSR SP hcp hcr hlt10 hE9 hn9
  go_wp2_with fail
  refine (crash_any D13.out mask torn m0 m1 t0 t1 (by have := FEW.out; omega)).mono ?_
  rintro e w14 ⟨rfl, hd14, hk14⟩
  rw [HCP.out] at hd14
  have D14 := Lib.hid hd14
  have R14 := Lib.hid (Rw13.out.keep hk14 (fun k hk => (NOV.out k hk).1) (fun h => (NOV.out _ h).2.1 rfl))
  have XA14 := Lib.hid (XA13.out.keep hk14 (fun h => (NOV.out _ h).2.2.1 rfl))
  have XB14 := Lib.hid (XB13.out.keep hk14 (fun h => (NOV.out _ h).2.2.2.1 rfl))
  have BL14 := Lib.hid (BL13.out.trans (Keep.below hk14 (fun k e => (NOV.out k e).2.2.2.2) BL13.out.size))
  clear hd14 hk14 D13 Rw13 XA13 XB13 BL13
  go_wp2_with fail
  refine (rcrash_any R14.out (by rw [SRL.out]; omega) mask torn m0 m1 t0 t1).mono ?_
  rintro e w15 ⟨rfl, hr15, hk15⟩
  rw [HCR.out] at hr15
  have R15 := Lib.hid hr15
  have D15 := Lib.hid (D14.out.keep hk15 (fun k hk e => (NOM.out k hk).2.1 e))
  have XA15 := Lib.hid (XA14.out.keep hk15 (fun e => by have h' : Na = R := e; have := NR.out; omega))
  have XB15 := Lib.hid (XB14.out.keep hk15 (fun e => by have h' : Nb = R := e; have := NR.out; omega))
  have BL15 := Lib.hid (BL14.out.trans (Keep.below hk15 (fun k e => by have h' : k = R := e; have := HR.out; have := WR2.out; omega) BL14.out.size))
  clear hr15 hk15 D14 R14 XA14 XB14 BL14
  obtain ⟨b, hb64, hch⟩ := choose_mix (c1 % 2) (c2 % 2) c1 g1 A1 c2 g2 A2 n9 (by omega) (by omega) (by have := HC1.out; have := HC2.out; omega) (by have := HC1.out; omega) (by have := HC1.out; have := HN.out; omega) (by have := HG.out; omega) (by have := HA.out; omega) (by have := HC1.out; have := HC2.out; omega) (by have := HC2.out; have := HN.out; omega) (by have := HG.out; omega) (by have := HA.out; omega) N9.out
  obtain ⟨T, hT⟩ : ∃ T, (oneS (c1 % 2) (slotB c1 g1 A1)).set (c2 % 2) (mixS (slotB c2 g2 A2) zeros n9) = T := ⟨_, rfl⟩
  have hTl : T.length = 3 := by rw [← hT, List.length_set]; exact hs1.out
  rw [hT] at hch D15 R15
  have HTL := Lib.hid hTl
  have HCH := Lib.hid hch
  have HB64 : Hid (E2 = 0 → b = true) := Lib.hid (fun h => hb64 (E9.out h))
  have hne : ¬ ((c2 : Int) = (c1 : Int)) := by have := HC1.out; have := HC2.out; omega
  have hnb : ((c2 : Int) == (c1 : Int)) = false := by rw [beq_eq_false_iff_ne]; exact hne
  clear hT hTl hch hb64
  cases hbv : b with
  | true =>
    rw [hbv] at HCH
    have HCX := Lib.hid (HCH.out.trans (if_pos rfl))
    clear HCH
    rcases hEE with rfl | rfl
    · go_wp2_with fail
      refine (choose_any D15.out (by rw [HTL.out]; omega)).mono ?_
      rintro e w16 ⟨rfl, hb16⟩
      rw [HCX.out]
      rw [show slotO (some (c2, g2, A2)) = .agg #[.int .u64 c2, .int .u64 g2, .int .i64 A2] from rfl, show (some (c2, g2, A2) : SlotN).isSome = true from rfl]
      have hx16 := Blk.alloc w16 24 #[.int .u64 c2, .int .u64 g2, .int .i64 A2]
      have hbb : Below w15.heap.size w15 (w16.alloc (.cells #[.int .u64 c2, .int .u64 g2, .int .i64 A2] 24)) := hb16.alloc hb16.size _
      have XA16 := Lib.hid (XA15.out.below hbb XA15.out.lt)
      have XB16 := Lib.hid (XB15.out.below hbb XB15.out.lt)
      have R16 := Lib.hid (R15.out.later hbb)
      have BL16 := Lib.hid (BL15.out.trans (hbb.mono BL15.out.size))
      obtain ⟨w17, hw17⟩ : ∃ x, w16.alloc (.cells #[.int .u64 c2, .int .u64 g2, .int .i64 A2] 24) = x := ⟨_, rfl⟩
      obtain ⟨Ns, hNs⟩ : ∃ x, w16.heap.size = x := ⟨_, rfl⟩
      rw [hw17] at hx16 XA16 XB16 R16 BL16
      rw [hNs] at hx16
      have XS := Lib.hid hx16
      clear hx16 hbb hb16
      go_wp2_with fail
      refine (rchoose_any R16.out (by rw [HTL.out]; omega)).mono ?_
      rintro e w18 ⟨rfl, hb18⟩
      rw [show chooseS (readS (curOf [] (0 : Nat) (T.getD 0 []) ([] : List (Int × List Int)).length)) (readS (curOf [] (1 : Nat) (T.getD 1 []) ([] : List (Int × List Int)).length)) = chooseS (readS (T.getD 0 [])) (readS (T.getD 1 [])) from rfl, HCX.out]
      rw [show slotO (some (c2, g2, A2)) = .agg #[.int .u64 c2, .int .u64 g2, .int .i64 A2] from rfl, show (some (c2, g2, A2) : SlotN).isSome = true from rfl]
      have hx18 := Blk.alloc w18 31 #[.int .u64 c2, .int .u64 g2, .int .i64 A2]
      have hbb : Below w17.heap.size w17 (w18.alloc (.cells #[.int .u64 c2, .int .u64 g2, .int .i64 A2] 31)) := hb18.alloc hb18.size _
      have XA18 := Lib.hid (XA16.out.below hbb XA16.out.lt)
      have XB18 := Lib.hid (XB16.out.below hbb XB16.out.lt)
      have X248 := Lib.hid (XS.out.below hbb XS.out.lt)
      have BL18 := Lib.hid (BL16.out.trans (hbb.mono BL16.out.size))
      obtain ⟨w19, hw19⟩ : ∃ x, w18.alloc (.cells #[.int .u64 c2, .int .u64 g2, .int .i64 A2] 31) = x := ⟨_, rfl⟩
      obtain ⟨Nt, hNt⟩ : ∃ x, w18.heap.size = x := ⟨_, rfl⟩
      rw [hw19] at hx18 XA18 XB18 X248 BL18
      rw [hNt] at hx18
      have XT18 := Lib.hid hx18
      clear hx18 hbb hb18 XA16 XB16 R16 BL16 XS XA15 XB15 D15 R15 BL15 HCX hw17 hNs
      go_wp2_with fail
      clear hw19 hNt
      have H1 : Hid ((fun W => Blk W Na 24 [.int .u64 c1, .int .u64 g1, .int .i64 A1] ∧ Blk W Nb 24 [.int .u64 c2, .int .u64 g2, .int .i64 A2] ∧ Blk W Ns 24 [.int .u64 c2, .int .u64 g2, .int .i64 A2] ∧ Blk W Nt 31 [.int .u64 c2, .int .u64 g2, .int .i64 A2]) w19.drew) := Lib.hid (by
        have hh : Below w19.heap.size w19 w19.drew := (Below.refl _ _).drew
        exact ⟨XA18.out.below hh XA18.out.lt, XB18.out.below hh XB18.out.lt, X248.out.below hh X248.out.lt, XT18.out.below hh XT18.out.lt⟩)
      refine regionE_begin 34 ((fun W => Blk W Na 24 [.int .u64 c1, .int .u64 g1, .int .i64 A1] ∧ Blk W Nb 24 [.int .u64 c2, .int .u64 g2, .int .i64 A2] ∧ Blk W Ns 24 [.int .u64 c2, .int .u64 g2, .int .i64 A2] ∧ Blk W Nt 31 [.int .u64 c2, .int .u64 g2, .int .i64 A2])) (by kernel_rfl) ?_
      refine stepE_any 0 (some 91) (v := ?vc0) (fun _ => H1.out) rfl (by rfl) (by kernel_rfl) (by kernel_rfl) (by kernel_rfl) (by decide) (fun _ _ _ h => h) (by rfl) ?yc0 ?nc0
      case yc0 => intro W; go_simp; try with_reducible rfl
      try simp only [Act.put, List.setIfInBounds_toArray, List.set_cons_zero, List.set_cons_succ]
      refine stepE_any 1 (some 92) (v := ?vc1) (fun _ => H1.out) rfl (by rfl) (by kernel_rfl) (by kernel_rfl) (by kernel_rfl) (by decide) (fun _ _ _ h => h) (by rfl) ?yc1 ?nc1
      case yc1 => intro W; go_simp; try with_reducible rfl
      try simp only [Act.put, List.setIfInBounds_toArray, List.set_cons_zero, List.set_cons_succ]
      refine stepE_any 2 (some 93) (v := ?vc2) (fun _ => H1.out) rfl (by rfl) (by kernel_rfl) (by kernel_rfl) (by kernel_rfl) (by decide) (fun _ _ _ h => h) (by rfl) ?yc2 ?nc2
      case yc2 => intro W; go_simp; try with_reducible rfl
      try simp only [Act.put, List.setIfInBounds_toArray, List.set_cons_zero, List.set_cons_succ]
      refine stepE_any 3 (some 94) (v := ?vc3) (fun _ => H1.out) rfl (by rfl) (by kernel_rfl) (by kernel_rfl) (by kernel_rfl) (by decide) (fun _ _ _ h => h) (by rfl) ?yc3 ?nc3
      case yc3 => intro W; go_simp; try with_reducible rfl
      try simp only [Act.put, List.setIfInBounds_toArray, List.set_cons_zero, List.set_cons_succ]
      refine stepE_any 4 (some 95) (v := ?vc4) (fun _ => H1.out) rfl (by rfl) (by kernel_rfl) (by kernel_rfl) (by kernel_rfl) (by decide) (fun _ _ _ h => h) (by rfl) ?yc4 ?nc4
      case yc4 => intro W; go_simp; try with_reducible rfl
      try simp only [Act.put, List.setIfInBounds_toArray, List.set_cons_zero, List.set_cons_succ]
      refine stepE_any 5 (some 96) (v := ?vc5) (fun _ => H1.out) rfl (by rfl) (by kernel_rfl) (by kernel_rfl) (by kernel_rfl) (by decide) (fun _ _ _ h => h) (by rfl) ?yc5 ?nc5
      case yc5 => intro W; go_simp; try with_reducible rfl
      try simp only [Act.put, List.setIfInBounds_toArray, List.set_cons_zero, List.set_cons_succ]
      refine stepE_any 6 (some 97) (v := ?vc6) (fun _ => H1.out) rfl (by rfl) (by kernel_rfl) (by kernel_rfl) (by kernel_rfl) (by decide) (fun _ _ _ h => h) (by rfl) ?yc6 ?nc6
      case yc6 => intro W; go_simp; try with_reducible rfl
      try simp only [Act.put, List.setIfInBounds_toArray, List.set_cons_zero, List.set_cons_succ]
      refine stepE_any 7 (some 98) (v := ?vc7) (fun _ => H1.out) rfl (by rfl) (by kernel_rfl) (by kernel_rfl) (by kernel_rfl) (by decide) (fun _ _ _ h => h) (by rfl) ?yc7 ?nc7
      case yc7 => intro W; go_simp; try with_reducible rfl
      try simp only [Act.put, List.setIfInBounds_toArray, List.set_cons_zero, List.set_cons_succ]
      refine stepE_any 8 (some 99) (v := ?vc8) (fun _ => H1.out) rfl (by rfl) (by kernel_rfl) (by kernel_rfl) (by kernel_rfl) (by decide) (fun _ _ _ h => h) (by rfl) ?yc8 ?nc8
      case yc8 => intro W; go_simp; try with_reducible rfl
      try simp only [Act.put, List.setIfInBounds_toArray, List.set_cons_zero, List.set_cons_succ]
      refine stepE_any 9 (some 100) (v := ?vc9) (fun _ => H1.out) rfl (by rfl) (by kernel_rfl) (by kernel_rfl) (by kernel_rfl) (by decide) (fun _ _ _ h => h) (by rfl) ?yc9 ?nc9
      case yc9 => intro W; go_simp; try with_reducible rfl
      try simp only [Act.put, List.setIfInBounds_toArray, List.set_cons_zero, List.set_cons_succ]
      refine stepE_readW 10 (some 101) (v := ?vc10) (H1.out) rfl (by rfl) (by kernel_rfl) (by kernel_rfl) (by kernel_rfl) (by kernel_rfl) (by kernel_rfl) (fun _ _ _ h => h) (by rfl) ?yc10 ?nc10
      case yc10 => intro W hW; have q0 := hW.2.2.1.cell 0; have q1 := hW.2.2.1.cell 1; have q2 := hW.2.2.1.cell 2; go_simp; try with_reducible rfl
      try simp only [Act.put, List.setIfInBounds_toArray, List.set_cons_zero, List.set_cons_succ]
      refine stepE_readW 12 (some 103) (v := ?vc12) (H1.out) rfl (by rfl) (by kernel_rfl) (by kernel_rfl) (by kernel_rfl) (by kernel_rfl) (by kernel_rfl) (fun _ _ _ h => h) (by rfl) ?yc12 ?nc12
      case yc12 => intro W hW; have q0 := hW.2.2.2.cell 0; have q1 := hW.2.2.2.cell 1; have q2 := hW.2.2.2.cell 2; go_simp; try with_reducible rfl
      try simp only [Act.put, List.setIfInBounds_toArray, List.set_cons_zero, List.set_cons_succ]
      -- 11: call:12 -> 102
      refine stepE_only 11 rfl (by kernel_rfl) (by rfl) (fun K' hK => ?_)
      go_simp
      refine (as_any _ c2 g2 A2).mono ?_
      rintro e w20 ⟨rfl, hb20⟩
      have B20 := Lib.hid hb20
      have H2 : Hid ((fun W => Blk W Na 24 [.int .u64 c1, .int .u64 g1, .int .i64 A1] ∧ Blk W Nb 24 [.int .u64 c2, .int .u64 g2, .int .i64 A2] ∧ Blk W Ns 24 [.int .u64 c2, .int .u64 g2, .int .i64 A2] ∧ Blk W Nt 31 [.int .u64 c2, .int .u64 g2, .int .i64 A2]) w20) := Lib.hid ⟨H1.out.1.below hb20 H1.out.1.lt, H1.out.2.1.below hb20 H1.out.2.1.lt, H1.out.2.2.1.below hb20 H1.out.2.2.1.lt, H1.out.2.2.2.below hb20 H1.out.2.2.2.lt⟩
      refine hK _ _ H2.out ?_
      clear hb20
      clear hK K'
      try simp only [Act.put, List.setIfInBounds_toArray, List.set_cons_zero, List.set_cons_succ]
      refine stepE_any 13 (some 104) (v := ?vc13) (fun _ => H2.out) rfl (by rfl) (by kernel_rfl) (by kernel_rfl) (by kernel_rfl) (by decide) (fun _ _ _ h => h) (by rfl) ?yc13 ?nc13
      case yc13 => intro W; go_simp; try with_reducible rfl
      try simp only [Act.put, List.setIfInBounds_toArray, List.set_cons_zero, List.set_cons_succ]
      refine stepE_any 14 (some 105) (v := ?vc14) (fun _ => H2.out) rfl (by rfl) (by kernel_rfl) (by kernel_rfl) (by kernel_rfl) (by decide) (fun _ _ _ h => h) (by rfl) ?yc14 ?nc14
      case yc14 => intro W; go_simp; try with_reducible rfl
      try simp only [Act.put, List.setIfInBounds_toArray, List.set_cons_zero, List.set_cons_succ]
      refine stepE_any 15 (some 106) (v := ?vc15) (fun _ => H2.out) rfl (by rfl) (by kernel_rfl) (by kernel_rfl) (by kernel_rfl) (by decide) (fun _ _ _ h => h) (by rfl) ?yc15 ?nc15
      case yc15 => intro W; go_simp; try with_reducible rfl
      try simp only [Act.put, List.setIfInBounds_toArray, List.set_cons_zero, List.set_cons_succ]
      refine stepE_readW 16 (some 107) (v := ?vc16) (H2.out) rfl (by rfl) (by kernel_rfl) (by kernel_rfl) (by kernel_rfl) (by kernel_rfl) (by kernel_rfl) (fun _ _ _ h => h) (by rfl) ?yc16 ?nc16
      case yc16 => intro W hW; have q0 := hW.2.2.1.cell 0; have q1 := hW.2.2.1.cell 1; have q2 := hW.2.2.1.cell 2; go_simp; try with_reducible rfl
      try simp only [Act.put, List.setIfInBounds_toArray, List.set_cons_zero, List.set_cons_succ]
      refine stepE_readW 17 (some 108) (v := ?vc17) (H2.out) rfl (by rfl) (by kernel_rfl) (by kernel_rfl) (by kernel_rfl) (by kernel_rfl) (by kernel_rfl) (fun _ _ _ h => h) (by rfl) ?yc17 ?nc17
      case yc17 => intro W hW; have q0 := hW.1.cell 0; have q1 := hW.1.cell 1; have q2 := hW.1.cell 2; go_simp; try with_reducible rfl
      try simp only [Act.put, List.setIfInBounds_toArray, List.set_cons_zero, List.set_cons_succ]
      refine stepE_any 18 (some 109) (v := ?vc18) (fun _ => H2.out) rfl (by rfl) (by kernel_rfl) (by kernel_rfl) (by kernel_rfl) (by decide) (fun _ _ _ h => h) (by rfl) ?yc18 ?nc18
      case yc18 => intro W; go_simp; try with_reducible rfl
      try simp only [Act.put, List.setIfInBounds_toArray, List.set_cons_zero, List.set_cons_succ]
      refine stepE_any 19 (some 110) (v := ?vc19) (fun _ => H2.out) rfl (by rfl) (by kernel_rfl) (by kernel_rfl) (by kernel_rfl) (by decide) (fun _ _ _ h => h) (by rfl) ?yc19 ?nc19
      case yc19 => intro W; go_simp; try with_reducible rfl
      try simp only [Act.put, List.setIfInBounds_toArray, List.set_cons_zero, List.set_cons_succ]
      refine stepE_readW 20 (some 111) (v := ?vc20) (H2.out) rfl (by rfl) (by kernel_rfl) (by kernel_rfl) (by kernel_rfl) (by kernel_rfl) (by kernel_rfl) (fun _ _ _ h => h) (by rfl) ?yc20 ?nc20
      case yc20 => intro W hW; have q0 := hW.2.2.1.cell 0; have q1 := hW.2.2.1.cell 1; have q2 := hW.2.2.1.cell 2; go_simp; try with_reducible rfl
      try simp only [Act.put, List.setIfInBounds_toArray, List.set_cons_zero, List.set_cons_succ]
      refine stepE_readW 21 (some 112) (v := ?vc21) (H2.out) rfl (by rfl) (by kernel_rfl) (by kernel_rfl) (by kernel_rfl) (by kernel_rfl) (by kernel_rfl) (fun _ _ _ h => h) (by rfl) ?yc21 ?nc21
      case yc21 => intro W hW; have q0 := hW.2.1.cell 0; have q1 := hW.2.1.cell 1; have q2 := hW.2.1.cell 2; go_simp; try with_reducible rfl
      try simp only [Act.put, List.setIfInBounds_toArray, List.set_cons_zero, List.set_cons_succ]
      refine stepE_any 22 (some 113) (v := ?vc22) (fun _ => H2.out) rfl (by rfl) (by kernel_rfl) (by kernel_rfl) (by kernel_rfl) (by decide) (fun _ _ _ h => h) (by rfl) ?yc22 ?nc22
      case yc22 => intro W; go_simp; try with_reducible rfl
      try simp only [Act.put, List.setIfInBounds_toArray, List.set_cons_zero, List.set_cons_succ]
      refine stepE_any 23 (some 114) (v := ?vc23) (fun _ => H2.out) rfl (by rfl) (by kernel_rfl) (by kernel_rfl) (by kernel_rfl) (by decide) (fun _ _ _ h => h) (by rfl) ?yc23 ?nc23
      case yc23 => intro W; go_simp; try with_reducible rfl
      try simp only [Act.put, List.setIfInBounds_toArray, List.set_cons_zero, List.set_cons_succ]
      refine stepE_any 24 (some 115) (v := ?vc24) (fun _ => H2.out) rfl (by rfl) (by kernel_rfl) (by kernel_rfl) (by kernel_rfl) (by decide) (fun _ _ _ h => h) (by rfl) ?yc24 ?nc24
      case yc24 => intro W; go_simp; try with_reducible rfl
      try simp only [Act.put, List.setIfInBounds_toArray, List.set_cons_zero, List.set_cons_succ]
      refine stepE_any 25 (some 116) (v := ?vc25) (fun _ => H2.out) rfl (by rfl) (by kernel_rfl) (by kernel_rfl) (by kernel_rfl) (by decide) (fun _ _ _ h => h) (by rfl) ?yc25 ?nc25
      case yc25 => intro W; go_simp; try with_reducible rfl
      try simp only [Act.put, List.setIfInBounds_toArray, List.set_cons_zero, List.set_cons_succ]
      refine stepE_any 26 (some 117) (v := ?vc26) (fun _ => H2.out) rfl (by rfl) (by kernel_rfl) (by kernel_rfl) (by kernel_rfl) (by decide) (fun _ _ _ h => h) (by rfl) ?yc26 ?nc26
      case yc26 => intro W; go_simp; try with_reducible rfl
      try simp only [Act.put, List.setIfInBounds_toArray, List.set_cons_zero, List.set_cons_succ]
      refine stepE_any 27 (some 118) (v := ?vc27) (fun _ => H2.out) rfl (by rfl) (by kernel_rfl) (by kernel_rfl) (by kernel_rfl) (by decide) (fun _ _ _ h => h) (by rfl) ?yc27 ?nc27
      case yc27 => intro W; go_simp; try with_reducible rfl
      try simp only [Act.put, List.setIfInBounds_toArray, List.set_cons_zero, List.set_cons_succ]
      refine stepE_any 28 (some 119) (v := ?vc28) (fun _ => H2.out) rfl (by rfl) (by kernel_rfl) (by kernel_rfl) (by kernel_rfl) (by decide) (fun _ _ _ h => h) (by rfl) ?yc28 ?nc28
      case yc28 => intro W; go_simp; try with_reducible rfl
      try simp only [Act.put, List.setIfInBounds_toArray, List.set_cons_zero, List.set_cons_succ]
      refine stepE_readW 29 (some 120) (v := ?vc29) (H2.out) rfl (by rfl) (by kernel_rfl) (by kernel_rfl) (by kernel_rfl) (by kernel_rfl) (by kernel_rfl) (fun _ _ _ h => h) (by rfl) ?yc29 ?nc29
      case yc29 => intro W hW; have q0 := hW.2.2.1.cell 0; have q1 := hW.2.2.1.cell 1; have q2 := hW.2.2.1.cell 2; go_simp; try with_reducible rfl
      try simp only [Act.put, List.setIfInBounds_toArray, List.set_cons_zero, List.set_cons_succ]
      refine stepE_readW 30 (some 121) (v := ?vc30) (H2.out) rfl (by rfl) (by kernel_rfl) (by kernel_rfl) (by kernel_rfl) (by kernel_rfl) (by kernel_rfl) (fun _ _ _ h => h) (by rfl) ?yc30 ?nc30
      case yc30 => intro W hW; have q0 := hW.2.1.cell 0; have q1 := hW.2.1.cell 1; have q2 := hW.2.1.cell 2; go_simp; try with_reducible rfl
      try simp only [Act.put, List.setIfInBounds_toArray, List.set_cons_zero, List.set_cons_succ]
      refine stepE_any 31 (some 122) (v := ?vc31) (fun _ => H2.out) rfl (by rfl) (by kernel_rfl) (by kernel_rfl) (by kernel_rfl) (by decide) (fun _ _ _ h => h) (by rfl) ?yc31 ?nc31
      case yc31 => intro W; go_simp; try with_reducible rfl
      try simp only [Act.put, List.setIfInBounds_toArray, List.set_cons_zero, List.set_cons_succ]
      refine stepE_any 32 (some 123) (v := ?vc32) (fun _ => H2.out) rfl (by rfl) (by kernel_rfl) (by kernel_rfl) (by kernel_rfl) (by decide) (fun _ _ _ h => h) (by rfl) ?yc32 ?nc32
      case yc32 => intro W; go_simp; try with_reducible rfl
      try simp only [Act.put, List.setIfInBounds_toArray, List.set_cons_zero, List.set_cons_succ]
      refine stepE_any 33 (some 124) (v := ?vc33) (fun _ => H2.out) rfl (by rfl) (by kernel_rfl) (by kernel_rfl) (by kernel_rfl) (by decide) (fun _ _ _ h => h) (by rfl) ?yc33 ?nc33
      case yc33 => intro W; go_simp; try with_reducible rfl
      try simp only [Act.put, List.setIfInBounds_toArray, List.set_cons_zero, List.set_cons_succ]
      -- 34: assign -> 14
      refine stepE_end 34 rfl (by kernel_rfl) (by rfl) (by rfl) (fun K' hK => ?_)
      go_simp
      refine hK _ _ ?_
      clear hK K'
      refine wpAnyE_done (by kernel_rfl) ?_ _
      have BLX := Lib.hid (BL18.out.drew.trans (B20.out.mono BL18.out.drew.size))
      go_wp2
      go_ret
      exact ⟨rfl, BLX.out⟩
    · go_wp2_with fail
      refine (choose_any D15.out (by rw [HTL.out]; omega)).mono ?_
      rintro e w16 ⟨rfl, hb16⟩
      rw [HCX.out]
      rw [show slotO (some (c2, g2, A2)) = .agg #[.int .u64 c2, .int .u64 g2, .int .i64 A2] from rfl, show (some (c2, g2, A2) : SlotN).isSome = true from rfl]
      have hx16 := Blk.alloc w16 24 #[.int .u64 c2, .int .u64 g2, .int .i64 A2]
      have hbb : Below w15.heap.size w15 (w16.alloc (.cells #[.int .u64 c2, .int .u64 g2, .int .i64 A2] 24)) := hb16.alloc hb16.size _
      have XA16 := Lib.hid (XA15.out.below hbb XA15.out.lt)
      have XB16 := Lib.hid (XB15.out.below hbb XB15.out.lt)
      have R16 := Lib.hid (R15.out.later hbb)
      have BL16 := Lib.hid (BL15.out.trans (hbb.mono BL15.out.size))
      obtain ⟨w17, hw17⟩ : ∃ x, w16.alloc (.cells #[.int .u64 c2, .int .u64 g2, .int .i64 A2] 24) = x := ⟨_, rfl⟩
      obtain ⟨Ns, hNs⟩ : ∃ x, w16.heap.size = x := ⟨_, rfl⟩
      rw [hw17] at hx16 XA16 XB16 R16 BL16
      rw [hNs] at hx16
      have XS := Lib.hid hx16
      clear hx16 hbb hb16
      go_wp2_with fail
      refine (rchoose_any R16.out (by rw [HTL.out]; omega)).mono ?_
      rintro e w18 ⟨rfl, hb18⟩
      rw [show chooseS (readS (curOf [] (0 : Nat) (T.getD 0 []) ([] : List (Int × List Int)).length)) (readS (curOf [] (1 : Nat) (T.getD 1 []) ([] : List (Int × List Int)).length)) = chooseS (readS (T.getD 0 [])) (readS (T.getD 1 [])) from rfl, HCX.out]
      rw [show slotO (some (c2, g2, A2)) = .agg #[.int .u64 c2, .int .u64 g2, .int .i64 A2] from rfl, show (some (c2, g2, A2) : SlotN).isSome = true from rfl]
      have hx18 := Blk.alloc w18 31 #[.int .u64 c2, .int .u64 g2, .int .i64 A2]
      have hbb : Below w17.heap.size w17 (w18.alloc (.cells #[.int .u64 c2, .int .u64 g2, .int .i64 A2] 31)) := hb18.alloc hb18.size _
      have XA18 := Lib.hid (XA16.out.below hbb XA16.out.lt)
      have XB18 := Lib.hid (XB16.out.below hbb XB16.out.lt)
      have X248 := Lib.hid (XS.out.below hbb XS.out.lt)
      have BL18 := Lib.hid (BL16.out.trans (hbb.mono BL16.out.size))
      obtain ⟨w19, hw19⟩ : ∃ x, w18.alloc (.cells #[.int .u64 c2, .int .u64 g2, .int .i64 A2] 31) = x := ⟨_, rfl⟩
      obtain ⟨Nt, hNt⟩ : ∃ x, w18.heap.size = x := ⟨_, rfl⟩
      rw [hw19] at hx18 XA18 XB18 X248 BL18
      rw [hNt] at hx18
      have XT18 := Lib.hid hx18
      clear hx18 hbb hb18 XA16 XB16 R16 BL16 XS XA15 XB15 D15 R15 BL15 HCX hw17 hNs
      go_wp2_with fail
      clear hw19 hNt
      have H1 : Hid ((fun W => Blk W Na 24 [.int .u64 c1, .int .u64 g1, .int .i64 A1] ∧ Blk W Nb 24 [.int .u64 c2, .int .u64 g2, .int .i64 A2] ∧ Blk W Ns 24 [.int .u64 c2, .int .u64 g2, .int .i64 A2] ∧ Blk W Nt 31 [.int .u64 c2, .int .u64 g2, .int .i64 A2]) w19.drew) := Lib.hid (by
        have hh : Below w19.heap.size w19 w19.drew := (Below.refl _ _).drew
        exact ⟨XA18.out.below hh XA18.out.lt, XB18.out.below hh XB18.out.lt, X248.out.below hh X248.out.lt, XT18.out.below hh XT18.out.lt⟩)
      refine regionE_begin 34 ((fun W => Blk W Na 24 [.int .u64 c1, .int .u64 g1, .int .i64 A1] ∧ Blk W Nb 24 [.int .u64 c2, .int .u64 g2, .int .i64 A2] ∧ Blk W Ns 24 [.int .u64 c2, .int .u64 g2, .int .i64 A2] ∧ Blk W Nt 31 [.int .u64 c2, .int .u64 g2, .int .i64 A2])) (by kernel_rfl) ?_
      refine stepE_any 0 (some 91) (v := ?vd0) (fun _ => H1.out) rfl (by rfl) (by kernel_rfl) (by kernel_rfl) (by kernel_rfl) (by decide) (fun _ _ _ h => h) (by rfl) ?yd0 ?nd0
      case yd0 => intro W; go_simp; try with_reducible rfl
      try simp only [Act.put, List.setIfInBounds_toArray, List.set_cons_zero, List.set_cons_succ]
      refine stepE_any 1 (some 92) (v := ?vd1) (fun _ => H1.out) rfl (by rfl) (by kernel_rfl) (by kernel_rfl) (by kernel_rfl) (by decide) (fun _ _ _ h => h) (by rfl) ?yd1 ?nd1
      case yd1 => intro W; go_simp; try with_reducible rfl
      try simp only [Act.put, List.setIfInBounds_toArray, List.set_cons_zero, List.set_cons_succ]
      refine stepE_any 2 (some 93) (v := ?vd2) (fun _ => H1.out) rfl (by rfl) (by kernel_rfl) (by kernel_rfl) (by kernel_rfl) (by decide) (fun _ _ _ h => h) (by rfl) ?yd2 ?nd2
      case yd2 => intro W; go_simp; try with_reducible rfl
      try simp only [Act.put, List.setIfInBounds_toArray, List.set_cons_zero, List.set_cons_succ]
      refine stepE_any 3 (some 94) (v := ?vd3) (fun _ => H1.out) rfl (by rfl) (by kernel_rfl) (by kernel_rfl) (by kernel_rfl) (by decide) (fun _ _ _ h => h) (by rfl) ?yd3 ?nd3
      case yd3 => intro W; go_simp; try with_reducible rfl
      try simp only [Act.put, List.setIfInBounds_toArray, List.set_cons_zero, List.set_cons_succ]
      refine stepE_any 4 (some 95) (v := ?vd4) (fun _ => H1.out) rfl (by rfl) (by kernel_rfl) (by kernel_rfl) (by kernel_rfl) (by decide) (fun _ _ _ h => h) (by rfl) ?yd4 ?nd4
      case yd4 => intro W; go_simp; try with_reducible rfl
      try simp only [Act.put, List.setIfInBounds_toArray, List.set_cons_zero, List.set_cons_succ]
      refine stepE_any 5 (some 96) (v := ?vd5) (fun _ => H1.out) rfl (by rfl) (by kernel_rfl) (by kernel_rfl) (by kernel_rfl) (by decide) (fun _ _ _ h => h) (by rfl) ?yd5 ?nd5
      case yd5 => intro W; go_simp; try with_reducible rfl
      try simp only [Act.put, List.setIfInBounds_toArray, List.set_cons_zero, List.set_cons_succ]
      refine stepE_any 6 (some 97) (v := ?vd6) (fun _ => H1.out) rfl (by rfl) (by kernel_rfl) (by kernel_rfl) (by kernel_rfl) (by decide) (fun _ _ _ h => h) (by rfl) ?yd6 ?nd6
      case yd6 => intro W; go_simp; try with_reducible rfl
      try simp only [Act.put, List.setIfInBounds_toArray, List.set_cons_zero, List.set_cons_succ]
      refine stepE_any 7 (some 98) (v := ?vd7) (fun _ => H1.out) rfl (by rfl) (by kernel_rfl) (by kernel_rfl) (by kernel_rfl) (by decide) (fun _ _ _ h => h) (by rfl) ?yd7 ?nd7
      case yd7 => intro W; go_simp; try with_reducible rfl
      try simp only [Act.put, List.setIfInBounds_toArray, List.set_cons_zero, List.set_cons_succ]
      refine stepE_any 8 (some 99) (v := ?vd8) (fun _ => H1.out) rfl (by rfl) (by kernel_rfl) (by kernel_rfl) (by kernel_rfl) (by decide) (fun _ _ _ h => h) (by rfl) ?yd8 ?nd8
      case yd8 => intro W; go_simp; try with_reducible rfl
      try simp only [Act.put, List.setIfInBounds_toArray, List.set_cons_zero, List.set_cons_succ]
      refine stepE_any 9 (some 100) (v := ?vd9) (fun _ => H1.out) rfl (by rfl) (by kernel_rfl) (by kernel_rfl) (by kernel_rfl) (by decide) (fun _ _ _ h => h) (by rfl) ?yd9 ?nd9
      case yd9 => intro W; go_simp; try with_reducible rfl
      try simp only [Act.put, List.setIfInBounds_toArray, List.set_cons_zero, List.set_cons_succ]
      refine stepE_readW 10 (some 101) (v := ?vd10) (H1.out) rfl (by rfl) (by kernel_rfl) (by kernel_rfl) (by kernel_rfl) (by kernel_rfl) (by kernel_rfl) (fun _ _ _ h => h) (by rfl) ?yd10 ?nd10
      case yd10 => intro W hW; have q0 := hW.2.2.1.cell 0; have q1 := hW.2.2.1.cell 1; have q2 := hW.2.2.1.cell 2; go_simp; try with_reducible rfl
      try simp only [Act.put, List.setIfInBounds_toArray, List.set_cons_zero, List.set_cons_succ]
      refine stepE_readW 12 (some 103) (v := ?vd12) (H1.out) rfl (by rfl) (by kernel_rfl) (by kernel_rfl) (by kernel_rfl) (by kernel_rfl) (by kernel_rfl) (fun _ _ _ h => h) (by rfl) ?yd12 ?nd12
      case yd12 => intro W hW; have q0 := hW.2.2.2.cell 0; have q1 := hW.2.2.2.cell 1; have q2 := hW.2.2.2.cell 2; go_simp; try with_reducible rfl
      try simp only [Act.put, List.setIfInBounds_toArray, List.set_cons_zero, List.set_cons_succ]
      -- 11: call:12 -> 102
      refine stepE_only 11 rfl (by kernel_rfl) (by rfl) (fun K' hK => ?_)
      go_simp
      refine (as_any _ c2 g2 A2).mono ?_
      rintro e w20 ⟨rfl, hb20⟩
      have B20 := Lib.hid hb20
      have H2 : Hid ((fun W => Blk W Na 24 [.int .u64 c1, .int .u64 g1, .int .i64 A1] ∧ Blk W Nb 24 [.int .u64 c2, .int .u64 g2, .int .i64 A2] ∧ Blk W Ns 24 [.int .u64 c2, .int .u64 g2, .int .i64 A2] ∧ Blk W Nt 31 [.int .u64 c2, .int .u64 g2, .int .i64 A2]) w20) := Lib.hid ⟨H1.out.1.below hb20 H1.out.1.lt, H1.out.2.1.below hb20 H1.out.2.1.lt, H1.out.2.2.1.below hb20 H1.out.2.2.1.lt, H1.out.2.2.2.below hb20 H1.out.2.2.2.lt⟩
      refine hK _ _ H2.out ?_
      clear hb20
      clear hK K'
      try simp only [Act.put, List.setIfInBounds_toArray, List.set_cons_zero, List.set_cons_succ]
      refine stepE_any 13 (some 104) (v := ?vd13) (fun _ => H2.out) rfl (by rfl) (by kernel_rfl) (by kernel_rfl) (by kernel_rfl) (by decide) (fun _ _ _ h => h) (by rfl) ?yd13 ?nd13
      case yd13 => intro W; go_simp; try with_reducible rfl
      try simp only [Act.put, List.setIfInBounds_toArray, List.set_cons_zero, List.set_cons_succ]
      refine stepE_any 14 (some 105) (v := ?vd14) (fun _ => H2.out) rfl (by rfl) (by kernel_rfl) (by kernel_rfl) (by kernel_rfl) (by decide) (fun _ _ _ h => h) (by rfl) ?yd14 ?nd14
      case yd14 => intro W; go_simp; try with_reducible rfl
      try simp only [Act.put, List.setIfInBounds_toArray, List.set_cons_zero, List.set_cons_succ]
      refine stepE_any 15 (some 106) (v := ?vd15) (fun _ => H2.out) rfl (by rfl) (by kernel_rfl) (by kernel_rfl) (by kernel_rfl) (by decide) (fun _ _ _ h => h) (by rfl) ?yd15 ?nd15
      case yd15 => intro W; go_simp; try with_reducible rfl
      try simp only [Act.put, List.setIfInBounds_toArray, List.set_cons_zero, List.set_cons_succ]
      refine stepE_readW 16 (some 107) (v := ?vd16) (H2.out) rfl (by rfl) (by kernel_rfl) (by kernel_rfl) (by kernel_rfl) (by kernel_rfl) (by kernel_rfl) (fun _ _ _ h => h) (by rfl) ?yd16 ?nd16
      case yd16 => intro W hW; have q0 := hW.2.2.1.cell 0; have q1 := hW.2.2.1.cell 1; have q2 := hW.2.2.1.cell 2; go_simp; try with_reducible rfl
      try simp only [Act.put, List.setIfInBounds_toArray, List.set_cons_zero, List.set_cons_succ]
      refine stepE_readW 17 (some 108) (v := ?vd17) (H2.out) rfl (by rfl) (by kernel_rfl) (by kernel_rfl) (by kernel_rfl) (by kernel_rfl) (by kernel_rfl) (fun _ _ _ h => h) (by rfl) ?yd17 ?nd17
      case yd17 => intro W hW; have q0 := hW.1.cell 0; have q1 := hW.1.cell 1; have q2 := hW.1.cell 2; go_simp; try with_reducible rfl
      try simp only [Act.put, List.setIfInBounds_toArray, List.set_cons_zero, List.set_cons_succ]
      refine stepE_any 18 (some 109) (v := ?vd18) (fun _ => H2.out) rfl (by rfl) (by kernel_rfl) (by kernel_rfl) (by kernel_rfl) (by decide) (fun _ _ _ h => h) (by rfl) ?yd18 ?nd18
      case yd18 => intro W; go_simp; try with_reducible rfl
      try simp only [Act.put, List.setIfInBounds_toArray, List.set_cons_zero, List.set_cons_succ]
      refine stepE_any 19 (some 110) (v := ?vd19) (fun _ => H2.out) rfl (by rfl) (by kernel_rfl) (by kernel_rfl) (by kernel_rfl) (by decide) (fun _ _ _ h => h) (by rfl) ?yd19 ?nd19
      case yd19 => intro W; go_simp; try with_reducible rfl
      try simp only [Act.put, List.setIfInBounds_toArray, List.set_cons_zero, List.set_cons_succ]
      refine stepE_readW 20 (some 111) (v := ?vd20) (H2.out) rfl (by rfl) (by kernel_rfl) (by kernel_rfl) (by kernel_rfl) (by kernel_rfl) (by kernel_rfl) (fun _ _ _ h => h) (by rfl) ?yd20 ?nd20
      case yd20 => intro W hW; have q0 := hW.2.2.1.cell 0; have q1 := hW.2.2.1.cell 1; have q2 := hW.2.2.1.cell 2; go_simp; try with_reducible rfl
      try simp only [Act.put, List.setIfInBounds_toArray, List.set_cons_zero, List.set_cons_succ]
      refine stepE_readW 21 (some 112) (v := ?vd21) (H2.out) rfl (by rfl) (by kernel_rfl) (by kernel_rfl) (by kernel_rfl) (by kernel_rfl) (by kernel_rfl) (fun _ _ _ h => h) (by rfl) ?yd21 ?nd21
      case yd21 => intro W hW; have q0 := hW.2.1.cell 0; have q1 := hW.2.1.cell 1; have q2 := hW.2.1.cell 2; go_simp; try with_reducible rfl
      try simp only [Act.put, List.setIfInBounds_toArray, List.set_cons_zero, List.set_cons_succ]
      refine stepE_any 22 (some 113) (v := ?vd22) (fun _ => H2.out) rfl (by rfl) (by kernel_rfl) (by kernel_rfl) (by kernel_rfl) (by decide) (fun _ _ _ h => h) (by rfl) ?yd22 ?nd22
      case yd22 => intro W; go_simp; try with_reducible rfl
      try simp only [Act.put, List.setIfInBounds_toArray, List.set_cons_zero, List.set_cons_succ]
      refine stepE_any 23 (some 114) (v := ?vd23) (fun _ => H2.out) rfl (by rfl) (by kernel_rfl) (by kernel_rfl) (by kernel_rfl) (by decide) (fun _ _ _ h => h) (by rfl) ?yd23 ?nd23
      case yd23 => intro W; go_simp; try with_reducible rfl
      try simp only [Act.put, List.setIfInBounds_toArray, List.set_cons_zero, List.set_cons_succ]
      refine stepE_any 24 (some 115) (v := ?vd24) (fun _ => H2.out) rfl (by rfl) (by kernel_rfl) (by kernel_rfl) (by kernel_rfl) (by decide) (fun _ _ _ h => h) (by rfl) ?yd24 ?nd24
      case yd24 => intro W; go_simp; try with_reducible rfl
      try simp only [Act.put, List.setIfInBounds_toArray, List.set_cons_zero, List.set_cons_succ]
      refine stepE_any 25 (some 116) (v := ?vd25) (fun _ => H2.out) rfl (by rfl) (by kernel_rfl) (by kernel_rfl) (by kernel_rfl) (by decide) (fun _ _ _ h => h) (by rfl) ?yd25 ?nd25
      case yd25 => intro W; go_simp; try with_reducible rfl
      try simp only [Act.put, List.setIfInBounds_toArray, List.set_cons_zero, List.set_cons_succ]
      refine stepE_any 26 (some 117) (v := ?vd26) (fun _ => H2.out) rfl (by rfl) (by kernel_rfl) (by kernel_rfl) (by kernel_rfl) (by decide) (fun _ _ _ h => h) (by rfl) ?yd26 ?nd26
      case yd26 => intro W; go_simp; try with_reducible rfl
      try simp only [Act.put, List.setIfInBounds_toArray, List.set_cons_zero, List.set_cons_succ]
      refine stepE_any 27 (some 118) (v := ?vd27) (fun _ => H2.out) rfl (by rfl) (by kernel_rfl) (by kernel_rfl) (by kernel_rfl) (by decide) (fun _ _ _ h => h) (by rfl) ?yd27 ?nd27
      case yd27 => intro W; go_simp; try with_reducible rfl
      try simp only [Act.put, List.setIfInBounds_toArray, List.set_cons_zero, List.set_cons_succ]
      refine stepE_any 28 (some 119) (v := ?vd28) (fun _ => H2.out) rfl (by rfl) (by kernel_rfl) (by kernel_rfl) (by kernel_rfl) (by decide) (fun _ _ _ h => h) (by rfl) ?yd28 ?nd28
      case yd28 => intro W; go_simp; try with_reducible rfl
      try simp only [Act.put, List.setIfInBounds_toArray, List.set_cons_zero, List.set_cons_succ]
      refine stepE_skip 29 (some 120) (fun _ => H2.out) rfl (by rfl) (by kernel_rfl) (by kernel_rfl) (by kernel_rfl) (by decide) (fun _ _ _ h => h) (by rfl) ?_
      try simp only [Act.put, List.setIfInBounds_toArray, List.set_cons_zero, List.set_cons_succ]
      refine stepE_skip 30 (some 121) (fun _ => H2.out) rfl (by rfl) (by kernel_rfl) (by kernel_rfl) (by kernel_rfl) (by decide) (fun _ _ _ h => h) (by rfl) ?_
      try simp only [Act.put, List.setIfInBounds_toArray, List.set_cons_zero, List.set_cons_succ]
      refine stepE_skip 31 (some 122) (fun _ => H2.out) rfl (by rfl) (by kernel_rfl) (by kernel_rfl) (by kernel_rfl) (by decide) (fun _ _ _ h => h) (by rfl) ?_
      try simp only [Act.put, List.setIfInBounds_toArray, List.set_cons_zero, List.set_cons_succ]
      refine stepE_any 32 (some 123) (v := ?vd32) (fun _ => H2.out) rfl (by rfl) (by kernel_rfl) (by kernel_rfl) (by kernel_rfl) (by decide) (fun _ _ _ h => h) (by rfl) ?yd32 ?nd32
      case yd32 => intro W; go_simp; try with_reducible rfl
      try simp only [Act.put, List.setIfInBounds_toArray, List.set_cons_zero, List.set_cons_succ]
      refine stepE_any 33 (some 124) (v := ?vd33) (fun _ => H2.out) rfl (by rfl) (by kernel_rfl) (by kernel_rfl) (by kernel_rfl) (by decide) (fun _ _ _ h => h) (by rfl) ?yd33 ?nd33
      case yd33 => intro W; go_simp; try with_reducible rfl
      try simp only [Act.put, List.setIfInBounds_toArray, List.set_cons_zero, List.set_cons_succ]
      -- 34: assign -> 14
      refine stepE_end 34 rfl (by kernel_rfl) (by rfl) (by rfl) (fun K' hK => ?_)
      go_simp
      refine hK _ _ ?_
      clear hK K'
      refine wpAnyE_done (by kernel_rfl) ?_ _
      have BLX := Lib.hid (BL18.out.drew.trans (B20.out.mono BL18.out.drew.size))
      go_wp2
      go_ret
      exact ⟨rfl, BLX.out⟩
  | false =>
    rw [hbv] at HCH
    have HCX := Lib.hid (HCH.out.trans (if_neg Bool.false_ne_true))
    clear HCH
    rcases hEE with rfl | rfl
    · exact absurd (HB64.out rfl) (by rw [hbv]; decide)
    · go_wp2_with fail
      refine (choose_any D15.out (by rw [HTL.out]; omega)).mono ?_
      rintro e w16 ⟨rfl, hb16⟩
      rw [HCX.out]
      rw [show slotO (some (c1, g1, A1)) = .agg #[.int .u64 c1, .int .u64 g1, .int .i64 A1] from rfl, show (some (c1, g1, A1) : SlotN).isSome = true from rfl]
      have hx16 := Blk.alloc w16 24 #[.int .u64 c1, .int .u64 g1, .int .i64 A1]
      have hbb : Below w15.heap.size w15 (w16.alloc (.cells #[.int .u64 c1, .int .u64 g1, .int .i64 A1] 24)) := hb16.alloc hb16.size _
      have XA16 := Lib.hid (XA15.out.below hbb XA15.out.lt)
      have XB16 := Lib.hid (XB15.out.below hbb XB15.out.lt)
      have R16 := Lib.hid (R15.out.later hbb)
      have BL16 := Lib.hid (BL15.out.trans (hbb.mono BL15.out.size))
      obtain ⟨w17, hw17⟩ : ∃ x, w16.alloc (.cells #[.int .u64 c1, .int .u64 g1, .int .i64 A1] 24) = x := ⟨_, rfl⟩
      obtain ⟨Ns, hNs⟩ : ∃ x, w16.heap.size = x := ⟨_, rfl⟩
      rw [hw17] at hx16 XA16 XB16 R16 BL16
      rw [hNs] at hx16
      have XS := Lib.hid hx16
      clear hx16 hbb hb16
      go_wp2_with fail
      refine (rchoose_any R16.out (by rw [HTL.out]; omega)).mono ?_
      rintro e w18 ⟨rfl, hb18⟩
      rw [show chooseS (readS (curOf [] (0 : Nat) (T.getD 0 []) ([] : List (Int × List Int)).length)) (readS (curOf [] (1 : Nat) (T.getD 1 []) ([] : List (Int × List Int)).length)) = chooseS (readS (T.getD 0 [])) (readS (T.getD 1 [])) from rfl, HCX.out]
      rw [show slotO (some (c1, g1, A1)) = .agg #[.int .u64 c1, .int .u64 g1, .int .i64 A1] from rfl, show (some (c1, g1, A1) : SlotN).isSome = true from rfl]
      have hx18 := Blk.alloc w18 31 #[.int .u64 c1, .int .u64 g1, .int .i64 A1]
      have hbb : Below w17.heap.size w17 (w18.alloc (.cells #[.int .u64 c1, .int .u64 g1, .int .i64 A1] 31)) := hb18.alloc hb18.size _
      have XA18 := Lib.hid (XA16.out.below hbb XA16.out.lt)
      have XB18 := Lib.hid (XB16.out.below hbb XB16.out.lt)
      have X248 := Lib.hid (XS.out.below hbb XS.out.lt)
      have BL18 := Lib.hid (BL16.out.trans (hbb.mono BL16.out.size))
      obtain ⟨w19, hw19⟩ : ∃ x, w18.alloc (.cells #[.int .u64 c1, .int .u64 g1, .int .i64 A1] 31) = x := ⟨_, rfl⟩
      obtain ⟨Nt, hNt⟩ : ∃ x, w18.heap.size = x := ⟨_, rfl⟩
      rw [hw19] at hx18 XA18 XB18 X248 BL18
      rw [hNt] at hx18
      have XT18 := Lib.hid hx18
      clear hx18 hbb hb18 XA16 XB16 R16 BL16 XS XA15 XB15 D15 R15 BL15 HCX hw17 hNs
      go_wp2_with fail
      clear hw19 hNt
      have H1 : Hid ((fun W => Blk W Na 24 [.int .u64 c1, .int .u64 g1, .int .i64 A1] ∧ Blk W Nb 24 [.int .u64 c2, .int .u64 g2, .int .i64 A2] ∧ Blk W Ns 24 [.int .u64 c1, .int .u64 g1, .int .i64 A1] ∧ Blk W Nt 31 [.int .u64 c1, .int .u64 g1, .int .i64 A1]) w19.drew) := Lib.hid (by
        have hh : Below w19.heap.size w19 w19.drew := (Below.refl _ _).drew
        exact ⟨XA18.out.below hh XA18.out.lt, XB18.out.below hh XB18.out.lt, X248.out.below hh X248.out.lt, XT18.out.below hh XT18.out.lt⟩)
      refine regionE_begin 34 ((fun W => Blk W Na 24 [.int .u64 c1, .int .u64 g1, .int .i64 A1] ∧ Blk W Nb 24 [.int .u64 c2, .int .u64 g2, .int .i64 A2] ∧ Blk W Ns 24 [.int .u64 c1, .int .u64 g1, .int .i64 A1] ∧ Blk W Nt 31 [.int .u64 c1, .int .u64 g1, .int .i64 A1])) (by kernel_rfl) ?_
      refine stepE_any 0 (some 91) (v := ?ve0) (fun _ => H1.out) rfl (by rfl) (by kernel_rfl) (by kernel_rfl) (by kernel_rfl) (by decide) (fun _ _ _ h => h) (by rfl) ?ye0 ?ne0
      case ye0 => intro W; go_simp; try with_reducible rfl
      try simp only [Act.put, List.setIfInBounds_toArray, List.set_cons_zero, List.set_cons_succ]
      refine stepE_any 1 (some 92) (v := ?ve1) (fun _ => H1.out) rfl (by rfl) (by kernel_rfl) (by kernel_rfl) (by kernel_rfl) (by decide) (fun _ _ _ h => h) (by rfl) ?ye1 ?ne1
      case ye1 => intro W; go_simp; try with_reducible rfl
      try simp only [Act.put, List.setIfInBounds_toArray, List.set_cons_zero, List.set_cons_succ]
      refine stepE_any 2 (some 93) (v := ?ve2) (fun _ => H1.out) rfl (by rfl) (by kernel_rfl) (by kernel_rfl) (by kernel_rfl) (by decide) (fun _ _ _ h => h) (by rfl) ?ye2 ?ne2
      case ye2 => intro W; go_simp; try with_reducible rfl
      try simp only [Act.put, List.setIfInBounds_toArray, List.set_cons_zero, List.set_cons_succ]
      refine stepE_any 3 (some 94) (v := ?ve3) (fun _ => H1.out) rfl (by rfl) (by kernel_rfl) (by kernel_rfl) (by kernel_rfl) (by decide) (fun _ _ _ h => h) (by rfl) ?ye3 ?ne3
      case ye3 => intro W; go_simp; try with_reducible rfl
      try simp only [Act.put, List.setIfInBounds_toArray, List.set_cons_zero, List.set_cons_succ]
      refine stepE_any 4 (some 95) (v := ?ve4) (fun _ => H1.out) rfl (by rfl) (by kernel_rfl) (by kernel_rfl) (by kernel_rfl) (by decide) (fun _ _ _ h => h) (by rfl) ?ye4 ?ne4
      case ye4 => intro W; go_simp; try with_reducible rfl
      try simp only [Act.put, List.setIfInBounds_toArray, List.set_cons_zero, List.set_cons_succ]
      refine stepE_any 5 (some 96) (v := ?ve5) (fun _ => H1.out) rfl (by rfl) (by kernel_rfl) (by kernel_rfl) (by kernel_rfl) (by decide) (fun _ _ _ h => h) (by rfl) ?ye5 ?ne5
      case ye5 => intro W; go_simp; try with_reducible rfl
      try simp only [Act.put, List.setIfInBounds_toArray, List.set_cons_zero, List.set_cons_succ]
      refine stepE_any 6 (some 97) (v := ?ve6) (fun _ => H1.out) rfl (by rfl) (by kernel_rfl) (by kernel_rfl) (by kernel_rfl) (by decide) (fun _ _ _ h => h) (by rfl) ?ye6 ?ne6
      case ye6 => intro W; go_simp; try with_reducible rfl
      try simp only [Act.put, List.setIfInBounds_toArray, List.set_cons_zero, List.set_cons_succ]
      refine stepE_any 7 (some 98) (v := ?ve7) (fun _ => H1.out) rfl (by rfl) (by kernel_rfl) (by kernel_rfl) (by kernel_rfl) (by decide) (fun _ _ _ h => h) (by rfl) ?ye7 ?ne7
      case ye7 => intro W; go_simp; try with_reducible rfl
      try simp only [Act.put, List.setIfInBounds_toArray, List.set_cons_zero, List.set_cons_succ]
      refine stepE_any 8 (some 99) (v := ?ve8) (fun _ => H1.out) rfl (by rfl) (by kernel_rfl) (by kernel_rfl) (by kernel_rfl) (by decide) (fun _ _ _ h => h) (by rfl) ?ye8 ?ne8
      case ye8 => intro W; go_simp; try with_reducible rfl
      try simp only [Act.put, List.setIfInBounds_toArray, List.set_cons_zero, List.set_cons_succ]
      refine stepE_any 9 (some 100) (v := ?ve9) (fun _ => H1.out) rfl (by rfl) (by kernel_rfl) (by kernel_rfl) (by kernel_rfl) (by decide) (fun _ _ _ h => h) (by rfl) ?ye9 ?ne9
      case ye9 => intro W; go_simp; try with_reducible rfl
      try simp only [Act.put, List.setIfInBounds_toArray, List.set_cons_zero, List.set_cons_succ]
      refine stepE_readW 10 (some 101) (v := ?ve10) (H1.out) rfl (by rfl) (by kernel_rfl) (by kernel_rfl) (by kernel_rfl) (by kernel_rfl) (by kernel_rfl) (fun _ _ _ h => h) (by rfl) ?ye10 ?ne10
      case ye10 => intro W hW; have q0 := hW.2.2.1.cell 0; have q1 := hW.2.2.1.cell 1; have q2 := hW.2.2.1.cell 2; go_simp; try with_reducible rfl
      try simp only [Act.put, List.setIfInBounds_toArray, List.set_cons_zero, List.set_cons_succ]
      refine stepE_readW 12 (some 103) (v := ?ve12) (H1.out) rfl (by rfl) (by kernel_rfl) (by kernel_rfl) (by kernel_rfl) (by kernel_rfl) (by kernel_rfl) (fun _ _ _ h => h) (by rfl) ?ye12 ?ne12
      case ye12 => intro W hW; have q0 := hW.2.2.2.cell 0; have q1 := hW.2.2.2.cell 1; have q2 := hW.2.2.2.cell 2; go_simp; try with_reducible rfl
      try simp only [Act.put, List.setIfInBounds_toArray, List.set_cons_zero, List.set_cons_succ]
      -- 11: call:12 -> 102
      refine stepE_only 11 rfl (by kernel_rfl) (by rfl) (fun K' hK => ?_)
      go_simp
      refine (as_any _ c1 g1 A1).mono ?_
      rintro e w20 ⟨rfl, hb20⟩
      have B20 := Lib.hid hb20
      have H2 : Hid ((fun W => Blk W Na 24 [.int .u64 c1, .int .u64 g1, .int .i64 A1] ∧ Blk W Nb 24 [.int .u64 c2, .int .u64 g2, .int .i64 A2] ∧ Blk W Ns 24 [.int .u64 c1, .int .u64 g1, .int .i64 A1] ∧ Blk W Nt 31 [.int .u64 c1, .int .u64 g1, .int .i64 A1]) w20) := Lib.hid ⟨H1.out.1.below hb20 H1.out.1.lt, H1.out.2.1.below hb20 H1.out.2.1.lt, H1.out.2.2.1.below hb20 H1.out.2.2.1.lt, H1.out.2.2.2.below hb20 H1.out.2.2.2.lt⟩
      refine hK _ _ H2.out ?_
      clear hb20
      clear hK K'
      try simp only [Act.put, List.setIfInBounds_toArray, List.set_cons_zero, List.set_cons_succ]
      refine stepE_any 13 (some 104) (v := ?ve13) (fun _ => H2.out) rfl (by rfl) (by kernel_rfl) (by kernel_rfl) (by kernel_rfl) (by decide) (fun _ _ _ h => h) (by rfl) ?ye13 ?ne13
      case ye13 => intro W; go_simp; try with_reducible rfl
      try simp only [Act.put, List.setIfInBounds_toArray, List.set_cons_zero, List.set_cons_succ]
      refine stepE_any 14 (some 105) (v := ?ve14) (fun _ => H2.out) rfl (by rfl) (by kernel_rfl) (by kernel_rfl) (by kernel_rfl) (by decide) (fun _ _ _ h => h) (by rfl) ?ye14 ?ne14
      case ye14 => intro W; go_simp; try with_reducible rfl
      try simp only [Act.put, List.setIfInBounds_toArray, List.set_cons_zero, List.set_cons_succ]
      refine stepE_any 15 (some 106) (v := ?ve15) (fun _ => H2.out) rfl (by rfl) (by kernel_rfl) (by kernel_rfl) (by kernel_rfl) (by decide) (fun _ _ _ h => h) (by rfl) ?ye15 ?ne15
      case ye15 => intro W; go_simp; try with_reducible rfl
      try simp only [Act.put, List.setIfInBounds_toArray, List.set_cons_zero, List.set_cons_succ]
      refine stepE_readW 16 (some 107) (v := ?ve16) (H2.out) rfl (by rfl) (by kernel_rfl) (by kernel_rfl) (by kernel_rfl) (by kernel_rfl) (by kernel_rfl) (fun _ _ _ h => h) (by rfl) ?ye16 ?ne16
      case ye16 => intro W hW; have q0 := hW.2.2.1.cell 0; have q1 := hW.2.2.1.cell 1; have q2 := hW.2.2.1.cell 2; go_simp; try with_reducible rfl
      try simp only [Act.put, List.setIfInBounds_toArray, List.set_cons_zero, List.set_cons_succ]
      refine stepE_readW 17 (some 108) (v := ?ve17) (H2.out) rfl (by rfl) (by kernel_rfl) (by kernel_rfl) (by kernel_rfl) (by kernel_rfl) (by kernel_rfl) (fun _ _ _ h => h) (by rfl) ?ye17 ?ne17
      case ye17 => intro W hW; have q0 := hW.1.cell 0; have q1 := hW.1.cell 1; have q2 := hW.1.cell 2; go_simp; try with_reducible rfl
      try simp only [Act.put, List.setIfInBounds_toArray, List.set_cons_zero, List.set_cons_succ]
      refine stepE_any 18 (some 109) (v := ?ve18) (fun _ => H2.out) rfl (by rfl) (by kernel_rfl) (by kernel_rfl) (by kernel_rfl) (by decide) (fun _ _ _ h => h) (by rfl) ?ye18 ?ne18
      case ye18 => intro W; go_simp; try with_reducible rfl
      try simp only [Act.put, List.setIfInBounds_toArray, List.set_cons_zero, List.set_cons_succ]
      refine stepE_any 19 (some 110) (v := ?ve19) (fun _ => H2.out) rfl (by rfl) (by kernel_rfl) (by kernel_rfl) (by kernel_rfl) (by decide) (fun _ _ _ h => h) (by rfl) ?ye19 ?ne19
      case ye19 => intro W; go_simp; try with_reducible rfl
      try simp only [Act.put, List.setIfInBounds_toArray, List.set_cons_zero, List.set_cons_succ]
      refine stepE_skip 20 (some 111) (fun _ => H2.out) rfl (by rfl) (by kernel_rfl) (by kernel_rfl) (by kernel_rfl) (by decide) (fun _ _ _ h => h) (by rfl) ?_
      try simp only [Act.put, List.setIfInBounds_toArray, List.set_cons_zero, List.set_cons_succ]
      refine stepE_skip 21 (some 112) (fun _ => H2.out) rfl (by rfl) (by kernel_rfl) (by kernel_rfl) (by kernel_rfl) (by decide) (fun _ _ _ h => h) (by rfl) ?_
      try simp only [Act.put, List.setIfInBounds_toArray, List.set_cons_zero, List.set_cons_succ]
      refine stepE_skip 22 (some 113) (fun _ => H2.out) rfl (by rfl) (by kernel_rfl) (by kernel_rfl) (by kernel_rfl) (by decide) (fun _ _ _ h => h) (by rfl) ?_
      try simp only [Act.put, List.setIfInBounds_toArray, List.set_cons_zero, List.set_cons_succ]
      refine stepE_any 23 (some 114) (v := ?ve23) (fun _ => H2.out) rfl (by rfl) (by kernel_rfl) (by kernel_rfl) (by kernel_rfl) (by decide) (fun _ _ _ h => h) (by rfl) ?ye23 ?ne23
      case ye23 => intro W; go_simp; try with_reducible rfl
      try simp only [Act.put, List.setIfInBounds_toArray, List.set_cons_zero, List.set_cons_succ]
      refine stepE_any 24 (some 115) (v := ?ve24) (fun _ => H2.out) rfl (by rfl) (by kernel_rfl) (by kernel_rfl) (by kernel_rfl) (by decide) (fun _ _ _ h => h) (by rfl) ?ye24 ?ne24
      case ye24 => intro W; go_simp; try with_reducible rfl
      try simp only [Act.put, List.setIfInBounds_toArray, List.set_cons_zero, List.set_cons_succ]
      refine stepE_any 25 (some 116) (v := ?ve25) (fun _ => H2.out) rfl (by rfl) (by kernel_rfl) (by kernel_rfl) (by kernel_rfl) (by decide) (fun _ _ _ h => h) (by rfl) ?ye25 ?ne25
      case ye25 => intro W; go_simp; try with_reducible rfl
      try simp only [Act.put, List.setIfInBounds_toArray, List.set_cons_zero, List.set_cons_succ]
      refine stepE_any 26 (some 117) (v := ?ve26) (fun _ => H2.out) rfl (by rfl) (by kernel_rfl) (by kernel_rfl) (by kernel_rfl) (by decide) (fun _ _ _ h => h) (by rfl) ?ye26 ?ne26
      case ye26 => intro W; go_simp; try with_reducible rfl
      try simp only [Act.put, List.setIfInBounds_toArray, List.set_cons_zero, List.set_cons_succ]
      refine stepE_any 27 (some 118) (v := ?ve27) (fun _ => H2.out) rfl (by rfl) (by kernel_rfl) (by kernel_rfl) (by kernel_rfl) (by decide) (fun _ _ _ h => h) (by rfl) ?ye27 ?ne27
      case ye27 => intro W; go_simp; try with_reducible rfl
      try simp only [Act.put, List.setIfInBounds_toArray, List.set_cons_zero, List.set_cons_succ]
      refine stepE_any 28 (some 119) (v := ?ve28) (fun _ => H2.out) rfl (by rfl) (by kernel_rfl) (by kernel_rfl) (by kernel_rfl) (by decide) (fun _ _ _ h => h) (by rfl) ?ye28 ?ne28
      case ye28 => intro W; go_simp; try with_reducible rfl
      try simp only [Act.put, List.setIfInBounds_toArray, List.set_cons_zero, List.set_cons_succ]
      refine stepE_skip 29 (some 120) (fun _ => H2.out) rfl (by rfl) (by kernel_rfl) (by kernel_rfl) (by kernel_rfl) (by decide) (fun _ _ _ h => h) (by rfl) ?_
      try simp only [Act.put, List.setIfInBounds_toArray, List.set_cons_zero, List.set_cons_succ]
      refine stepE_skip 30 (some 121) (fun _ => H2.out) rfl (by rfl) (by kernel_rfl) (by kernel_rfl) (by kernel_rfl) (by decide) (fun _ _ _ h => h) (by rfl) ?_
      try simp only [Act.put, List.setIfInBounds_toArray, List.set_cons_zero, List.set_cons_succ]
      refine stepE_skip 31 (some 122) (fun _ => H2.out) rfl (by rfl) (by kernel_rfl) (by kernel_rfl) (by kernel_rfl) (by decide) (fun _ _ _ h => h) (by rfl) ?_
      try simp only [Act.put, List.setIfInBounds_toArray, List.set_cons_zero, List.set_cons_succ]
      refine stepE_any 32 (some 123) (v := ?ve32) (fun _ => H2.out) rfl (by rfl) (by kernel_rfl) (by kernel_rfl) (by kernel_rfl) (by decide) (fun _ _ _ h => h) (by rfl) ?ye32 ?ne32
      case ye32 => intro W; go_simp; try with_reducible rfl
      try simp only [Act.put, List.setIfInBounds_toArray, List.set_cons_zero, List.set_cons_succ]
      refine stepE_any 33 (some 124) (v := ?ve33) (fun _ => H2.out) rfl (by rfl) (by kernel_rfl) (by kernel_rfl) (by kernel_rfl) (by decide) (fun _ _ _ h => h) (by rfl) ?ye33 ?ne33
      case ye33 => intro W; go_simp; try with_reducible rfl
      try simp only [Act.put, List.setIfInBounds_toArray, List.set_cons_zero, List.set_cons_succ]
      -- 34: assign -> 14
      refine stepE_end 34 rfl (by kernel_rfl) (by rfl) (by rfl) (fun K' hK => ?_)
      go_simp
      refine hK _ _ ?_
      clear hK K'
      refine wpAnyE_done (by kernel_rfl) ?_ _
      have BLX := Lib.hid (BL18.out.drew.trans (B20.out.mono BL18.out.drew.size))
      go_wp2
      go_ret
      exact ⟨rfl, BLX.out⟩
end Go.Proofs.Ythecjhjomkpgkaa.K
