/- mementoref6.ReadEntry. -/
import Derived.Test.YtkfcpnmdmoeioaaRE2
import Derived.Test.YtkfcpnmdmoeioaaEntry3
namespace Go.Proofs.Ytkfcpnmdmoeioaa.K
open Go.ChangeShapes Go.WideShapes Go.ChangeAt Go.RowKit
set_option linter.unusedVariables false


theorem numsLt_keep {N : Nat} {k : IntKind} {bad : Nat → Prop} {w W : World} {v : Value} {zs : List Int} (h : NumsLt N k w v zs) (hk : Keep bad w W) (hb : ∀ q, q < N → ¬ bad q) (hN : N ≤ w.heap.size) : NumsLt N k W v zs := by
  obtain ⟨a, c, rfl, h1, h2, h3 | ⟨b, off, rfl, h4, h5⟩⟩ := h
  · exact ⟨a, c, rfl, h1, h2, .inl h3⟩
  · exact ⟨_, c, rfl, h1, h2, .inr ⟨b, off, rfl, h4, fun j hj => by rw [hk.cell (hb b h4) (by show b < _; omega)]; exact h5 j hj⟩⟩
def REntReadPost (w : World) (B : Nat) (v : Value) (bs : List Int) (e : Int) (en : Ending) (w' : World) : Prop :=
  ∃ u, en = .returned (.tuple #[entV (entRV bs e).1 (entRV bs e).2.1 (entRV bs e).2.2.1 u, .bool (entROk bs e)]) ∧ NumsLt B .u8 w' u (entRV bs e).2.2.2 ∧ (∃ v', IsReader w' B v' (entR bs e).2.1 (entR bs e).2.2 ∧ SameB v v') ∧ Only B w w' ∧ SameB v u

set_option maxRecDepth 100000 in
set_option maxHeartbeats 4000000 in
theorem rentRead_any (B : Nat) (v : Value) (bs : List Int) (e : Int) (w : World) (h : IsReader w B v bs e) (hl : bs.length ≤ 100000) :
    Calls Try.prog 26 #[.pointer (some ⟨B, 0, none⟩)] w (REntReadPost w B v bs e) := by
  have hB := h.lt
  obtain ⟨q1, hq1⟩ : ∃ q, numR bs e 1099511627776 = q := ⟨_, rfl⟩
  obtain ⟨q2, hq2⟩ : ∃ q, numR q1.2.1 q1.2.2 1099511627776 = q := ⟨_, rfl⟩
  obtain ⟨q3, hq3⟩ : ∃ q, numR q2.2.1 q2.2.2 2 = q := ⟨_, rfl⟩
  obtain ⟨q4, hq4⟩ : ∃ q, lumpR q3.2.1 q3.2.2 32767 = q := ⟨_, rfl⟩
  have hR : entR bs e = ((q1.1, q2.1, q3.1, q4.1), q4.2) := by unfold entR; rw [hq1, hq2, hq3, hq4]
  have b1 := numR_le bs e 1099511627776 (by decide)
  have b2 := numR_le q1.2.1 q1.2.2 1099511627776 (by decide)
  have b3 := numR_le q2.2.1 q2.2.2 2 (by decide)
  have l1 := numR_len bs e 1099511627776
  have l2 := numR_len q1.2.1 q1.2.2 1099511627776
  have l3 := numR_len q2.2.1 q2.2.2 2
  rw [hq1] at b1 l1
  rw [hq2] at b2 l2
  rw [hq3] at b3 l3
  have H3 : Hid (q3.2.1.length ≤ 100000) := Lib.hid (by omega)
  have HR := Lib.hid hR
  have Q1 := Lib.hid hq1
  have Q2 := Lib.hid hq2
  have Q3 := Lib.hid hq3
  have Q4 := Lib.hid hq4
  obtain ⟨n1, hn1⟩ : ∃ n, q1.1 = n := ⟨_, rfl⟩
  obtain ⟨n2, hn2⟩ : ∃ n, q2.1 = n := ⟨_, rfl⟩
  obtain ⟨n3, hn3⟩ : ∃ n, q3.1 = n := ⟨_, rfl⟩
  rw [hn1] at b1
  rw [hn2] at b2
  rw [hn3] at b3
  have hw1 : IntKind.i64.wrap n1 = n1 := IntWalk.i64_in _ (by omega)
  have hw2 : IntKind.i64.wrap n2 = n2 := IntWalk.i64_in _ (by omega)
  have hw3 : IntKind.i64.wrap n3 = n3 := IntWalk.i64_in _ (by omega)
  have N1 := Lib.hid hn1
  have N2 := Lib.hid hn2
  have N3 := Lib.hid hn3
  have hb0 : Below w.heap.size w ((w.alloc (.cells #[.int .i64 0, .int .i64 0, .int .i64 0, .slice none 0 0] 24)).alloc (.cells #[.int .i64 0, .int .i64 0, .int .i64 0, .slice none 0 0] 24)) := ((Below.refl w.heap.size w).alloc (Nat.le_refl _) _).alloc (by simp) _
  have hx0 := (Blk.alloc w 24 #[.int .i64 0, .int .i64 0, .int .i64 0, .slice none 0 0]).below ((Below.refl (w.alloc (.cells #[.int .i64 0, .int .i64 0, .int .i64 0, .slice none 0 0] 24)).heap.size (w.alloc (.cells #[.int .i64 0, .int .i64 0, .int .i64 0, .slice none 0 0] 24))).alloc (Nat.le_refl _) (.cells #[.int .i64 0, .int .i64 0, .int .i64 0, .slice none 0 0] 24)) (Blk.alloc w 24 #[.int .i64 0, .int .i64 0, .int .i64 0, .slice none 0 0]).lt
  have hy0 := Blk.alloc (w.alloc (.cells #[.int .i64 0, .int .i64 0, .int .i64 0, .slice none 0 0] 24)) 24 #[.int .i64 0, .int .i64 0, .int .i64 0, .slice none 0 0]
  rw [show (w.alloc (.cells #[.int .i64 0, .int .i64 0, .int .i64 0, .slice none 0 0] 24)).heap.size = w.heap.size + 1 by simp] at hy0
  have R0 := Lib.hid (h.later hb0)
  have B0 := Lib.hid hb0
  have XR0 := Lib.hid hx0
  have X0 := Lib.hid hy0
  have HB := Lib.hid hB
  clear h hq1 hq2 hq3 hq4 hR b1 b2 b3 l1 l2 l3 hn1 hn2 hn3 hb0 hx0 hy0 hl
  go_enter Try.func26, Try.ntmps26
  go_wp2_with fail
  obtain ⟨s0, hs0⟩ : ∃ x, (w.alloc (.cells #[.int .i64 0, .int .i64 0, .int .i64 0, .slice none 0 0] 24)).alloc (.cells #[.int .i64 0, .int .i64 0, .int .i64 0, .slice none 0 0] 24) = x := ⟨_, rfl⟩
  rw [hs0] at R0 B0 X0 XR0 ⊢
  obtain ⟨N4, hN4⟩ : ∃ x, w.heap.size + 1 = x := ⟨_, rfl⟩
  obtain ⟨Nr, hNr⟩ : ∃ x, w.heap.size = x := ⟨_, rfl⟩
  have HN4 := Lib.hid hN4
  have HNR := Lib.hid hNr
  rw [hN4] at X0 ⊢
  rw [hNr] at XR0 ⊢
  clear hs0 hN4 hNr
  have NB4 : Hid (¬ (N4 = B)) := Lib.hid (by have := HB.out; have := HN4.out; omega)
  have NBR : Hid (¬ (Nr = B)) := Lib.hid (by have := HB.out; have := HNR.out; omega)
  have NR4 : Hid (¬ (Nr = N4)) := Lib.hid (by have := HN4.out; have := HNR.out; omega)
  have BN4 : Hid (B < N4) := Lib.hid (by have := HB.out; have := HN4.out; omega)
  have O0 := Lib.hid (Only.ofBelow (B := B) B0.out)
  have SB0 := Lib.hid (SameB.refl v)
  clear B0
  refine (rnum_any B v _ _ 1099511627776 s0 R0.out (by decide)).mono ?_
  rintro en w1 ⟨rfl, v1, hr, ho, hsb⟩
  rw [Q1.out] at hr ⊢
  rw [N1.out]
  have hx := X0.out.keep ho.keep NB4.out
  have g := hx.cell 0
  have f := hx.free 0
  have hk : Keep (fun q => q = N4) w1 (w1.setCell ⟨N4, 0, none⟩ (.int .i64 n1)) := Keep.setCell (bad := fun q => q = N4) rfl _
  have R1 := Lib.hid (hr.kept (Only.ofKeep hk) BN4.out)
  have X1 := Lib.hid (hx.setCell 0 (.int .i64 n1))
  have XR1 := Lib.hid ((XR0.out.keep ho.keep NBR.out).keep hk NR4.out)
  have O1 := Lib.hid ((O0.out.trans ho).thenNew hk (fun q e => by have h9 : q = N4 := e; have := HN4.out; omega))
  have SB1 := Lib.hid (SB0.out.trans hsb)
  clear hr ho hsb hx hk R0 X0 XR0 O0 SB0
  go_wp2_with fail
  obtain ⟨s1, hs1⟩ : ∃ x, w1.setCell ⟨N4, 0, none⟩ (.int .i64 n1) = x := ⟨_, rfl⟩
  rw [hs1] at R1 X1 XR1 O1 ⊢
  clear g f hs1
  refine (rnum_any B v1 _ _ 1099511627776 s1 R1.out (by decide)).mono ?_
  rintro en w2 ⟨rfl, v2, hr, ho, hsb⟩
  rw [Q2.out] at hr ⊢
  rw [N2.out]
  have hx := X1.out.keep ho.keep NB4.out
  have g := hx.cell 1
  have f := hx.free 1
  have hk : Keep (fun q => q = N4) w2 (w2.setCell ⟨N4, 1, none⟩ (.int .i64 n2)) := Keep.setCell (bad := fun q => q = N4) rfl _
  have R2 := Lib.hid (hr.kept (Only.ofKeep hk) BN4.out)
  have X2 := Lib.hid (hx.setCell 1 (.int .i64 n2))
  have XR2 := Lib.hid ((XR1.out.keep ho.keep NBR.out).keep hk NR4.out)
  have O2 := Lib.hid ((O1.out.trans ho).thenNew hk (fun q e => by have h9 : q = N4 := e; have := HN4.out; omega))
  have SB2 := Lib.hid (SB1.out.trans hsb)
  clear hr ho hsb hx hk R1 X1 XR1 O1 SB1
  go_wp2_with fail
  obtain ⟨s2, hs2⟩ : ∃ x, w2.setCell ⟨N4, 1, none⟩ (.int .i64 n2) = x := ⟨_, rfl⟩
  rw [hs2] at R2 X2 XR2 O2 ⊢
  clear g f hs2
  refine (rnum_any B v2 _ _ 2 s2 R2.out (by decide)).mono ?_
  rintro en w3 ⟨rfl, v3, hr, ho, hsb⟩
  rw [Q3.out] at hr ⊢
  rw [N3.out]
  have hx := X2.out.keep ho.keep NB4.out
  have g := hx.cell 2
  have f := hx.free 2
  have hk : Keep (fun q => q = N4) w3 (w3.setCell ⟨N4, 2, none⟩ (.int .i64 n3)) := Keep.setCell (bad := fun q => q = N4) rfl _
  have R3 := Lib.hid (hr.kept (Only.ofKeep hk) BN4.out)
  have X3 := Lib.hid (hx.setCell 2 (.int .i64 n3))
  have XR3 := Lib.hid ((XR2.out.keep ho.keep NBR.out).keep hk NR4.out)
  have O3 := Lib.hid ((O2.out.trans ho).thenNew hk (fun q e => by have h9 : q = N4 := e; have := HN4.out; omega))
  have SB3 := Lib.hid (SB2.out.trans hsb)
  clear hr ho hsb hx hk R2 X2 XR2 O2 SB2
  go_wp2_with fail
  obtain ⟨s3, hs3⟩ : ∃ x, w3.setCell ⟨N4, 2, none⟩ (.int .i64 n3) = x := ⟨_, rfl⟩
  rw [hs3] at R3 X3 XR3 O3 ⊢
  clear g f hs3
  refine (rrlump_any B v3 _ _ 32767 s3 R3.out (by decide) (by decide) H3.out).mono ?_
  rintro en w4 ⟨p4, c4, rfl, hnl, v4, hr, ho, hsb, hsu⟩
  have HSU := Lib.hid (fun (l c' : Nat) => SB3.out.trans (SameB.slice (l' := l) (c' := c') hsu))
  clear hsu
  rw [Q4.out] at hr hnl ⊢
  obtain ⟨d, hd⟩ : ∃ d, q4.1 = d := ⟨_, rfl⟩
  have HDD := Lib.hid hd
  rw [hd] at hnl ⊢
  obtain ⟨dn, hdn⟩ : ∃ n, d.length = n := ⟨_, rfl⟩
  have HDN := Lib.hid hdn
  rw [hdn] at hnl ⊢
  have hx := X3.out.keep ho.keep NB4.out
  have g := hx.cell 3
  have f := hx.free 3
  have hk : Keep (fun q => q = N4) w4 (w4.setCell ⟨N4, 3, none⟩ (.slice p4 dn c4)) := Keep.setCell (bad := fun q => q = N4) rfl _
  have NL4 := Lib.hid (numsLt_keep hnl hk (fun q hq e => by have h9 : q = N4 := e; have := BN4.out; omega) (Nat.le_of_lt hr.lt))
  have NL4' := Lib.hid (hnl.nums (Nat.le_of_lt hr.lt))
  have R4 := Lib.hid (hr.kept (Only.ofKeep hk) BN4.out)
  have X4 := Lib.hid (hx.setCell 3 (.slice p4 dn c4))
  have XR4 := Lib.hid ((XR3.out.keep ho.keep NBR.out).keep hk NR4.out)
  have O4 := Lib.hid ((O3.out.trans ho).thenNew hk (fun q e => by have h9 : q = N4 := e; have := HN4.out; omega))
  have SB4 := Lib.hid (SB3.out.trans hsb)
  obtain ⟨EE, hE⟩ : ∃ E, q4.2.2 = E := ⟨_, rfl⟩
  have HE := Lib.hid hE
  have hok : entROk bs e = (decide (EE = 0) && entOk n1 n2 n3 d) := by unfold entROk; rw [HR.out]; simp only; rw [N1.out, N2.out, N3.out, HDD.out, hE]
  have hrest : (entR bs e).2.1 = q4.2.1 := by rw [HR.out]
  have herr : (entR bs e).2.2 = EE := by rw [HR.out]; exact hE
  have HREST := Lib.hid hrest
  have HERR := Lib.hid herr
  have gE : w4.cell? ⟨B, 1, none⟩ = some (.int .i64 EE) := by rw [← hE]; exact hr.2.1
  have gE' : (w4.setCell ⟨N4, 3, none⟩ (.slice p4 dn c4)).cell? ⟨B, 1, none⟩ = some (.int .i64 EE) := by rw [← hE]; exact R4.out.2.1
  have y0 := hx.cell 0
  have y1 := hx.cell 1
  have y2 := hx.cell 2
  clear hd hdn hnl hr ho hsb hx hk hE hrest herr X3 XR3 O3 SB3 R3
  by_cases hE0 : EE = 0
  · subst hE0
    rw [show (decide ((0 : Int) = 0) && entOk n1 n2 n3 d) = entOk n1 n2 n3 d from by rw [decide_eq_true rfl]; rfl] at hok
    have z0 := X4.out.cell 0
    have z1 := X4.out.cell 1
    have z2 := X4.out.cell 2
    have z3 := X4.out.cell 3
    have ND4 : Hid (IsNums .u8 (w4.setCell ⟨N4, 3, none⟩ (.slice p4 dn c4)) (.slice p4 dn c4) d) := Lib.hid (NL4.out.nums (by have := R4.out.lt; omega))
    cases hq : entOk n1 n2 n3 d with
    | true =>
      have HOK := Lib.hid (hok.trans hq)
      have HQ := Lib.hid hq
      clear hok hq
      go_wp2_with fail
      clear gE gE' g f y0 y1 y2
      refine (rentRight_any n1 n2 n3 _ d _ ND4.out).mono ?_
      rintro en w6 ⟨rfl, hb6⟩
      rw [HQ.out]
      have XQ := Lib.hid (XR4.out.below hb6 XR4.out.lt)
      have RQ := Lib.hid (R4.out.later hb6)
      have OQ := Lib.hid (O4.out.thenBelow hb6)
      have NQ := Lib.hid (numsLt_keep NL4.out (Keep.ofBelow (bad := fun _ => False) hb6) (fun _ _ h => h) (Nat.le_of_lt R4.out.lt))
      have u0 := (X4.out.below hb6 X4.out.lt).cell 0
      have u1 := (X4.out.below hb6 X4.out.lt).cell 1
      have u2 := (X4.out.below hb6 X4.out.lt).cell 2
      have u3 := (X4.out.below hb6 X4.out.lt).cell 3
      clear hb6 z0 z1 z2 z3
      go_wp2_with ((with_reducible refine wpList_storeB XQ.out (.tmp 2) (.tmp 31) 0 [.int .i64 n1, .int .i64 n2, .int .i64 n3, .slice p4 dn c4] ?_ ?_ ?_ ?_ ?_ ?_); exact rfl; exact rfl; (show 0 + 4 ≤ 4; omega); exact infoEn; exact ent_ones _ _ _ _ _ _; intro wB hbB hkB; have HBB : Hid (Blk wB Nr 24 [.int .i64 n1, .int .i64 n2, .int .i64 n3, .slice p4 dn c4]) := Lib.hid hbB; have HKB := Lib.hid hkB; clear hbB hkB)
      have e0 := HBB.out.cell 0
      have e1 := HBB.out.cell 1
      have e2 := HBB.out.cell 2
      have e3 := HBB.out.cell 3
      try simp only [Exit.inBlock, Exit.then]
      refine bodyPost_ret (v := .tuple #[.agg #[.int .i64 n1, .int .i64 n2, .int .i64 n3, .slice p4 dn c4], .bool true]) (by simp [results, Try.results26, go_sem, e0, e1, e2, e3]; try rfl) rfl ?_
      have hrB := RQ.out.kept (Only.ofKeep HKB.out) (by have := HB.out; have := HNR.out; omega)
      have hoB := OQ.out.thenNew HKB.out (fun i h => by have h9 : i = Nr := h; have := HNR.out; omega)
      have hV : entRV bs e = (n1, n2, n3, d) := by unfold entRV; rw [HOK.out, if_pos rfl, HR.out, N1.out, N2.out, N3.out, HDD.out]
      refine ⟨.slice p4 dn c4, by rw [hV, HOK.out]; rfl, ?_, ⟨v4, by rw [HREST.out, HERR.out, ← HE.out]; exact hrB, SB4.out⟩, hoB, HSU.out dn c4⟩
      rw [hV]
      exact numsLt_keep NQ.out HKB.out (fun q hq e => by have h9 : q = Nr := e; have := HB.out; have := HNR.out; omega) (Nat.le_of_lt RQ.out.lt)
    | false =>
      have HOK := Lib.hid (hok.trans hq)
      have HQ := Lib.hid hq
      clear hok hq
      go_wp2_with fail
      clear gE gE' g f y0 y1 y2
      refine (rentRight_any n1 n2 n3 _ d _ ND4.out).mono ?_
      rintro en w6 ⟨rfl, hb6⟩
      rw [HQ.out]
      have XQ := Lib.hid (XR4.out.below hb6 XR4.out.lt)
      have RQ := Lib.hid (R4.out.later hb6)
      have OQ := Lib.hid (O4.out.thenBelow hb6)
      have NQ := Lib.hid (numsLt_keep NL4.out (Keep.ofBelow (bad := fun _ => False) hb6) (fun _ _ h => h) (Nat.le_of_lt R4.out.lt))
      have u0 := (X4.out.below hb6 X4.out.lt).cell 0
      have u1 := (X4.out.below hb6 X4.out.lt).cell 1
      have u2 := (X4.out.below hb6 X4.out.lt).cell 2
      have u3 := (X4.out.below hb6 X4.out.lt).cell 3
      clear hb6 z0 z1 z2 z3
      go_wp2_with ((with_reducible refine wpList_storeB XQ.out (.tmp 2) (.tmp 30) 0 [.int .i64 0, .int .i64 0, .int .i64 0, .slice none 0 0] ?_ ?_ ?_ ?_ ?_ ?_); exact rfl; exact rfl; (show 0 + 4 ≤ 4; omega); exact infoEn; exact ent_ones _ _ _ _ _ _; intro wB hbB hkB; have HBB : Hid (Blk wB Nr 24 [.int .i64 0, .int .i64 0, .int .i64 0, .slice none 0 0]) := Lib.hid hbB; have HKB := Lib.hid hkB; clear hbB hkB)
      have e0 := HBB.out.cell 0
      have e1 := HBB.out.cell 1
      have e2 := HBB.out.cell 2
      have e3 := HBB.out.cell 3
      try simp only [Exit.inBlock, Exit.then]
      refine bodyPost_ret (v := .tuple #[.agg #[.int .i64 0, .int .i64 0, .int .i64 0, .slice none 0 0], .bool false]) (by simp [results, Try.results26, go_sem, e0, e1, e2, e3]; try rfl) rfl ?_
      have hrB := RQ.out.kept (Only.ofKeep HKB.out) (by have := HB.out; have := HNR.out; omega)
      have hoB := OQ.out.thenNew HKB.out (fun i h => by have h9 : i = Nr := h; have := HNR.out; omega)
      have hV : entRV bs e = (0, 0, 0, []) := by unfold entRV; rw [HOK.out]; rfl
      refine ⟨.slice none 0 0, by rw [hV, HOK.out]; rfl, by rw [hV]; exact ⟨none, 0, rfl, Nat.le_refl _, by omega, .inl rfl⟩, ⟨v4, by rw [HREST.out, HERR.out, ← HE.out]; exact hrB, SB4.out⟩, hoB, SameB.nil _⟩
  · have HOK : Hid (entROk bs e = false) := Lib.hid (by rw [hok, decide_eq_false hE0]; rfl)
    clear hok
    have XQ := XR4
    have RQ := R4
    have OQ := O4
    go_wp2_with ((with_reducible refine wpList_storeB XQ.out (.tmp 2) (.tmp 30) 0 [.int .i64 0, .int .i64 0, .int .i64 0, .slice none 0 0] ?_ ?_ ?_ ?_ ?_ ?_); exact rfl; exact rfl; (show 0 + 4 ≤ 4; omega); exact infoEn; exact ent_ones _ _ _ _ _ _; intro wB hbB hkB; have HBB : Hid (Blk wB Nr 24 [.int .i64 0, .int .i64 0, .int .i64 0, .slice none 0 0]) := Lib.hid hbB; have HKB := Lib.hid hkB; clear hbB hkB)
    have e0 := HBB.out.cell 0
    have e1 := HBB.out.cell 1
    have e2 := HBB.out.cell 2
    have e3 := HBB.out.cell 3
    try simp only [Exit.inBlock, Exit.then]
    refine bodyPost_ret (v := .tuple #[.agg #[.int .i64 0, .int .i64 0, .int .i64 0, .slice none 0 0], .bool false]) (by simp [results, Try.results26, go_sem, e0, e1, e2, e3]; try rfl) rfl ?_
    have hrB := RQ.out.kept (Only.ofKeep HKB.out) (by have := HB.out; have := HNR.out; omega)
    have hoB := OQ.out.thenNew HKB.out (fun i h => by have h9 : i = Nr := h; have := HNR.out; omega)
    have hV : entRV bs e = (0, 0, 0, []) := by unfold entRV; rw [HOK.out]; rfl
    refine ⟨.slice none 0 0, by rw [hV, HOK.out]; rfl, by rw [hV]; exact ⟨none, 0, rfl, Nat.le_refl _, by omega, .inl rfl⟩, ⟨v4, by rw [HREST.out, HERR.out, ← HE.out]; exact hrB, SB4.out⟩, hoB, SameB.nil _⟩
end Go.Proofs.Ytkfcpnmdmoeioaa.K
