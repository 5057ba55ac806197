/- mementoref6.ReadBase. -/
import Derived.Test.YtkfcpnmdmoeioaaRE3
import Derived.Test.YtkfcpnmdmoeioaaRE5
import Derived.Test.YtkfcpnmdmoeioaaEntry7
namespace Go.Proofs.Ytkfcpnmdmoeioaa.K
open Go.ChangeShapes Go.WideShapes Go.ChangeAt Go.RowKit
set_option linter.unusedVariables false


def confM (bs : List Int) (e : Int) : Nat → List Int × List Int × Int
  | 0 => ([], bs, e)
  | k + 1 => ((confM bs e k).1 ++ [(numR (confM bs e k).2.1 (confM bs e k).2.2 7).1], (numR (confM bs e k).2.1 (confM bs e k).2.2 7).2)
theorem confM_len (bs : List Int) (e : Int) : ∀ k, (confM bs e k).1.length = k
  | 0 => rfl
  | k + 1 => by rw [confM, List.length_append, confM_len bs e k]; rfl
theorem confM_rest (bs : List Int) (e : Int) : ∀ k, (confM bs e k).2.1.length ≤ bs.length
  | 0 => Nat.le_refl _
  | k + 1 => Nat.le_trans (numR_len _ _ _) (confM_rest bs e k)
def rR4 (bs : List Int) (e : Int) := confM (bR3 bs e).2.1 (bR3 bs e).2.2 (bR3 bs e).1.toNat
def rR5 (bs : List Int) (e : Int) := lumpR (rR4 bs e).2.1 (rR4 bs e).2.2 32767
def rbaseR (bs : List Int) (e : Int) : (Int × Int × List Int × List Int) × List Int × Int := (((bR1 bs e).1, (bR2 bs e).1, (rR4 bs e).1, (rR5 bs e).1), (rR5 bs e).2)
def rbaseROk (bs : List Int) (e : Int) : Bool := decide ((rbaseR bs e).2.2 = 0) && baseOk (rbaseR bs e).1.1 (rbaseR bs e).1.2.1 (rbaseR bs e).1.2.2.1 (rbaseR bs e).1.2.2.2
def rbaseRV (bs : List Int) (e : Int) : Int × Int × List Int × List Int := if rbaseROk bs e then (rbaseR bs e).1 else (0, 0, [], [])
def RBaseReadPost (w : World) (B : Nat) (v : Value) (bs : List Int) (e : Int) (en : Ending) (w' : World) : Prop :=
  ∃ uc u, en = .returned (.tuple #[baseV (rbaseRV bs e).1 (rbaseRV bs e).2.1 uc u, .bool (rbaseROk bs e)]) ∧ w'.ownsRow w.heap.size 3 1 uc (rbaseRV bs e).2.2.1.length ((rbaseRV bs e).2.2.1.map (Value.int .i64)) ∧ NumsLt B .u8 w' u (rbaseRV bs e).2.2.2 ∧ (∃ v', IsReader w' B v' (rbaseR bs e).2.1 (rbaseR bs e).2.2 ∧ SameB v v') ∧ Only B w w' ∧ SameB v u

set_option maxRecDepth 100000 in
set_option maxHeartbeats 4000000 in
theorem rbaseRead_any (B : Nat) (v : Value) (bs : List Int) (e : Int) (w : World) (h : IsReader w B v bs e) (hl : bs.length ≤ 100000) :
    Calls Try.prog 27 #[.pointer (some ⟨B, 0, none⟩)] w (RBaseReadPost w B v bs e) := by
  have hB := h.lt
  obtain ⟨q1, hq1⟩ : ∃ q, bR1 bs e = q := ⟨_, rfl⟩
  obtain ⟨q2, hq2⟩ : ∃ q, bR2 bs e = q := ⟨_, rfl⟩
  obtain ⟨q3, hq3⟩ : ∃ q, bR3 bs e = q := ⟨_, rfl⟩
  have b1 := numR_le bs e 1099511627776 (by decide)
  have b2 := numR_le (bR1 bs e).2.1 (bR1 bs e).2.2 1099511627776 (by decide)
  have b3 := numR_le (bR2 bs e).2.1 (bR2 bs e).2.2 7 (by decide)
  have l1 := numR_len bs e 1099511627776
  have l2 := numR_len (bR1 bs e).2.1 (bR1 bs e).2.2 1099511627776
  have l3 := numR_len (bR2 bs e).2.1 (bR2 bs e).2.2 7
  change 0 ≤ (bR1 bs e).1 ∧ (bR1 bs e).1 ≤ _ at b1
  change 0 ≤ (bR2 bs e).1 ∧ (bR2 bs e).1 ≤ _ at b2
  change 0 ≤ (bR3 bs e).1 ∧ (bR3 bs e).1 ≤ _ at b3
  change (bR1 bs e).2.1.length ≤ _ at l1
  change (bR2 bs e).2.1.length ≤ _ at l2
  change (bR3 bs e).2.1.length ≤ _ at l3
  have e2 : numR q1.2.1 q1.2.2 1099511627776 = q2 := by rw [← hq1]; exact hq2
  have e3 : numR q2.2.1 q2.2.2 7 = q3 := by rw [← hq2]; exact hq3
  rw [hq1] at b1 l1 l2
  rw [hq2] at b2 l2 l3
  rw [hq3] at b3 l3
  have H3 : Hid (q3.2.1.length ≤ 100000) := Lib.hid (by omega)
  have E1 : Hid (numR bs e 1099511627776 = q1) := Lib.hid hq1
  have E2 := Lib.hid e2
  have E3 := Lib.hid e3
  have Q1 := Lib.hid hq1
  have Q2 := Lib.hid hq2
  have Q3 := Lib.hid hq3
  obtain ⟨n1, hn1⟩ : ∃ n, q1.1 = n := ⟨_, rfl⟩
  obtain ⟨n2, hn2⟩ : ∃ n, q2.1 = n := ⟨_, rfl⟩
  obtain ⟨m, hm⟩ : ∃ m : Nat, q3.1 = (m : Int) := ⟨q3.1.toNat, by omega⟩
  rw [hn1] at b1
  rw [hn2] at b2
  rw [hm] at b3
  have hw1 : IntKind.i64.wrap n1 = n1 := IntWalk.i64_in _ (by omega)
  have hw2 : IntKind.i64.wrap n2 = n2 := IntWalk.i64_in _ (by omega)
  have hm7 : (m : Int) ≤ 7 := by omega
  have N1 := Lib.hid hn1
  have N2 := Lib.hid hn2
  have MM := Lib.hid hm
  have hb0 : Below w.heap.size w ((w.alloc (.cells #[.int .i64 0, .int .i64 0, .slice none 0 0, .slice none 0 0] 27)).alloc (.cells #[.int .i64 0, .int .i64 0, .slice none 0 0, .slice none 0 0] 27)) := ((Below.refl w.heap.size w).alloc (Nat.le_refl _) _).alloc (by simp) _
  have hx0 := (Blk.alloc w 27 #[.int .i64 0, .int .i64 0, .slice none 0 0, .slice none 0 0]).below ((Below.refl (w.alloc (.cells #[.int .i64 0, .int .i64 0, .slice none 0 0, .slice none 0 0] 27)).heap.size (w.alloc (.cells #[.int .i64 0, .int .i64 0, .slice none 0 0, .slice none 0 0] 27))).alloc (Nat.le_refl _) (.cells #[.int .i64 0, .int .i64 0, .slice none 0 0, .slice none 0 0] 27)) (Blk.alloc w 27 #[.int .i64 0, .int .i64 0, .slice none 0 0, .slice none 0 0]).lt
  have hy0 := Blk.alloc (w.alloc (.cells #[.int .i64 0, .int .i64 0, .slice none 0 0, .slice none 0 0] 27)) 27 #[.int .i64 0, .int .i64 0, .slice none 0 0, .slice none 0 0]
  rw [show (w.alloc (.cells #[.int .i64 0, .int .i64 0, .slice none 0 0, .slice none 0 0] 27)).heap.size = w.heap.size + 1 by simp] at hy0
  have R0 := Lib.hid (h.later hb0)
  have B0 := Lib.hid hb0
  have XR0 := Lib.hid hx0
  have X0 := Lib.hid hy0
  have HB := Lib.hid hB
  clear h hq1 hq2 hq3 e2 e3 b1 b2 b3 l1 l2 l3 hn1 hn2 hm hb0 hx0 hy0 hl
  go_enter Try.func27, Try.ntmps27
  go_wp2_with fail
  obtain ⟨s0, hs0⟩ : ∃ x, (w.alloc (.cells #[.int .i64 0, .int .i64 0, .slice none 0 0, .slice none 0 0] 27)).alloc (.cells #[.int .i64 0, .int .i64 0, .slice none 0 0, .slice none 0 0] 27) = x := ⟨_, rfl⟩
  rw [hs0] at R0 B0 X0 XR0 ⊢
  obtain ⟨N4, hN4⟩ : ∃ x, w.heap.size + 1 = x := ⟨_, rfl⟩
  obtain ⟨Nr, hNr⟩ : ∃ x, w.heap.size = x := ⟨_, rfl⟩
  have HN4 := Lib.hid hN4
  have HNR := Lib.hid hNr
  rw [hN4] at X0 ⊢
  rw [hNr] at XR0 ⊢
  clear hs0 hN4 hNr
  have NB4 : Hid (¬ (N4 = B)) := Lib.hid (by have := HB.out; have := HN4.out; omega)
  have NBR : Hid (¬ (Nr = B)) := Lib.hid (by have := HB.out; have := HNR.out; omega)
  have NR4 : Hid (¬ (Nr = N4)) := Lib.hid (by have := HN4.out; have := HNR.out; omega)
  have BN4 : Hid (B < N4) := Lib.hid (by have := HB.out; have := HN4.out; omega)
  have O0 := Lib.hid (Only.ofBelow (B := B) B0.out)
  have SB0 := Lib.hid (SameB.refl v)
  clear B0
  refine (rnum_any B v _ _ 1099511627776 s0 R0.out (by decide)).mono ?_
  rintro en w1 ⟨rfl, v1, hr, ho, hsb⟩
  rw [E1.out] at hr ⊢
  rw [N1.out]
  have hx := X0.out.keep ho.keep NB4.out
  have g := hx.cell 0
  have f := hx.free 0
  have hk : Keep (fun q => q = N4) w1 (w1.setCell ⟨N4, 0, none⟩ (.int .i64 n1)) := Keep.setCell (bad := fun q => q = N4) rfl _
  have R1 := Lib.hid (hr.kept (Only.ofKeep hk) BN4.out)
  have X1 := Lib.hid (hx.setCell 0 (.int .i64 n1))
  have XR1 := Lib.hid ((XR0.out.keep ho.keep NBR.out).keep hk NR4.out)
  have O1 := Lib.hid ((O0.out.trans ho).thenNew hk (fun q e => by have h9 : q = N4 := e; have := HN4.out; omega))
  have SB1 := Lib.hid (SB0.out.trans hsb)
  clear hr ho hsb hx hk R0 X0 XR0 O0 SB0
  go_wp2_with fail
  obtain ⟨s1, hs1⟩ : ∃ x, w1.setCell ⟨N4, 0, none⟩ (.int .i64 n1) = x := ⟨_, rfl⟩
  rw [hs1] at R1 X1 XR1 O1 ⊢
  clear g f hs1
  refine (rnum_any B v1 _ _ 1099511627776 s1 R1.out (by decide)).mono ?_
  rintro en w2 ⟨rfl, v2, hr, ho, hsb⟩
  rw [E2.out] at hr ⊢
  rw [N2.out]
  have hx := X1.out.keep ho.keep NB4.out
  have g := hx.cell 1
  have f := hx.free 1
  have hk : Keep (fun q => q = N4) w2 (w2.setCell ⟨N4, 1, none⟩ (.int .i64 n2)) := Keep.setCell (bad := fun q => q = N4) rfl _
  have R2 := Lib.hid (hr.kept (Only.ofKeep hk) BN4.out)
  have X2 := Lib.hid (hx.setCell 1 (.int .i64 n2))
  have XR2 := Lib.hid ((XR1.out.keep ho.keep NBR.out).keep hk NR4.out)
  have O2 := Lib.hid ((O1.out.trans ho).thenNew hk (fun q e => by have h9 : q = N4 := e; have := HN4.out; omega))
  have SB2 := Lib.hid (SB1.out.trans hsb)
  clear hr ho hsb hx hk R1 X1 XR1 O1 SB1
  go_wp2_with fail
  obtain ⟨s2, hs2⟩ : ∃ x, w2.setCell ⟨N4, 1, none⟩ (.int .i64 n2) = x := ⟨_, rfl⟩
  rw [hs2] at R2 X2 XR2 O2 ⊢
  clear g f hs2
  refine (rnum_any B v2 _ _ 7 s2 R2.out (by decide)).mono ?_
  rintro en w5 ⟨rfl, v5, hr5, ho5, hsb⟩
  rw [E3.out] at hr5 ⊢
  rw [MM.out]
  obtain ⟨r0, hr0⟩ : ∃ r, q3.2.1 = r := ⟨_, rfl⟩
  obtain ⟨x0, hx0⟩ : ∃ r, q3.2.2 = r := ⟨_, rfl⟩
  rw [hr0, hx0] at hr5
  have R0E := Lib.hid hr0
  have X0E := Lib.hid hx0
  have HR0 : Hid (r0.length ≤ 100000) := Lib.hid (by rw [← hr0]; exact H3.out)
  have R5 := Lib.hid hr5
  have X5 : Hid (Blk w5 N4 27 [.int .i64 n1, .int .i64 n2, .slice none 0 0, .slice none 0 0]) := Lib.hid (X2.out.keep ho5.keep NB4.out)
  have XR5 := Lib.hid (XR2.out.keep ho5.keep NBR.out)
  have O5 := Lib.hid (O2.out.trans ho5)
  have SB5 := Lib.hid (SB2.out.trans hsb)
  have NRL : Hid (Nr < N4) := Lib.hid (by have := HN4.out; have := HNR.out; omega)
  obtain ⟨M, hM⟩ : ∃ M, w5.heap.size = M := ⟨_, rfl⟩
  have LT : Hid (B < M ∧ N4 < M ∧ Nr < M) := Lib.hid (by have := R5.out.lt; have := X5.out.lt; have := XR5.out.lt; omega)
  have HMM := Lib.hid hM
  have MW0 : Hid (w.heap.size ≤ M) := Lib.hid (by have := O5.out.size; omega)
  have hwm : IntKind.i64.wrap (m : Int) = (m : Int) := IntWalk.i64_in _ (by omega)
  clear hr0 hx0 hr5 ho5 hM hsb X2 XR2 O2 R2 SB2
  go_wp2
  go_loopw [6] (fun q wr => ∃ (k : Nat) (vc v' : Value), k ≤ m ∧ q = .int .i64 k ∧ SameB v v' ∧ IsReader wr B v' (confM r0 x0 k).2.1 (confM r0 x0 k).2.2 ∧ Blk wr N4 27 [.int .i64 n1, .int .i64 n2, vc, .slice none 0 0] ∧ Blk wr Nr 27 [.int .i64 0, .int .i64 0, .slice none 0 0, .slice none 0 0] ∧ wr.ownsRow M 3 1 vc k ((confM r0 x0 k).1.map (Value.int .i64)) ∧ Only B w wr ∧ M ≤ wr.heap.size) (fun q _ => m - (intOf q).toNat)
  case atStart => exact ⟨0, .slice none 0 0, v5, Nat.zero_le _, rfl, SB5.out, R5.out, X5.out, XR5.out, World.ownsRow_nil _ _ _ _, O5.out, Nat.le_of_eq HMM.out.symm⟩
  case round =>
    obtain ⟨k, vc, v', hk, rfl, hsb, hrd, hx, hxr, how, hon, hmw⟩ := hrel
    by_cases hlt : k < m
    · obtain ⟨pc, cc, hvc⟩ := ownsRow_shape how
      subst hvc
      obtain ⟨wd, hwd⟩ : ∃ x, wr.drew = x := ⟨_, rfl⟩
      have hdr : Below wr.heap.size wr wd := by rw [← hwd]; exact (Below.refl _ _).drew
      have XD := Lib.hid (hx.below hdr hx.lt)
      have XRD := Lib.hid (hxr.below hdr hxr.lt)
      have OWD := Lib.hid (own_keep how (Keep.ofBelow (bad := fun _ => False) hdr) (fun _ _ h => h))
      have OND := Lib.hid (hon.thenBelow hdr)
      obtain ⟨r9, hr9⟩ : ∃ r, (confM r0 x0 k).2.1 = r := ⟨_, rfl⟩
      obtain ⟨x9, hx9⟩ : ∃ r, (confM r0 x0 k).2.2 = r := ⟨_, rfl⟩
      rw [hr9, hx9] at hrd
      have RR := Lib.hid (hrd.later hdr)
      have MW : Hid (M ≤ wd.heap.size) := Lib.hid (Nat.le_trans hmw hdr.size)
      obtain ⟨qx, hqx⟩ : ∃ q, numR r9 x9 7 = q := ⟨_, rfl⟩
      have hle := numR_le r9 x9 7 (by decide)
      rw [hqx] at hle
      have hcs : (confM r0 x0 (k + 1)).1 = (confM r0 x0 k).1 ++ [qx.1] := by show (confM r0 x0 k).1 ++ [(numR (confM r0 x0 k).2.1 (confM r0 x0 k).2.2 7).1] = _; rw [hr9, hx9, hqx]
      have hcr : (confM r0 x0 (k + 1)).2 = qx.2 := by show (numR (confM r0 x0 k).2.1 (confM r0 x0 k).2.2 7).2 = _; rw [hr9, hx9, hqx]
      obtain ⟨x, hxe⟩ : ∃ x, qx.1 = x := ⟨_, rfl⟩
      rw [hxe] at hle hcs
      have hwx : IntKind.i64.wrap x = x := IntWalk.i64_in _ (by omega)
      have HSB := Lib.hid hsb
      clear hsb
      have QX := Lib.hid hqx
      have XE := Lib.hid hxe
      have CS := Lib.hid hcs
      have CR := Lib.hid hcr
      have KM : Hid (k ≤ 7) := Lib.hid (by omega)
      have hkI : (k : Int) < m := by omega
      have hk7 : (k : Int) ≤ 7 := by omega
      clear hrd hx hxr how hon hmw hdr hr9 hx9 hqx hle hcs hcr hxe
      go_wp2_with fail
      refine regionE_begin 8 (fun W => Blk W N4 27 [.int .i64 n1, .int .i64 n2, .slice pc k cc, .slice none 0 0]) (by kernel_rfl) ?_
      rw [hwd]
      clear hwd
      refine stepE_any 0 (some 23) (v := ?va0) (fun _ => XD.out) rfl (by rfl) (by kernel_rfl) (by kernel_rfl) (by kernel_rfl) (by decide) (fun _ _ _ h => h) (by rfl) ?ya0 ?na0
      case ya0 => intro W; go_simp; try with_reducible rfl
      try simp only [Act.put, List.setIfInBounds_toArray, List.set_cons_zero, List.set_cons_succ]
      refine stepE_readW 1 (some 24) (v := ?va1) (XD.out) rfl (by rfl) (by kernel_rfl) (by kernel_rfl) (by kernel_rfl) (by kernel_rfl) (by kernel_rfl) (fun _ _ _ h => h) (by rfl) ?ya1 ?na1
      case ya1 => intro W hW; have q2 := hW.cell 2; go_simp; try with_reducible rfl
      try simp only [Act.put, List.setIfInBounds_toArray, List.set_cons_zero, List.set_cons_succ]
      refine stepE_any 2 (some 25) (v := ?va2) (fun _ => XD.out) rfl (by rfl) (by kernel_rfl) (by kernel_rfl) (by kernel_rfl) (by decide) (fun _ _ _ h => h) (by rfl) ?ya2 ?na2
      case ya2 => intro W; go_simp; try with_reducible rfl
      try simp only [Act.put, List.setIfInBounds_toArray, List.set_cons_zero, List.set_cons_succ]
      -- 3: call:45 -> 26
      refine stepE_only 3 rfl (by kernel_rfl) (by rfl) (fun K' hK => ?_)
      go_simp
      refine (rnum_any B v' r9 x9 7 wd RR.out (by decide)).mono ?_
      rintro en w3 ⟨rfl, v3, hr3, ho3, hsb3⟩
      rw [QX.out] at hr3 ⊢
      rw [XE.out]
      have R3' := Lib.hid hr3
      have SB3' := Lib.hid (HSB.out.trans hsb3)
      clear hsb3
      have K3 := Lib.hid ho3.keep
      have X3 := Lib.hid (XD.out.keep ho3.keep NB4.out)
      have XR3 := Lib.hid (XRD.out.keep ho3.keep NBR.out)
      have OW3 := Lib.hid (own_keep OWD.out ho3.keep (fun j hj e => by have h9 : j = B := e; have := (OWD.out.lt j hj).1; have := LT.out; omega))
      have ON3 := Lib.hid (OND.out.trans ho3)
      have SZ3 := Lib.hid ho3.size
      refine hK _ _ X3.out ?_
      clear hr3 ho3
      clear hK K'
      try simp only [Act.put, List.setIfInBounds_toArray, List.set_cons_zero, List.set_cons_succ]
      refine stepE_any 4 (some 27) (v := ?va4) (fun _ => X3.out) rfl (by rfl) (by kernel_rfl) (by kernel_rfl) (by kernel_rfl) (by decide) (fun _ _ _ h => h) (by rfl) ?ya4 ?na4
      case ya4 => intro W; go_simp; try with_reducible rfl
      try simp only [Act.put, List.setIfInBounds_toArray, List.set_cons_zero, List.set_cons_succ]
      -- 5: buildSlice -> 28
      refine stepE_only 5 rfl (by kernel_rfl) (by rfl) (fun K' hK => ?_)
      go_simp
      have hb5 := (Below.refl w3.heap.size w3).alloc (Nat.le_refl _) (.cells #[.int .i64 x] 3)
      have X5 := Lib.hid (X3.out.below hb5 X3.out.lt)
      have XR5 := Lib.hid (XR3.out.below hb5 XR3.out.lt)
      have OW5 := Lib.hid (own_keep OW3.out (Keep.ofBelow (bad := fun _ => False) hb5) (fun _ _ h => h))
      have ON5 := Lib.hid (ON3.out.thenBelow hb5)
      have R5 := Lib.hid (R3'.out.later hb5)
      have NL5 : Hid (IsNums .i64 (w3.alloc (.cells #[.int .i64 x] 3)) (.slice (some ⟨w3.heap.size, 0, none⟩) 1 1) [x]) := Lib.hid (IsNums.lit .i64 w3 [x] w3.heap.size 3 1 1 rfl rfl)
      obtain ⟨w5, hw5⟩ : ∃ y, w3.alloc (.cells #[.int .i64 x] 3) = y := ⟨_, rfl⟩
      obtain ⟨M5, hM5⟩ : ∃ y, w3.heap.size = y := ⟨_, rfl⟩
      have SZ5 : Hid (w3.heap.size ≤ w5.heap.size) := Lib.hid (by rw [← hw5]; exact hb5.size)
      rw [hw5] at X5 XR5 OW5 ON5 R5 NL5 ⊢
      rw [hM5] at NL5 ⊢
      refine hK _ _ X5.out ?_
      clear hb5 hw5 hM5
      clear hK K'
      try simp only [Act.put, List.setIfInBounds_toArray, List.set_cons_zero, List.set_cons_succ]
      -- 6: builtin:append -> 29
      refine stepE_only 6 rfl (by kernel_rfl) (by rfl) (fun K' hK => ?_)
      refine wp_appN (.tmp 24) (.tmp 28) 25 rfl M 3 .i64 8 Try.underlying25 infoB_int (by omega) (.slice pc k cc) k ((confM r0 x0 k).1.map (Value.int .i64)) OW5.out (.slice (some ⟨M5, 0, none⟩) 1 1) [x] NL5.out (by have := KM.out; show k + 1 ≤ _; omega) (by have := SZ3.out; have := SZ5.out; have := MW.out; omega) (by rfl) (by rfl) (fun v6 w6 hown6 hb6 => ?_)
      have OW6 : Hid (w6.ownsRow M 3 1 v6 (k + 1) ((confM r0 x0 (k + 1)).1.map (Value.int .i64))) := Lib.hid (by
        rw [CS.out, List.map_append]; exact hown6)
      have X6 := Lib.hid (X5.out.below hb6 LT.out.2.1)
      have XR6 := Lib.hid (XR5.out.below hb6 LT.out.2.2)
      have R6 := Lib.hid (readerLow R5.out hb6 LT.out.1)
      have ON6 := Lib.hid (ON5.out.thenNew (below_keepFrom hb6) (fun j hj => by have h9 : M ≤ j := hj; have := MW0.out; omega))
      have SZ6 := Lib.hid hb6.size
      obtain ⟨p6, c6, hv6⟩ := ownsRow_shape OW6.out
      subst hv6
      have g2 := X6.out.cell 2
      have f2 := X6.out.free 2
      have G2 := Lib.hid g2
      have F2 := Lib.hid f2
      refine hK _ _ X6.out ?_
      clear hown6 hb6
      clear hK K'
      try simp only [Act.put, List.setIfInBounds_toArray, List.set_cons_zero, List.set_cons_succ]
      refine stepE_any 7 (some 30) (v := ?va7) (fun _ => X6.out) rfl (by rfl) (by kernel_rfl) (by kernel_rfl) (by kernel_rfl) (by decide) (fun _ _ _ h => h) (by rfl) ?ya7 ?na7
      case ya7 => intro W; go_simp; try with_reducible rfl
      try simp only [Act.put, List.setIfInBounds_toArray, List.set_cons_zero, List.set_cons_succ]
      -- 8: store -> None
      refine stepE_end 8 rfl (by kernel_rfl) (by rfl) (by rfl) (fun K' hK => ?_)
      go_simp
      refine hK _ _ ?_
      clear hK K'
      refine wpAnyE_done (by kernel_rfl) ?_ _
      go_wp2
      go_roundw
      case rel =>
        have k8 : Keep (fun j => j = N4) w6 (w6.setCell ⟨N4, 2, none⟩ (.slice p6 (k + 1) c6)) := Keep.setCell (bad := fun j => j = N4) rfl _
        refine ⟨k + 1, .slice p6 (k + 1) c6, v3, by omega, by go_num, SB3'.out, ?_, X6.out.setCell 2 _, XR6.out.keep k8 (fun e => by have h9 : Nr = N4 := e; have := NRL.out; omega), own_keep OW6.out k8 (fun j hj e => by have h9 : j = N4 := e; have := (OW6.out.lt j hj).1; have := LT.out; omega), ON6.out.thenNew k8 (fun j e => by have h9 : j = N4 := e; have := NRL.out; have := HNR.out; omega), by have h1 := k8.size; have := MW.out; have := SZ3.out; have := SZ5.out; have := SZ6.out; omega⟩
        rw [CR.out]
        exact R6.out.kept (Only.ofKeep k8) (by have := NRL.out; have := HB.out; have := HNR.out; omega)
      case measure => simp [intOf]; omega
    · obtain rfl : k = m := by omega
      obtain ⟨pc, cc, hvc⟩ := ownsRow_shape how
      subst hvc
      obtain ⟨cf, hcf⟩ : ∃ c, (confM r0 x0 k).1 = c := ⟨_, rfl⟩
      obtain ⟨r9, hr9⟩ : ∃ r, (confM r0 x0 k).2.1 = r := ⟨_, rfl⟩
      obtain ⟨x9, hx9⟩ : ∃ r, (confM r0 x0 k).2.2 = r := ⟨_, rfl⟩
      have hcl := confM_len r0 x0 k
      have hrl := confM_rest r0 x0 k
      rw [hcf] at hcl how
      rw [hr9] at hrl
      rw [hr9, hx9] at hrd
      obtain ⟨q4, hq4⟩ : ∃ q, lumpR r9 x9 32767 = q := ⟨_, rfl⟩
      have hR4 : rR4 bs e = (cf, r9, x9) := by
        unfold rR4
        rw [Q3.out, MM.out, R0E.out, X0E.out]
        show confM r0 x0 k = _
        rw [← hcf, ← hr9, ← hx9]
      have hR5 : rR5 bs e = q4 := by unfold rR5; rw [hR4]; exact hq4
      have hRR : rbaseR bs e = ((n1, n2, cf, q4.1), q4.2) := by unfold rbaseR; rw [hR4, hR5, Q1.out, Q2.out, N1.out, N2.out]
      have HRR := Lib.hid hRR
      have RD := Lib.hid hrd
      have HX := Lib.hid hx
      have HXR := Lib.hid hxr
      have HOW := Lib.hid how
      have HON := Lib.hid hon
      have HMW := Lib.hid hmw
      have HCL := Lib.hid hcl
      have HQ4 := Lib.hid hq4
      have H9 : Hid (r9.length ≤ 100000) := Lib.hid (by have := HR0.out; omega)
      have HSB2 := Lib.hid hsb
      clear hsb hcf hr9 hx9 hcl hrl hrd hx hxr how hon hmw hq4 hR4 hR5 hRR
      go_wp2_with fail
      refine (rrlump_any B v' r9 x9 32767 wr RD.out (by decide) (by decide) H9.out).mono ?_
      rintro en w8 ⟨p8, c8, rfl, hnl, v8, hr8, ho8, hsb8, hsu8⟩
      have HSU := Lib.hid (fun (l c' : Nat) => HSB2.out.trans (SameB.slice (l' := l) (c' := c') hsu8))
      clear hsu8
      rw [HQ4.out] at hr8 hnl ⊢
      obtain ⟨d, hd⟩ : ∃ d, q4.1 = d := ⟨_, rfl⟩
      have HDD := Lib.hid hd
      rw [hd] at hnl ⊢
      obtain ⟨dn, hdn⟩ : ∃ n, d.length = n := ⟨_, rfl⟩
      have HDN := Lib.hid hdn
      rw [hdn] at hnl ⊢
      have hx8 := HX.out.keep ho8.keep NB4.out
      have g3 := hx8.cell 3
      have f3 := hx8.free 3
      have hk9 : Keep (fun j => j = N4) w8 (w8.setCell ⟨N4, 3, none⟩ (.slice p8 dn c8)) := Keep.setCell (bad := fun j => j = N4) rfl _
      have hx9 := hx8.setCell 3 (.slice p8 dn c8)
      have hxr9 := (HXR.out.keep ho8.keep NBR.out).keep hk9 NR4.out
      have hoc9 := own_keep (own_keep HOW.out ho8.keep (fun j hj e => by have h9 : j = B := e; have := (HOW.out.lt j hj).1; have := LT.out; omega)) hk9 (fun j hj e => by have h9 : j = N4 := e; have := (HOW.out.lt j hj).1; have := LT.out; omega)
      have hod9 := numsLt_keep hnl hk9 (fun q hq e => by have h9 : q = N4 := e; have := BN4.out; omega) (Nat.le_of_lt hr8.lt)
      have hr9 := hr8.kept (Only.ofKeep hk9) BN4.out
      have hon9 := (HON.out.trans ho8).thenNew hk9 (fun j e => by have h9 : j = N4 := e; have := HN4.out; omega)
      have SB8 := Lib.hid (HSB2.out.trans hsb8)
      obtain ⟨EE, hE⟩ : ∃ E, q4.2.2 = E := ⟨_, rfl⟩
      have gE : w8.cell? ⟨B, 1, none⟩ = some (.int .i64 EE) := by rw [← hE]; exact hr8.2.1
      have gE' : (w8.setCell ⟨N4, 3, none⟩ (.slice p8 dn c8)).cell? ⟨B, 1, none⟩ = some (.int .i64 EE) := by rw [← hE]; exact hr9.2.1
      have X9 : Hid (Blk (w8.setCell ⟨N4, 3, none⟩ (.slice p8 dn c8)) N4 27 [.int .i64 n1, .int .i64 n2, .slice pc k cc, .slice p8 dn c8]) := Lib.hid hx9
      have XR9 := Lib.hid hxr9
      have OC9 := Lib.hid hoc9
      have OD9 := Lib.hid hod9
      have RD9 := Lib.hid hr9
      have ON9 := Lib.hid hon9
      have HE := Lib.hid hE
      have hok : rbaseROk bs e = (decide (EE = 0) && baseOk n1 n2 cf d) := by unfold rbaseROk; rw [HRR.out]; simp only; rw [HDD.out, hE]
      have hrest : (rbaseR bs e).2.1 = q4.2.1 := by rw [HRR.out]
      have herr : (rbaseR bs e).2.2 = EE := by rw [HRR.out]; exact hE
      have HREST := Lib.hid hrest
      have HERR := Lib.hid herr
      clear hd hdn hnl hr8 ho8 hsb8 hx8 hx9 hxr9 hoc9 hod9 hr9 hon9 hk9 hE hrest herr
      by_cases hE0 : EE = 0
      · subst hE0
        rw [show (decide ((0 : Int) = 0) && baseOk n1 n2 cf d) = baseOk n1 n2 cf d from by rw [decide_eq_true rfl]; rfl] at hok
        have y0 := X9.out.cell 0
        have y1 := X9.out.cell 1
        have y2 := X9.out.cell 2
        have y3 := X9.out.cell 3
        have NC9 : Hid (IsNums .i64 (w8.setCell ⟨N4, 3, none⟩ (.slice p8 dn c8)) (.slice pc k cc) cf) := Lib.hid (IsNums.ofOwn OC9.out)
        have ND9 : Hid (IsNums .u8 (w8.setCell ⟨N4, 3, none⟩ (.slice p8 dn c8)) (.slice p8 dn c8) d) := Lib.hid (OD9.out.nums (Nat.le_of_lt RD9.out.lt))
        have HC9 : Hid (cf.length ≤ 900) := Lib.hid (by have := HCL.out; omega)
        cases hq : baseOk n1 n2 cf d with
        | true =>
          have HOK := Lib.hid (hok.trans hq)
          have HQ := Lib.hid hq
          clear hok hq
          go_wp2_with fail
          refine (rbaseRight_any n1 n2 _ _ cf d _ NC9.out ND9.out HC9.out).mono ?_
          rintro en wA ⟨rfl, hbA⟩
          rw [HQ.out]
          have XQ := Lib.hid (XR9.out.below hbA XR9.out.lt)
          have RQ := Lib.hid (RD9.out.later hbA)
          have OQ := Lib.hid (ON9.out.thenBelow hbA)
          have CQ := Lib.hid (own_keep OC9.out (Keep.ofBelow (bad := fun _ => False) hbA) (fun _ _ h => h))
          have DQ := Lib.hid (numsLt_keep OD9.out (Keep.ofBelow (bad := fun _ => False) hbA) (fun _ _ h => h) (Nat.le_of_lt RD9.out.lt))
          have z0 := (X9.out.below hbA X9.out.lt).cell 0
          have z1 := (X9.out.below hbA X9.out.lt).cell 1
          have z2 := (X9.out.below hbA X9.out.lt).cell 2
          have z3 := (X9.out.below hbA X9.out.lt).cell 3
          clear hbA y0 y1 y2 y3 gE gE' g3 f3
          go_wp2_with ((with_reducible refine wpList_storeB XQ.out (.tmp 2) (.tmp 45) 0 [.int .i64 n1, .int .i64 n2, .slice pc k cc, .slice p8 dn c8] ?_ ?_ ?_ ?_ ?_ ?_); exact rfl; exact rfl; (show 0 + 4 ≤ 4; omega); exact infoBa; exact base_ones _ _ _ _ _ _ _ _; intro wB hbB hkB; have HBB : Hid (Blk wB Nr 27 [.int .i64 n1, .int .i64 n2, .slice pc k cc, .slice p8 dn c8]) := Lib.hid hbB; have HKB := Lib.hid hkB; clear hbB hkB)
          have e0 := HBB.out.cell 0
          have e1 := HBB.out.cell 1
          have e2 := HBB.out.cell 2
          have e3 := HBB.out.cell 3
          try simp only [Exit.inBlock, Exit.then]
          refine bodyPost_ret (v := .tuple #[.agg #[.int .i64 n1, .int .i64 n2, .slice pc k cc, .slice p8 dn c8], .bool true]) (by simp [results, Try.results27, go_sem, e0, e1, e2, e3]; try rfl) rfl ?_
          have hrB := RQ.out.kept (Only.ofKeep HKB.out) (by have := HB.out; have := HNR.out; omega)
          have hoB := OQ.out.thenNew HKB.out (fun i h => by have h9 : i = Nr := h; have := HNR.out; omega)
          have hV : rbaseRV bs e = (n1, n2, cf, d) := by unfold rbaseRV; rw [HOK.out, if_pos rfl, HRR.out, HDD.out]
          refine ⟨.slice pc k cc, .slice p8 dn c8, by rw [hV, HOK.out]; rfl, ?_, ?_, ⟨v8, by rw [HREST.out, HERR.out, ← HE.out]; exact hrB, SB8.out⟩, hoB, HSU.out dn c8⟩
          · rw [hV]
            show wB.ownsRow w.heap.size 3 1 (.slice pc k cc) cf.length _
            rw [HCL.out]
            exact ownsRow_base (own_keep CQ.out HKB.out (fun j hj e => by have h9 : j = Nr := e; have := (CQ.out.lt j hj).1; have := LT.out; omega)) MW0.out
          · rw [hV]
            exact numsLt_keep DQ.out HKB.out (fun q hq e => by have h9 : q = Nr := e; have := HB.out; have := HNR.out; omega) (Nat.le_of_lt RQ.out.lt)
        | false =>
          have HOK := Lib.hid (hok.trans hq)
          have HQ := Lib.hid hq
          clear hok hq
          go_wp2_with fail
          refine (rbaseRight_any n1 n2 _ _ cf d _ NC9.out ND9.out HC9.out).mono ?_
          rintro en wA ⟨rfl, hbA⟩
          rw [HQ.out]
          have XQ := Lib.hid (XR9.out.below hbA XR9.out.lt)
          have RQ := Lib.hid (RD9.out.later hbA)
          have OQ := Lib.hid (ON9.out.thenBelow hbA)
          have CQ := Lib.hid (own_keep OC9.out (Keep.ofBelow (bad := fun _ => False) hbA) (fun _ _ h => h))
          have DQ := Lib.hid (numsLt_keep OD9.out (Keep.ofBelow (bad := fun _ => False) hbA) (fun _ _ h => h) (Nat.le_of_lt RD9.out.lt))
          have z0 := (X9.out.below hbA X9.out.lt).cell 0
          have z1 := (X9.out.below hbA X9.out.lt).cell 1
          have z2 := (X9.out.below hbA X9.out.lt).cell 2
          have z3 := (X9.out.below hbA X9.out.lt).cell 3
          clear hbA y0 y1 y2 y3 gE gE' g3 f3
          go_wp2_with ((with_reducible refine wpList_storeB XQ.out (.tmp 2) (.tmp 44) 0 [.int .i64 0, .int .i64 0, .slice none 0 0, .slice none 0 0] ?_ ?_ ?_ ?_ ?_ ?_); exact rfl; exact rfl; (show 0 + 4 ≤ 4; omega); exact infoBa; exact base_ones _ _ _ _ _ _ _ _; intro wB hbB hkB; have HBB : Hid (Blk wB Nr 27 [.int .i64 0, .int .i64 0, .slice none 0 0, .slice none 0 0]) := Lib.hid hbB; have HKB := Lib.hid hkB; clear hbB hkB)
          have e0 := HBB.out.cell 0
          have e1 := HBB.out.cell 1
          have e2 := HBB.out.cell 2
          have e3 := HBB.out.cell 3
          try simp only [Exit.inBlock, Exit.then]
          refine bodyPost_ret (v := .tuple #[.agg #[.int .i64 0, .int .i64 0, .slice none 0 0, .slice none 0 0], .bool false]) (by simp [results, Try.results27, go_sem, e0, e1, e2, e3]; try rfl) rfl ?_
          have hrB := RQ.out.kept (Only.ofKeep HKB.out) (by have := HB.out; have := HNR.out; omega)
          have hoB := OQ.out.thenNew HKB.out (fun i h => by have h9 : i = Nr := h; have := HNR.out; omega)
          have hV : rbaseRV bs e = (0, 0, [], []) := by unfold rbaseRV; rw [HOK.out]; rfl
          refine ⟨.slice none 0 0, .slice none 0 0, by rw [hV, HOK.out]; rfl, by rw [hV]; exact World.ownsRow_nil _ _ _ _, by rw [hV]; exact ⟨none, 0, rfl, Nat.le_refl _, by omega, .inl rfl⟩, ⟨v8, by rw [HREST.out, HERR.out, ← HE.out]; exact hrB, SB8.out⟩, hoB, SameB.nil _⟩
      · have HOK : Hid (rbaseROk bs e = false) := Lib.hid (by rw [hok, decide_eq_false hE0]; rfl)
        clear hok
        have XQ := XR9
        have RQ := RD9
        have OQ := ON9
        go_wp2_with ((with_reducible refine wpList_storeB XQ.out (.tmp 2) (.tmp 44) 0 [.int .i64 0, .int .i64 0, .slice none 0 0, .slice none 0 0] ?_ ?_ ?_ ?_ ?_ ?_); exact rfl; exact rfl; (show 0 + 4 ≤ 4; omega); exact infoBa; exact base_ones _ _ _ _ _ _ _ _; intro wB hbB hkB; have HBB : Hid (Blk wB Nr 27 [.int .i64 0, .int .i64 0, .slice none 0 0, .slice none 0 0]) := Lib.hid hbB; have HKB := Lib.hid hkB; clear hbB hkB)
        have e0 := HBB.out.cell 0
        have e1 := HBB.out.cell 1
        have e2 := HBB.out.cell 2
        have e3 := HBB.out.cell 3
        try simp only [Exit.inBlock, Exit.then]
        refine bodyPost_ret (v := .tuple #[.agg #[.int .i64 0, .int .i64 0, .slice none 0 0, .slice none 0 0], .bool false]) (by simp [results, Try.results27, go_sem, e0, e1, e2, e3]; try rfl) rfl ?_
        have hrB := RQ.out.kept (Only.ofKeep HKB.out) (by have := HB.out; have := HNR.out; omega)
        have hoB := OQ.out.thenNew HKB.out (fun i h => by have h9 : i = Nr := h; have := HNR.out; omega)
        have hV : rbaseRV bs e = (0, 0, [], []) := by unfold rbaseRV; rw [HOK.out]; rfl
        refine ⟨.slice none 0 0, .slice none 0 0, by rw [hV, HOK.out]; rfl, by rw [hV]; exact World.ownsRow_nil _ _ _ _, by rw [hV]; exact ⟨none, 0, rfl, Nat.le_refl _, by omega, .inl rfl⟩, ⟨v8, by rw [HREST.out, HERR.out, ← HE.out]; exact hrB, SB8.out⟩, hoB, SameB.nil _⟩
end Go.Proofs.Ytkfcpnmdmoeioaa.K
