/- entry.Read. -/
import Derived.Test.YtkfcpnmdmoeioaaEntry2
import Derived.Test.YtkfcpnmdmoeioaaGen2
namespace Go.Proofs.Ytkfcpnmdmoeioaa.K
open Go.ChangeShapes Go.WideShapes Go.ChangeAt Go.RowKit
set_option linter.unusedVariables false


/-- What Read reads: the fields, what is left, the error. -/
def entR (bs : List Int) (e : Int) : (Int × Int × Int × List Int) × List Int × Int :=
  (((numR bs e 1099511627776).1, (numR (numR bs e 1099511627776).2.1 (numR bs e 1099511627776).2.2 1099511627776).1,
    (numR (numR (numR bs e 1099511627776).2.1 (numR bs e 1099511627776).2.2 1099511627776).2.1 (numR (numR bs e 1099511627776).2.1 (numR bs e 1099511627776).2.2 1099511627776).2.2 2).1,
    (lumpR (numR (numR (numR bs e 1099511627776).2.1 (numR bs e 1099511627776).2.2 1099511627776).2.1 (numR (numR bs e 1099511627776).2.1 (numR bs e 1099511627776).2.2 1099511627776).2.2 2).2.1 (numR (numR (numR bs e 1099511627776).2.1 (numR bs e 1099511627776).2.2 1099511627776).2.1 (numR (numR bs e 1099511627776).2.1 (numR bs e 1099511627776).2.2 1099511627776).2.2 2).2.2 32767).1),
    (lumpR (numR (numR (numR bs e 1099511627776).2.1 (numR bs e 1099511627776).2.2 1099511627776).2.1 (numR (numR bs e 1099511627776).2.1 (numR bs e 1099511627776).2.2 1099511627776).2.2 2).2.1 (numR (numR (numR bs e 1099511627776).2.1 (numR bs e 1099511627776).2.2 1099511627776).2.1 (numR (numR bs e 1099511627776).2.1 (numR bs e 1099511627776).2.2 1099511627776).2.2 2).2.2 32767).2)
def entROk (bs : List Int) (e : Int) : Bool := decide ((entR bs e).2.2 = 0) && entOk (entR bs e).1.1 (entR bs e).1.2.1 (entR bs e).1.2.2.1 (entR bs e).1.2.2.2
def entRV (bs : List Int) (e : Int) : Int × Int × Int × List Int := if entROk bs e then (entR bs e).1 else (0, 0, 0, [])
def EntReadPost (w : World) (B : Nat) (bs : List Int) (e : Int) (en : Ending) (w' : World) : Prop :=
  ∃ u, en = .returned (.tuple #[entV (entRV bs e).1 (entRV bs e).2.1 (entRV bs e).2.2.1 u, .bool (entROk bs e)]) ∧ w'.ownsRow w.heap.size 5 1 u (entRV bs e).2.2.2.length ((entRV bs e).2.2.2.map (Value.int .u8)) ∧ (∃ v', IsReader w' B v' (entR bs e).2.1 (entR bs e).2.2) ∧ Only B w w'
theorem infoEn : (Try.prog.info? 24).map (·.size) = some 4 := by kernel_rfl

theorem ent_ones (i t k : Int) (p : Option Addr) (n c : Nat) : ∀ v ∈ ([.int .i64 i, .int .i64 t, .int .i64 k, .slice p n c] : List Value), v.oneCell' = true :=
  List.forall_mem_cons.2 ⟨rfl, List.forall_mem_cons.2 ⟨rfl, List.forall_mem_cons.2 ⟨rfl, List.forall_mem_cons.2 ⟨rfl, fun _ h => by cases h⟩⟩⟩⟩
theorem Only.thenNew {B : Nat} {bad : Nat → Prop} {a b c : World} (h : Only B a b) (k : Keep bad b c) (hb : ∀ i, bad i → a.heap.size ≤ i) : Only B a c :=
  ⟨k.1.trans h.os, k.2.1.trans h.tape, k.2.2.1.trans h.output, Nat.le_trans h.size k.size, fun i hi hn => (k.2.2.2.2 i (Nat.lt_of_lt_of_le hi h.size) (fun e => by have := hb i e; omega)).trans (h.block i hi hn)⟩

set_option maxRecDepth 100000 in
set_option maxHeartbeats 4000000 in
theorem entRead_any (B : Nat) (v : Value) (bs : List Int) (e : Int) (w : World) (h : IsReader w B v bs e) (hl : bs.length ≤ 100000) :
    Calls Try.prog 16 #[.pointer (some ⟨B, 0, none⟩)] w (EntReadPost w B bs e) := by
  have hB := h.lt
  obtain ⟨q1, hq1⟩ : ∃ q, numR bs e 1099511627776 = q := ⟨_, rfl⟩
  obtain ⟨q2, hq2⟩ : ∃ q, numR q1.2.1 q1.2.2 1099511627776 = q := ⟨_, rfl⟩
  obtain ⟨q3, hq3⟩ : ∃ q, numR q2.2.1 q2.2.2 2 = q := ⟨_, rfl⟩
  obtain ⟨q4, hq4⟩ : ∃ q, lumpR q3.2.1 q3.2.2 32767 = q := ⟨_, rfl⟩
  have hR : entR bs e = ((q1.1, q2.1, q3.1, q4.1), q4.2) := by unfold entR; rw [hq1, hq2, hq3, hq4]
  have b1 := numR_le bs e 1099511627776 (by decide)
  have b2 := numR_le q1.2.1 q1.2.2 1099511627776 (by decide)
  have b3 := numR_le q2.2.1 q2.2.2 2 (by decide)
  have l1 := numR_len bs e 1099511627776
  have l2 := numR_len q1.2.1 q1.2.2 1099511627776
  have l3 := numR_len q2.2.1 q2.2.2 2
  rw [hq1] at b1 l1
  rw [hq2] at b2 l2
  rw [hq3] at b3 l3
  have H3 : Hid (q3.2.1.length ≤ 100000) := Lib.hid (by omega)
  have HR := Lib.hid hR
  have Q1 := Lib.hid hq1
  have Q2 := Lib.hid hq2
  have Q3 := Lib.hid hq3
  have Q4 := Lib.hid hq4
  obtain ⟨n1, hn1⟩ : ∃ n, q1.1 = n := ⟨_, rfl⟩
  obtain ⟨n2, hn2⟩ : ∃ n, q2.1 = n := ⟨_, rfl⟩
  obtain ⟨n3, hn3⟩ : ∃ n, q3.1 = n := ⟨_, rfl⟩
  rw [hn1] at b1
  rw [hn2] at b2
  rw [hn3] at b3
  have hw1 : IntKind.i64.wrap n1 = n1 := IntWalk.i64_in _ (by omega)
  have hw2 : IntKind.i64.wrap n2 = n2 := IntWalk.i64_in _ (by omega)
  have hw3 : IntKind.i64.wrap n3 = n3 := IntWalk.i64_in _ (by omega)
  have N1 := Lib.hid hn1
  have N2 := Lib.hid hn2
  have N3 := Lib.hid hn3
  have hb0 := (Below.refl w.heap.size w).alloc (Nat.le_refl _) (.cells #[.int .i64 0, .int .i64 0, .int .i64 0, .slice none 0 0] 24)
  have hx0 := Blk.alloc w 24 #[.int .i64 0, .int .i64 0, .int .i64 0, .slice none 0 0]
  have R0 := Lib.hid (h.later hb0)
  have B0 := Lib.hid hb0
  have X0 := Lib.hid hx0
  have HB := Lib.hid hB
  clear h hq1 hq2 hq3 hq4 hR b1 b2 b3 l1 l2 l3 hn1 hn2 hn3 hb0 hx0 hl
  go_enter Try.func16, Try.ntmps16
  go_wp2_with fail
  obtain ⟨w0, hw0⟩ : ∃ x, w.alloc (.cells #[.int .i64 0, .int .i64 0, .int .i64 0, .slice none 0 0] 24) = x := ⟨_, rfl⟩
  rw [hw0] at R0 B0 X0 ⊢
  obtain ⟨Nr, hNr⟩ : ∃ x, w.heap.size = x := ⟨_, rfl⟩
  have HNR := Lib.hid hNr
  rw [hNr] at X0 ⊢
  clear hw0 hNr
  refine (num_any B v bs e 1099511627776 w0 R0.out (by decide)).mono ?_
  rintro en w1 ⟨rfl, v1, hr1, ho1⟩
  rw [Q1.out] at hr1 ⊢
  rw [N1.out]
  have R1 := Lib.hid hr1
  have O1 := Lib.hid ho1
  clear hr1 ho1
  go_wp2_with fail
  refine (num_any B v1 _ _ 1099511627776 w1 R1.out (by decide)).mono ?_
  rintro en w2 ⟨rfl, v2, hr2, ho2⟩
  rw [Q2.out] at hr2 ⊢
  rw [N2.out]
  have R2 := Lib.hid hr2
  have O2 := Lib.hid (O1.out.trans ho2)
  clear hr2 ho2
  go_wp2_with fail
  refine (num_any B v2 _ _ 2 w2 R2.out (by decide)).mono ?_
  rintro en w3 ⟨rfl, v3, hr3, ho3⟩
  rw [Q3.out] at hr3 ⊢
  rw [N3.out]
  have R3 := Lib.hid hr3
  have O3 := Lib.hid (O2.out.trans ho3)
  clear hr3 ho3
  go_wp2_with fail
  refine (rlump_any B v3 _ _ 32767 w3 R3.out (by decide) (by decide) H3.out).mono ?_
  rintro en w4 ⟨u4, rfl, how4, v4, hr4, ho4⟩
  rw [Q4.out] at hr4 how4
  have R4 := Lib.hid hr4
  have O4 := Lib.hid (O3.out.trans ho4)
  have U4 := Lib.hid how4
  have Z3 := Lib.hid O3.out.size
  clear hr4 ho4 how4
  obtain ⟨d, hd⟩ : ∃ d, q4.1 = d := ⟨_, rfl⟩
  have HDD := Lib.hid hd
  rw [hd] at U4
  obtain ⟨dn, hdn⟩ : ∃ n, d.length = n := ⟨_, rfl⟩
  have HDN := Lib.hid hdn
  rw [hdn] at U4
  obtain ⟨p4, c4, hu4⟩ := ownsRow_shape U4.out
  subst hu4
  clear hd hdn
  go_wp2_with fail
  have hx5 := Blk.alloc w4 24 #[.int .i64 n1, .int .i64 n2, .int .i64 n3, .slice p4 dn c4]
  have hb5 := (Below.refl w4.heap.size w4).alloc (Nat.le_refl _) (.cells #[.int .i64 n1, .int .i64 n2, .int .i64 n3, .slice p4 dn c4] 24)
  have hu5 := own_keep U4.out (Keep.ofBelow (bad := fun _ => False) hb5) (fun _ _ h => h)
  have hr5 := R4.out.later hb5
  have hx05 : Blk w4 Nr 24 [.int .i64 0, .int .i64 0, .int .i64 0, .slice none 0 0] := X0.out.keep O4.out.keep (fun e => by have h9 : Nr = B := e; have := HB.out; have := HNR.out; omega)
  have hx06 := hx05.below hb5 hx05.lt
  have ho5 : Only B w w4 := (Only.ofBelow B0.out).trans O4.out
  have ho6 := ho5.thenBelow hb5
  have hz5 : Nr < w3.heap.size := Nat.lt_of_lt_of_le X0.out.lt Z3.out
  obtain ⟨w5, hw5⟩ : ∃ x, w4.alloc (.cells #[.int .i64 n1, .int .i64 n2, .int .i64 n3, .slice p4 dn c4] 24) = x := ⟨_, rfl⟩
  obtain ⟨N5, hN5⟩ : ∃ x, w4.heap.size = x := ⟨_, rfl⟩
  rw [hw5] at hx5 hu5 hr5 hx06 ho6 ⊢
  rw [hN5] at hx5 ⊢
  have X5 := Lib.hid hx5
  have U5 := Lib.hid hu5
  have R5 := Lib.hid hr5
  have X6 := Lib.hid hx06
  have O6 := Lib.hid ho6
  have Z5 := Lib.hid hz5
  clear hx5 hb5 hu5 hr5 hx05 hx06 ho5 ho6 hz5 hw5 hN5 R4 O4 U4 X0 B0 Z3 R0 O1 O2 O3 R1 R2 R3
  refine (err_any B v4 _ _ w5 R5.out).mono ?_
  rintro en w' ⟨rfl, rfl⟩
  obtain ⟨E, hE⟩ : ∃ E, q4.2.2 = E := ⟨_, rfl⟩
  rw [hE]
  have HE := Lib.hid hE
  have hok : entROk bs e = (decide (E = 0) && entOk n1 n2 n3 d) := by unfold entROk; rw [HR.out]; simp only; rw [N1.out, N2.out, N3.out, HDD.out, hE]
  have hrest : (entR bs e).2.1 = q4.2.1 := by rw [HR.out]
  have herr : (entR bs e).2.2 = E := by rw [HR.out]; exact hE
  have HREST := Lib.hid hrest
  have HERR := Lib.hid herr
  clear hE hrest herr
  by_cases hE0 : E = 0
  · subst hE0
    rw [show (decide ((0 : Int) = 0) && entOk n1 n2 n3 d) = entOk n1 n2 n3 d from by rw [decide_eq_true rfl]; rfl] at hok
    have x50 := X5.out.cell 0
    have x51 := X5.out.cell 1
    have x52 := X5.out.cell 2
    have x53 := X5.out.cell 3
    have nd5 : IsNums .u8 w5 (.slice p4 dn c4) d := IsNums.ofOwn (by exact U5.out)
    have ND5 := Lib.hid nd5
    clear nd5
    cases hq : entOk n1 n2 n3 d with
    | true =>
      have HOK := Lib.hid (hok.trans hq)
      have HQ := Lib.hid hq
      clear hok hq
      go_wp2_with fail
      refine (entRight_any n1 n2 n3 _ d w5 ND5.out).mono ?_
      rintro en w6 ⟨rfl, hb6⟩
      rw [HQ.out]
      have X7 := Lib.hid (X6.out.below hb6 X6.out.lt)
      have R7 := Lib.hid (R5.out.later hb6)
      have O7 := Lib.hid (O6.out.thenBelow hb6)
      have U7 := Lib.hid (own_keep U5.out (Keep.ofBelow (bad := fun _ => False) hb6) (fun _ _ h => h))
      have x70 := (X5.out.below hb6 X5.out.lt).cell 0
      have x71 := (X5.out.below hb6 X5.out.lt).cell 1
      have x72 := (X5.out.below hb6 X5.out.lt).cell 2
      have x73 := (X5.out.below hb6 X5.out.lt).cell 3
      clear hb6 x50 x51 x52 x53
      go_wp2_with ((with_reducible refine wpList_storeB X7.out (.tmp 2) (.tmp 29) 0 [.int .i64 n1, .int .i64 n2, .int .i64 n3, .slice p4 dn c4] ?_ ?_ ?_ ?_ ?_ ?_); exact rfl; exact rfl; (show 0 + 4 ≤ 4; omega); exact infoEn; exact ent_ones _ _ _ _ _ _; intro w8 hb8 hk8; have HB8 : Hid (Blk w8 Nr 24 [.int .i64 n1, .int .i64 n2, .int .i64 n3, .slice p4 dn c4]) := Lib.hid hb8; have HK8 := Lib.hid hk8; clear hb8 hk8)
      have e0 := HB8.out.cell 0
      have e1 := HB8.out.cell 1
      have e2 := HB8.out.cell 2
      have e3 := HB8.out.cell 3
      try simp only [Exit.inBlock, Exit.then]
      refine bodyPost_ret (v := .tuple #[.agg #[.int .i64 n1, .int .i64 n2, .int .i64 n3, .slice p4 dn c4], .bool true]) (by simp [results, Try.results16, go_sem, e0, e1, e2, e3]; try rfl) rfl ?_
      have hr9 := R7.out.kept (Only.ofKeep HK8.out) (by have := HB.out; have := HNR.out; omega)
      have ho9 := O7.out.thenNew HK8.out (fun i h => by have h9 : i = Nr := h; have := HNR.out; omega)
      have hV : entRV bs e = (n1, n2, n3, d) := by unfold entRV; rw [HOK.out, if_pos rfl, HR.out, N1.out, N2.out, N3.out, HDD.out]
      refine ⟨.slice p4 dn c4, by rw [hV, HOK.out]; rfl, ?_, ⟨v4, by rw [HREST.out, HERR.out, ← HE.out]; exact hr9⟩, ho9⟩
      rw [hV]
      show w8.ownsRow w.heap.size 5 1 (.slice p4 dn c4) d.length _
      rw [HDN.out]
      exact ownsRow_base (own_keep U7.out HK8.out (fun k hk e => by have h9 : k = Nr := e; have := (U7.out.lt k hk).1; have := Z5.out; omega)) (by have := Z5.out; have := HNR.out; omega)
    | false =>
      have HOK := Lib.hid (hok.trans hq)
      have HQ := Lib.hid hq
      clear hok hq
      go_wp2_with fail
      refine (entRight_any n1 n2 n3 _ d w5 ND5.out).mono ?_
      rintro en w6 ⟨rfl, hb6⟩
      rw [HQ.out]
      have X7 := Lib.hid (X6.out.below hb6 X6.out.lt)
      have R7 := Lib.hid (R5.out.later hb6)
      have O7 := Lib.hid (O6.out.thenBelow hb6)
      have U7 := Lib.hid (own_keep U5.out (Keep.ofBelow (bad := fun _ => False) hb6) (fun _ _ h => h))
      have x70 := (X5.out.below hb6 X5.out.lt).cell 0
      have x71 := (X5.out.below hb6 X5.out.lt).cell 1
      have x72 := (X5.out.below hb6 X5.out.lt).cell 2
      have x73 := (X5.out.below hb6 X5.out.lt).cell 3
      clear hb6 x50 x51 x52 x53
      go_wp2_with ((with_reducible refine wpList_storeB X7.out (.tmp 2) (.tmp 28) 0 [.int .i64 0, .int .i64 0, .int .i64 0, .slice none 0 0] ?_ ?_ ?_ ?_ ?_ ?_); exact rfl; exact rfl; (show 0 + 4 ≤ 4; omega); exact infoEn; exact ent_ones _ _ _ _ _ _; intro w8 hb8 hk8; have HB8 : Hid (Blk w8 Nr 24 [.int .i64 0, .int .i64 0, .int .i64 0, .slice none 0 0]) := Lib.hid hb8; have HK8 := Lib.hid hk8; clear hb8 hk8)
      have e0 := HB8.out.cell 0
      have e1 := HB8.out.cell 1
      have e2 := HB8.out.cell 2
      have e3 := HB8.out.cell 3
      try simp only [Exit.inBlock, Exit.then]
      refine bodyPost_ret (v := .tuple #[.agg #[.int .i64 0, .int .i64 0, .int .i64 0, .slice none 0 0], .bool false]) (by simp [results, Try.results16, go_sem, e0, e1, e2, e3]; try rfl) rfl ?_
      have hr9 := R7.out.kept (Only.ofKeep HK8.out) (by have := HB.out; have := HNR.out; omega)
      have ho9 := O7.out.thenNew HK8.out (fun i h => by have h9 : i = Nr := h; have := HNR.out; omega)
      have hV : entRV bs e = (0, 0, 0, []) := by unfold entRV; rw [HOK.out]; rfl
      refine ⟨.slice none 0 0, by rw [hV, HOK.out]; rfl, by rw [hV]; exact World.ownsRow_nil _ _ _ _, ⟨v4, by rw [HREST.out, HERR.out, ← HE.out]; exact hr9⟩, ho9⟩
  · have HOK : Hid (entROk bs e = false) := Lib.hid (by rw [hok, decide_eq_false hE0]; rfl)
    clear hok
    have X7 := X6
    have R7 := R5
    have O7 := O6
    go_wp2_with ((with_reducible refine wpList_storeB X7.out (.tmp 2) (.tmp 28) 0 [.int .i64 0, .int .i64 0, .int .i64 0, .slice none 0 0] ?_ ?_ ?_ ?_ ?_ ?_); exact rfl; exact rfl; (show 0 + 4 ≤ 4; omega); exact infoEn; exact ent_ones _ _ _ _ _ _; intro w8 hb8 hk8; have HB8 : Hid (Blk w8 Nr 24 [.int .i64 0, .int .i64 0, .int .i64 0, .slice none 0 0]) := Lib.hid hb8; have HK8 := Lib.hid hk8; clear hb8 hk8)
    have e0 := HB8.out.cell 0
    have e1 := HB8.out.cell 1
    have e2 := HB8.out.cell 2
    have e3 := HB8.out.cell 3
    try simp only [Exit.inBlock, Exit.then]
    refine bodyPost_ret (v := .tuple #[.agg #[.int .i64 0, .int .i64 0, .int .i64 0, .slice none 0 0], .bool false]) (by simp [results, Try.results16, go_sem, e0, e1, e2, e3]; try rfl) rfl ?_
    have hr9 := R7.out.kept (Only.ofKeep HK8.out) (by have := HB.out; have := HNR.out; omega)
    have ho9 := O7.out.thenNew HK8.out (fun i h => by have h9 : i = Nr := h; have := HNR.out; omega)
    have hV : entRV bs e = (0, 0, 0, []) := by unfold entRV; rw [HOK.out]; rfl
    refine ⟨.slice none 0 0, by rw [hV, HOK.out]; rfl, by rw [hV]; exact World.ownsRow_nil _ _ _ _, ⟨v4, by rw [HREST.out, HERR.out, ← HE.out]; exact hr9⟩, ho9⟩
end Go.Proofs.Ytkfcpnmdmoeioaa.K
