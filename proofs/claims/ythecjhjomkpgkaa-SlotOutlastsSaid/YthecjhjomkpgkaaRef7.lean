/- mementoref3.Choose. -/
import Derived.Test.YthecjhjomkpgkaaRef6
import Derived.Test.YthecjhjomkpgkaaSlotA
import Derived.Test.YthecjhjomkpgkaaSlot5
namespace Go.Proofs.Ythecjhjomkpgkaa.K
open Go.ChangeShapes Go.WideShapes Go.ChangeAt Go.RowKit
set_option linter.unusedVariables false

theorem cur_sec {F : Nat → Prop} {w : World} {B : Nat} {secs : List (List Int)} {wl : List (Int × List Int)} {l : Int} (h : RDisk F w B secs wl l) (i : Nat) (hi : i < secs.length) : Sec (curOf wl i (secs.getD i []) wl.length) := by
  have main : ∀ k, k ≤ wl.length → Sec (curOf wl i (secs.getD i []) k) := by
    intro k
    induction k with
    | zero => exact fun _ => h.secs_ok _ (by rw [List.getD_eq_getElem?_getD, List.getElem?_eq_getElem hi]; exact List.getElem_mem hi)
    | succ k ih =>
      intro hk
      unfold curOf
      split
      · exact (h.wl_ok _ (by rw [List.getD_eq_getElem?_getD, List.getElem?_eq_getElem (show k < wl.length by omega)]; exact List.getElem_mem _)).2
      · exact ih (by omega)
  exact main _ (Nat.le_refl _)
theorem RDisk.alloc {F : Nat → Prop} {w : World} {B : Nat} {secs : List (List Int)} {wl : List (Int × List Int)} {l : Int} (h : RDisk F w B secs wl l) (o : Obj) : RDisk F (w.alloc o) B secs wl l := h.later ((Below.refl _ _).alloc (Nat.le_refl _) o)

set_option maxRecDepth 100000 in
set_option maxHeartbeats 1000000 in
theorem rchoose_any {F : Nat → Prop} {w : World} {B : Nat} {secs : List (List Int)} {wl : List (Int × List Int)} {l : Int} (h : RDisk F w B secs wl l) (h2 : 2 ≤ secs.length) :
    Calls Try.prog 24 #[.pointer (some ⟨B, 0, none⟩)] w (ReadPost w (chooseS (readS (curOf wl (0 : Nat) (secs.getD 0 []) wl.length)) (readS (curOf wl (1 : Nat) (secs.getD 1 []) wl.length)))) := by
  have hs0 := cur_sec h 0 (by omega)
  have hs1 := cur_sec h 1 (by omega)
  obtain ⟨s0, hse0⟩ : ∃ s, curOf wl (0 : Nat) (secs.getD 0 []) wl.length = s := ⟨_, rfl⟩
  obtain ⟨s1, hse1⟩ : ∃ s, curOf wl (1 : Nat) (secs.getD 1 []) wl.length = s := ⟨_, rfl⟩
  rw [hse0] at hs0 ⊢
  rw [hse1] at hs1 ⊢
  obtain ⟨r0, hr0⟩ : ∃ r, readS s0 = r := ⟨_, rfl⟩
  obtain ⟨r1, hr1⟩ : ∃ r, readS s1 = r := ⟨_, rfl⟩
  rw [hr0, hr1]
  obtain ⟨R, hR⟩ : ∃ r, chooseS r0 r1 = r := ⟨_, rfl⟩
  rw [hR]
  have SE0 := Lib.hid hse0
  have SE1 := Lib.hid hse1
  have HR0 := Lib.hid hr0
  have HR1 := Lib.hid hr1
  have HR := Lib.hid hR
  clear hse0 hse1 hr0 hr1 hR
  have D1 := Lib.hid (h.alloc (.cells #[.int .u64 0, .int .u64 0, .int .i64 0] 31))
  have hb1 : Below w.heap.size w (w.alloc (.cells #[.int .u64 0, .int .u64 0, .int .i64 0] 31)) := (Below.refl _ _).alloc (Nat.le_refl _) _
  have hz1 : Blk (w.alloc (.cells #[.int .u64 0, .int .u64 0, .int .i64 0] 31)) w.heap.size 31 [.int .u64 0, .int .u64 0, .int .i64 0] := Blk.alloc w 31 #[.int .u64 0, .int .u64 0, .int .i64 0]
  have B1 := Lib.hid hb1
  have Z1 := Lib.hid hz1
  have HS0 := Lib.hid hs0
  have HS1 := Lib.hid hs1
  have H2 := Lib.hid h2
  clear hb1 hz1 hs0 hs1 h
  go_enter Try.func24, Try.ntmps24
  go_wp2_with fail
  refine (rread_any D1.out 0 (by omega)).mono ?_
  rintro e w2 ⟨u2, rfl, ho2, hb2⟩
  rw [SE0.out] at ho2
  obtain ⟨G2, C2, rfl, hc2, hn2⟩ := read_slice ho2 HS0.out.1
  have D2 := Lib.hid (D1.out.later hb2)
  have B2 := Lib.hid (B1.out.trans (hb2.mono B1.out.size))
  have Z2 := Lib.hid (Z1.out.below hb2 Z1.out.lt)
  have N2 := Lib.hid hn2
  clear ho2 hb2 hn2 D1 B1 Z1
  go_wp2_with fail
  refine (pread_64 w2 G2 0 C2 _ N2.out HS0.out.1 hc2 HS0.out.2).mono ?_
  rintro e w3 ⟨rfl, hb3⟩
  rw [HR0.out, slotO_eq]
  obtain ⟨c0, hc0⟩ : ∃ x, cntS r0 = x := ⟨_, rfl⟩
  obtain ⟨g0, hg0⟩ : ∃ x, genS r0 = x := ⟨_, rfl⟩
  obtain ⟨a0, ha0⟩ : ∃ x, areS r0 = x := ⟨_, rfl⟩
  obtain ⟨b0, hk0⟩ : ∃ x, r0.isSome = x := ⟨_, rfl⟩
  rw [hc0, hg0, ha0, hk0]
  have D3 := Lib.hid ((D2.out.later hb3).alloc (.cells #[.int .u64 c0, .int .u64 g0, .int .i64 a0] 31))
  have hB3 := B2.out.trans (hb3.mono B2.out.size)
  have B3 := Lib.hid (hB3.alloc hB3.size (.cells #[.int .u64 c0, .int .u64 g0, .int .i64 a0] 31))
  have Z3 := Lib.hid ((Z2.out.below hb3 Z2.out.lt).keep (Keep.alloc (fun _ => False) w3 (.cells #[.int .u64 c0, .int .u64 g0, .int .i64 a0] 31)) (fun h => h))
  have E3 : Hid (Blk (w3.alloc (.cells #[.int .u64 c0, .int .u64 g0, .int .i64 a0] 31)) w3.heap.size 31 [.int .u64 c0, .int .u64 g0, .int .i64 a0]) := Lib.hid (Blk.alloc w3 31 #[.int .u64 c0, .int .u64 g0, .int .i64 a0])
  have E0 := Lib.hid (show cntS r0 = c0 ∧ genS r0 = g0 ∧ areS r0 = a0 ∧ r0.isSome = b0 from ⟨hc0, hg0, ha0, hk0⟩)
  have NE : Hid (w.heap.size < w3.heap.size) := Lib.hid (Nat.lt_of_lt_of_le Z2.out.lt hb3.size)
  clear hb3 hB3 N2 D2 B2 Z2 hc0 hg0 ha0 hk0
  go_wp2_with fail
  refine (rread_any D3.out 1 (by omega)).mono ?_
  rintro e w5 ⟨u5, rfl, ho5, hb5⟩
  rw [SE1.out] at ho5
  obtain ⟨G5, C5, rfl, hc5, hn5⟩ := read_slice ho5 HS1.out.1
  have B5 := Lib.hid (B3.out.trans (hb5.mono B3.out.size))
  have Z5 := Lib.hid (Z3.out.below hb5 Z3.out.lt)
  have E5 := Lib.hid (E3.out.below hb5 E3.out.lt)
  have N5 := Lib.hid hn5
  clear ho5 hb5 hn5 D3 B3 Z3 E3
  go_wp2_with fail
  refine (pread_64 w5 G5 0 C5 _ N5.out HS1.out.1 hc5 HS1.out.2).mono ?_
  rintro e w6 ⟨rfl, hb6⟩
  rw [HR1.out, slotO_eq]
  obtain ⟨c1, hc1⟩ : ∃ x, cntS r1 = x := ⟨_, rfl⟩
  obtain ⟨g1, hg1⟩ : ∃ x, genS r1 = x := ⟨_, rfl⟩
  obtain ⟨a1, ha1⟩ : ∃ x, areS r1 = x := ⟨_, rfl⟩
  obtain ⟨b1, hk1⟩ : ∃ x, r1.isSome = x := ⟨_, rfl⟩
  rw [hc1, hg1, ha1, hk1]
  have hB6 := B5.out.trans (hb6.mono B5.out.size)
  have B7 := Lib.hid (hB6.alloc hB6.size (.cells #[.int .u64 c1, .int .u64 g1, .int .i64 a1] 31))
  have hz6 := Z5.out.below hb6 Z5.out.lt
  have he6 := E5.out.below hb6 E5.out.lt
  have Z7 := Lib.hid (hz6.keep (Keep.alloc (fun _ => False) w6 (.cells #[.int .u64 c1, .int .u64 g1, .int .i64 a1] 31)) (fun h => h))
  have E7 := Lib.hid (he6.keep (Keep.alloc (fun _ => False) w6 (.cells #[.int .u64 c1, .int .u64 g1, .int .i64 a1] 31)) (fun h => h))
  have E1 := Lib.hid (show cntS r1 = c1 ∧ genS r1 = g1 ∧ areS r1 = a1 ∧ r1.isSome = b1 from ⟨hc1, hg1, ha1, hk1⟩)
  clear hb6 hB6 hz6 he6 N5 B5 Z5 E5 hc1 hg1 ha1 hk1
  have z0 := Z7.out.cell 0
  have z1 := Z7.out.cell 1
  have z2 := Z7.out.cell 2
  have f0 := Z7.out.free 0
  have f1 := Z7.out.free 1
  have f2 := Z7.out.free 2
  have x0 := E7.out.cell 0
  have x1 := E7.out.cell 1
  have x2 := E7.out.cell 2
  cases b1
  · have hRe : R = r0 := by rw [← HR.out]; unfold chooseS; rw [E1.out.2.2.2]; rfl
    have HRE := Lib.hid hRe
    clear hRe
    have e0 : ((w6.alloc (.cells #[.int .u64 c1, .int .u64 g1, .int .i64 a1] 31)).setCell ⟨w.heap.size, 0, none⟩ (.int .u64 c0)).cell? ⟨w.heap.size, 0, none⟩ = some (.int .u64 c0) := by rw [(Z7.out.setCell 0 _).cell]; rfl
    have e1 : (((w6.alloc (.cells #[.int .u64 c1, .int .u64 g1, .int .i64 a1] 31)).setCell ⟨w.heap.size, 0, none⟩ (.int .u64 c0)).setCell ⟨w.heap.size, 1, none⟩ (.int .u64 g0)).cell? ⟨w.heap.size, 1, none⟩ = some (.int .u64 g0) := by rw [((Z7.out.setCell 0 _).setCell 1 _).cell]; rfl
    have e2 : ((((w6.alloc (.cells #[.int .u64 c1, .int .u64 g1, .int .i64 a1] 31)).setCell ⟨w.heap.size, 0, none⟩ (.int .u64 c0)).setCell ⟨w.heap.size, 1, none⟩ (.int .u64 g0)).setCell ⟨w.heap.size, 2, none⟩ (.int .i64 a0)).cell? ⟨w.heap.size, 2, none⟩ = some (.int .i64 a0) := by rw [(((Z7.out.setCell 0 _).setCell 1 _).setCell 2 _).cell]; rfl
    go_wp2
    try simp only [Exit.inBlock, Exit.then]
    refine bodyPost_ret (v := .tuple #[.agg #[.int .u64 c0, .int .u64 g0, .int .i64 a0], .bool b0]) (by simp [results, Try.results24, go_sem, e0, e1, e2]; try rfl) rfl ?_
    exact ⟨by rw [slotO_eq, HRE.out, E0.out.1, E0.out.2.1, E0.out.2.2.1, E0.out.2.2.2], ((B7.out.setCell (Nat.le_refl _) _).setCell (Nat.le_refl _) _).setCell (Nat.le_refl _) _⟩
  · cases b0
    · have hRe : R = r1 := by rw [← HR.out]; unfold chooseS; rw [E1.out.2.2.2, E0.out.2.2.2]; rfl
      have HRE := Lib.hid hRe
      clear hRe
      have e0 : ((w6.alloc (.cells #[.int .u64 c1, .int .u64 g1, .int .i64 a1] 31)).setCell ⟨w.heap.size, 0, none⟩ (.int .u64 c1)).cell? ⟨w.heap.size, 0, none⟩ = some (.int .u64 c1) := by rw [(Z7.out.setCell 0 _).cell]; rfl
      have e1 : (((w6.alloc (.cells #[.int .u64 c1, .int .u64 g1, .int .i64 a1] 31)).setCell ⟨w.heap.size, 0, none⟩ (.int .u64 c1)).setCell ⟨w.heap.size, 1, none⟩ (.int .u64 g1)).cell? ⟨w.heap.size, 1, none⟩ = some (.int .u64 g1) := by rw [((Z7.out.setCell 0 _).setCell 1 _).cell]; rfl
      have e2 : ((((w6.alloc (.cells #[.int .u64 c1, .int .u64 g1, .int .i64 a1] 31)).setCell ⟨w.heap.size, 0, none⟩ (.int .u64 c1)).setCell ⟨w.heap.size, 1, none⟩ (.int .u64 g1)).setCell ⟨w.heap.size, 2, none⟩ (.int .i64 a1)).cell? ⟨w.heap.size, 2, none⟩ = some (.int .i64 a1) := by rw [(((Z7.out.setCell 0 _).setCell 1 _).setCell 2 _).cell]; rfl
      go_wp2
      try simp only [Exit.inBlock, Exit.then]
      refine bodyPost_ret (v := .tuple #[.agg #[.int .u64 c1, .int .u64 g1, .int .i64 a1], .bool true]) (by simp [results, Try.results24, go_sem, e0, e1, e2]; try rfl) rfl ?_
      exact ⟨by rw [slotO_eq, HRE.out, E1.out.1, E1.out.2.1, E1.out.2.2.1, E1.out.2.2.2], ((B7.out.setCell (Nat.le_refl _) _).setCell (Nat.le_refl _) _).setCell (Nat.le_refl _) _⟩
    · by_cases hlt : c0 < c1
      · have hRe : R = r1 := by rw [← HR.out]; unfold chooseS; rw [E1.out.2.2.2, E0.out.2.2.2, E0.out.1, E1.out.1, decide_eq_true hlt]; rfl
        have HRE := Lib.hid hRe
        clear hRe
        have hltI : (c0 : Int) < c1 := by omega
        have e0 : ((w6.alloc (.cells #[.int .u64 c1, .int .u64 g1, .int .i64 a1] 31)).setCell ⟨w.heap.size, 0, none⟩ (.int .u64 c1)).cell? ⟨w.heap.size, 0, none⟩ = some (.int .u64 c1) := by rw [(Z7.out.setCell 0 _).cell]; rfl
        have e1 : (((w6.alloc (.cells #[.int .u64 c1, .int .u64 g1, .int .i64 a1] 31)).setCell ⟨w.heap.size, 0, none⟩ (.int .u64 c1)).setCell ⟨w.heap.size, 1, none⟩ (.int .u64 g1)).cell? ⟨w.heap.size, 1, none⟩ = some (.int .u64 g1) := by rw [((Z7.out.setCell 0 _).setCell 1 _).cell]; rfl
        have e2 : ((((w6.alloc (.cells #[.int .u64 c1, .int .u64 g1, .int .i64 a1] 31)).setCell ⟨w.heap.size, 0, none⟩ (.int .u64 c1)).setCell ⟨w.heap.size, 1, none⟩ (.int .u64 g1)).setCell ⟨w.heap.size, 2, none⟩ (.int .i64 a1)).cell? ⟨w.heap.size, 2, none⟩ = some (.int .i64 a1) := by rw [(((Z7.out.setCell 0 _).setCell 1 _).setCell 2 _).cell]; rfl
        go_wp2
        try simp only [Exit.inBlock, Exit.then]
        refine bodyPost_ret (v := .tuple #[.agg #[.int .u64 c1, .int .u64 g1, .int .i64 a1], .bool true]) (by simp [results, Try.results24, go_sem, e0, e1, e2]; try rfl) rfl ?_
        exact ⟨by rw [slotO_eq, HRE.out, E1.out.1, E1.out.2.1, E1.out.2.2.1, E1.out.2.2.2], ((B7.out.setCell (Nat.le_refl _) _).setCell (Nat.le_refl _) _).setCell (Nat.le_refl _) _⟩
      · have hRe : R = r0 := by rw [← HR.out]; unfold chooseS; rw [E1.out.2.2.2, E0.out.2.2.2, E0.out.1, E1.out.1, decide_eq_false hlt]; rfl
        have HRE := Lib.hid hRe
        clear hRe
        have hltI : ¬ (c0 : Int) < c1 := by omega
        have e0 : ((w6.alloc (.cells #[.int .u64 c1, .int .u64 g1, .int .i64 a1] 31)).setCell ⟨w.heap.size, 0, none⟩ (.int .u64 c0)).cell? ⟨w.heap.size, 0, none⟩ = some (.int .u64 c0) := by rw [(Z7.out.setCell 0 _).cell]; rfl
        have e1 : (((w6.alloc (.cells #[.int .u64 c1, .int .u64 g1, .int .i64 a1] 31)).setCell ⟨w.heap.size, 0, none⟩ (.int .u64 c0)).setCell ⟨w.heap.size, 1, none⟩ (.int .u64 g0)).cell? ⟨w.heap.size, 1, none⟩ = some (.int .u64 g0) := by rw [((Z7.out.setCell 0 _).setCell 1 _).cell]; rfl
        have e2 : ((((w6.alloc (.cells #[.int .u64 c1, .int .u64 g1, .int .i64 a1] 31)).setCell ⟨w.heap.size, 0, none⟩ (.int .u64 c0)).setCell ⟨w.heap.size, 1, none⟩ (.int .u64 g0)).setCell ⟨w.heap.size, 2, none⟩ (.int .i64 a0)).cell? ⟨w.heap.size, 2, none⟩ = some (.int .i64 a0) := by rw [(((Z7.out.setCell 0 _).setCell 1 _).setCell 2 _).cell]; rfl
        go_wp2
        try simp only [Exit.inBlock, Exit.then]
        refine bodyPost_ret (v := .tuple #[.agg #[.int .u64 c0, .int .u64 g0, .int .i64 a0], .bool true]) (by simp [results, Try.results24, go_sem, e0, e1, e2]; try rfl) rfl ?_
        exact ⟨by rw [slotO_eq, HRE.out, E0.out.1, E0.out.2.1, E0.out.2.2.1, E0.out.2.2.2], ((B7.out.setCell (Nat.le_refl _) _).setCell (Nat.le_refl _) _).setCell (Nat.le_refl _) _⟩
end Go.Proofs.Ythecjhjomkpgkaa.K
