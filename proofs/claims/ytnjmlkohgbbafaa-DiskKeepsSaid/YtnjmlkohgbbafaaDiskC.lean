/- DiskKeeps' walk. -/
import Derived.Test.YtnjmlkohgbbafaaDiskC2
import Derived.Deep.QuietTactic
import Derived.BigQuiet
import Derived.Outline
namespace Go.Proofs.Ytnjmlkohgbbafaa.K
open Go.ChangeShapes Go.WideShapes Go.ChangeAt Go.RowKit
set_option linter.unusedVariables false

/-- What the third loop holds: the writes that aren't sure are known. -/
structure L3 (w : World) (B S A1 A2 : Nat) (bw bi : List Nat) (secs sw si : List (List Int)) (uns : List Un) (wr : World) : Prop where
  disk : ∃ vu, IsDisk wr B S vu secs uns (-1) ∧ ∀ x ∈ A1 :: A2 :: (bw ++ bi), ¬ Mine B S vu x
  arrs : Arrs wr A1 A2 bw bi sw si
  below : Below w.heap.size w wr

set_option maxRecDepth 100000 in
theorem keeps_long (a0 : Option Addr) (len0 cap0 : Nat) (a1 : Option Addr) (len1 cap1 : Nat) (mask torn : Int) (w : World) (h : 8 < len0 ∨ 8 < len1) :
    Calls Try.prog 3 #[.slice a0 len0 cap0, .slice a1 len1 cap1, .int .u64 mask, .int .i64 torn] w fun e w' => e = .returned (.bool true) ∧ Below w.heap.size w w' := by
  by_cases h0 : 8 < len0
  · have h0I : (8 : Int) < len0 := by omega
    go_enter Try.func3, Try.ntmps3
    go_wp2_with fail
    refine (known_any w).mono ?_
    rintro e w1 ⟨rfl, hb1⟩
    have HB1 := Lib.hid hb1
    clear hb1
    go_wp2
    go_ret
    exact ⟨rfl, HB1.out⟩
  · have h0I : ¬ (8 : Int) < len0 := by omega
    have h1I : (8 : Int) < len1 := by omega
    go_enter Try.func3, Try.ntmps3
    go_wp2_with fail
    refine (known_any w).mono ?_
    rintro e w1 ⟨rfl, hb1⟩
    have HB1 := Lib.hid hb1
    clear hb1
    go_wp2
    go_ret
    exact ⟨rfl, HB1.out⟩

set_option maxRecDepth 100000 in
set_option maxHeartbeats 20000000 in
theorem keeps_short (a0 : Option Addr) (len0 cap0 : Nat) (lsO : List (List Int)) (a1 : Option Addr) (len1 cap1 : Nat) (lsN : List (List Int)) (mask torn : Int) (w : World) (hO : IsLists w (.slice a0 len0 cap0) lsO) (lO : lsO.length = len0) (fO : ∀ j, j < lsO.length → ∀ y ∈ lsO.getD j [], 0 ≤ y ∧ y ≤ 255)
    (hN : IsLists w (.slice a1 len1 cap1) lsN) (lN : lsN.length = len1) (fN : ∀ j, j < lsN.length → ∀ y ∈ lsN.getD j [], 0 ≤ y ∧ y ≤ 255) (m0 : 0 ≤ mask) (m1 : mask ≤ 18446744073709551615) (t0 : -9223372036854775808 ≤ torn) (t1 : torn ≤ 9223372036854775807) (s0 : len0 ≤ 8) (s1 : len1 ≤ 8) :
    Calls Try.prog 3 #[.slice a0 len0 cap0, .slice a1 len1 cap1, .int .u64 mask, .int .i64 torn] w fun e w' => e = .returned (.bool true) ∧ Below w.heap.size w w' := by
  have s0I : ¬ (8 : Int) < len0 := by omega
  have s1I : ¬ (8 : Int) < len1 := by omega
  have HO := Lib.hid hO
  have HN := Lib.hid hN
  have HFO := Lib.hid fO
  have HFN := Lib.hid fN
  clear hO hN fO fN
  go_enter Try.func3, Try.ntmps3
  go_wp2_with fail
  refine (known_any w).mono ?_
  rintro e w1 ⟨rfl, hb1⟩
  have HB1 := Lib.hid hb1
  clear hb1
  go_wp2_with fail
  refine (new_disk 8 w1 (by omega)).mono ?_
  rintro e w2 ⟨B, S, rfl, hS, h2, hb2⟩
  have HB2 := Lib.hid (HB1.out.trans (hb2.mono HB1.out.size))
  have HS := Lib.hid (show w.heap.size ≤ S from Nat.le_trans HB1.out.size hS)
  have H2 := Lib.hid h2
  have HAA := Lib.hid (show w.heap.size ≤ w2.heap.size ∧ w.heap.size ≤ w2.heap.size + 1 from ⟨HB2.out.size, Nat.le_succ_of_le HB2.out.size⟩)
  clear hb2 h2 hS
  go_wp2
  go_loopw [12] (fun i wr => ∃ k : Nat, k ≤ 8 ∧ i = .int .i64 k ∧ L1 w B S w2.heap.size (w2.heap.size + 1) k wr) (fun i _ => 8 - (intOf i).toNat)
  case atStart =>
    refine ⟨0, Nat.zero_le _, rfl, [], [], rfl, rfl, ⟨?_, ?_, by simp, by simp, by simp⟩, (H2.out.alloc _).alloc _, ?_, (HB2.out.alloc HB2.out.size _).alloc (by have := HB2.out.size; simp; omega) _, by simp⟩
    · exact (Blk.alloc w2 28 #[.slice none 0 0, .slice none 0 0, .slice none 0 0, .slice none 0 0, .slice none 0 0, .slice none 0 0, .slice none 0 0, .slice none 0 0]).below ((Below.refl _ _).alloc (Nat.le_refl _) _) (by simp)
    · have := Blk.alloc (w2.alloc (.cells #[.slice none 0 0, .slice none 0 0, .slice none 0 0, .slice none 0 0, .slice none 0 0, .slice none 0 0, .slice none 0 0, .slice none 0 0] 28)) 28 #[.slice none 0 0, .slice none 0 0, .slice none 0 0, .slice none 0 0, .slice none 0 0, .slice none 0 0, .slice none 0 0, .slice none 0 0]
      rw [show (w2.alloc (.cells #[.slice none 0 0, .slice none 0 0, .slice none 0 0, .slice none 0 0, .slice none 0 0, .slice none 0 0, .slice none 0 0, .slice none 0 0] 28)).heap.size = w2.heap.size + 1 by simp] at this
      exact this
    · intro x hx hmx
      have := H2.out.mine_lt x hmx
      simp at hx
      omega
  case round =>
    obtain ⟨k, hk, rfl, bw, bi, ebw, ebi, ha, hd, hm, hbw, hlw⟩ := hrel
    by_cases hk8 : k < 8
    · have HA0 := Lib.hid (ha.keep (Keep.drew (fun _ => False) wr) (fun _ _ h => h))
      have HA := Lib.hid ha
      have HD := Lib.hid hd
      have HM := Lib.hid hm
      have HBW := Lib.hid hbw
      have HLW := Lib.hid hlw
      have HLEN1 : Hid (k < (bw.map sl ++ nil8 bw.length).length) := Lib.hid (by simp [nil8, ebw]; omega)
      have HLEN2 : Hid (k < (bi.map sl ++ nil8 bi.length).length) := Lib.hid (by simp [nil8, ebi]; omega)
      have hwA1 : w2.heap.size < wr.heap.size := ha.b1.lt
      have hwA2 : w2.heap.size + 1 < wr.heap.size := ha.b2.lt
      have hkI : (k : Int) < 8 := by omega
      clear ha hd hm hbw hlw
      go_wp2_with fail
      refine regionE_begin 7 (fun _ => True) (by kernel_rfl) ?_
      refine stepE_any 0 (some 33) (v := ?v1) (fun _ => trivial) rfl (by rfl) (by kernel_rfl) (by kernel_rfl) (by kernel_rfl) (by decide) (fun _ _ _ h => h) (by rfl) ?y2 ?n3
      case y2 => intro W; go_simp; try with_reducible rfl
      try simp only [Act.put, List.setIfInBounds_toArray, List.set_cons_zero, List.set_cons_succ]
      refine stepE_any 1 (some 34) (v := ?v4) (fun _ => trivial) rfl (by rfl) (by kernel_rfl) (by kernel_rfl) (by kernel_rfl) (by decide) (fun _ _ _ h => h) (by rfl) ?y5 ?n6
      case y5 => intro W; go_simp; try with_reducible rfl
      try simp only [Act.put, List.setIfInBounds_toArray, List.set_cons_zero, List.set_cons_succ]
      refine stepE_two 2 3 rfl rfl (by kernel_rfl) (by rfl) (by rfl) (fun K' hK => ?_) (fun K' hK => ?_)
      · refine wp_make64 _ _ rfl (by rfl) (by rfl) (fun x7 hb8 hl9 hz10 => hK _ _ ?_)
        clear hK K'
        try simp only [Act.put, List.setIfInBounds_toArray, List.set_cons_zero, List.set_cons_succ]
        have hc11 : Keep (fun x => x = w2.heap.size ∨ x = w2.heap.size + 1) wr x7 := ((Keep.drew (fun x => x = w2.heap.size ∨ x = w2.heap.size + 1) wr)).trans' (Keep.ofBelow (bad := fun _ => False) hl9) (fun _ _ h => h.elim)
        have ha12 := (HA0.out.b1).below hl9 (HA0.out.b1).lt
        have ha13 := (HA0.out.b2).below hl9 (HA0.out.b2).lt
        have hs14 : wr.heap.size ≤ wr.drew.heap.size := ((Keep.drew (fun x => x = w2.heap.size ∨ x = w2.heap.size + 1) wr)).size
        refine stepE_any 4 (some 37) (v := ?v15) (fun _ => trivial) rfl (by rfl) (by kernel_rfl) (by kernel_rfl) (by kernel_rfl) (by decide) (fun _ _ _ h => h) (by rfl) ?y16 ?n17
        case y16 => intro W; go_simp; try with_reducible rfl
        try simp only [Act.put, List.setIfInBounds_toArray, List.set_cons_zero, List.set_cons_succ]
        refine stepE_two 3 5 rfl rfl (by kernel_rfl) (by rfl) (by rfl) (fun K' hK => ?_) (fun K' hK => ?_)
        · refine wp_make64 _ _ rfl (by rfl) (by rfl) (fun x18 hb19 hl20 hz21 => hK _ _ ?_)
          clear hK K'
          try simp only [Act.put, List.setIfInBounds_toArray, List.set_cons_zero, List.set_cons_succ]
          have hc22 : Keep (fun x => x = w2.heap.size ∨ x = w2.heap.size + 1) wr x18 := (hc11).trans' (Keep.ofBelow (bad := fun _ => False) hl20) (fun _ _ h => h.elim)
          have ha23 := (ha12).below hl20 (ha12).lt
          have ha24 := (ha13).below hl20 (ha13).lt
          have hg25 := (hb8).below hl20 (hb8).lt
          have hs26 : wr.heap.size ≤ x7.heap.size := (hc11).size
          refine stepE_only 5 rfl (by kernel_rfl) (by rfl) (fun K' hK => ?_)
          refine wp_store1 ha23 27 (.tmp 37) (.tmp 35) rfl k (sl wr.drew.heap.size) rfl rfl HLEN1.out (by kernel_rfl) (by rfl) (by rfl) (fun x27 hb28 hk29 hz30 => hK _ _ trivial ?_)
          clear hK K'
          try simp only [Act.put, List.setIfInBounds_toArray, List.set_cons_zero, List.set_cons_succ]
          have hc31 : Keep (fun x => x = w2.heap.size ∨ x = w2.heap.size + 1) wr x27 := (hc22).trans (hk29 _ (by first | exact .inl rfl | exact .inr rfl))
          have ha32 := (ha24).keep (hk29 (fun x => x = w2.heap.size) rfl) (by omega)
          have hg33 := (hg25).keep (hk29 (fun x => x = w2.heap.size) rfl) (by omega)
          have hg34 := (hb19).keep (hk29 (fun x => x = w2.heap.size) rfl) (by omega)
          refine stepE_any 6 (some 38) (v := ?v35) (fun _ => trivial) rfl (by rfl) (by kernel_rfl) (by kernel_rfl) (by kernel_rfl) (by decide) (fun _ _ _ h => h) (by rfl) ?y36 ?n37
          case y36 => intro W; go_simp; try with_reducible rfl
          try simp only [Act.put, List.setIfInBounds_toArray, List.set_cons_zero, List.set_cons_succ]
          refine stepE_end 7 rfl (by kernel_rfl) (by rfl) (by rfl) (fun K' hK => ?_)
          refine wp_store1 ha32 27 (.tmp 38) (.tmp 36) rfl k (sl x7.heap.size) rfl rfl HLEN2.out (by kernel_rfl) (by rfl) (by rfl) (fun x38 hb39 hk40 hz41 => hK _ _ ?_)
          clear hK K'
          have hc42 : Keep (fun x => x = w2.heap.size ∨ x = w2.heap.size + 1) wr x38 := (hc31).trans (hk40 _ (by first | exact .inl rfl | exact .inr rfl))
          have ha43 := (hb28).keep (hk40 (fun x => x = w2.heap.size + 1) rfl) (by omega)
          have hg44 := (hg33).keep (hk40 (fun x => x = w2.heap.size + 1) rfl) (by omega)
          have hg45 := (hg34).keep (hk40 (fun x => x = w2.heap.size + 1) rfl) (by omega)
          refine wpAnyE_done (by kernel_rfl) ?_ _
          have hfin : L1 w B S w2.heap.size (w2.heap.size + 1) (k + 1) x38 := L1_step hk8 ebw ebi HA.out HD.out HM.out HBW.out HLW.out HAA.out ha43 hb39 hg44 hg45 hc42 (by exact hs14) (by exact hs26) (by omega)
          have HFIN := Lib.hid hfin
          clear hfin hg45 hg44 ha43 hc42 hz41 hk40 hb39 hg34 hg33 ha32 hc31 hz30 hk29 hb28 hs26 hg25 ha24 ha23 hc22 hz21 hl20 hb19 hs14 ha13 ha12 hc11 hz10 hl9 hb8
          go_wp2
          go_roundw
          case rel => exact ⟨k + 1, by omega, by go_num, HFIN.out⟩
          case measure => simp [intOf]; omega
        · refine wp_store1 ha12 27 (.tmp 37) (.tmp 35) rfl k (sl wr.drew.heap.size) rfl rfl HLEN1.out (by kernel_rfl) (by rfl) (by rfl) (fun x46 hb47 hk48 hz49 => hK _ _ ?_)
          clear hK K'
          try simp only [Act.put, List.setIfInBounds_toArray, List.set_cons_zero, List.set_cons_succ]
          have hc50 : Keep (fun x => x = w2.heap.size ∨ x = w2.heap.size + 1) wr x46 := (hc11).trans (hk48 _ (by first | exact .inl rfl | exact .inr rfl))
          have ha51 := (ha13).keep (hk48 (fun x => x = w2.heap.size) rfl) (by omega)
          have hg52 := (hb8).keep (hk48 (fun x => x = w2.heap.size) rfl) (by omega)
          refine stepE_only 3 rfl (by kernel_rfl) (by rfl) (fun K' hK => ?_)
          refine wp_make64 _ _ rfl (by rfl) (by rfl) (fun x53 hb54 hl55 hz56 => hK _ _ trivial ?_)
          clear hK K'
          try simp only [Act.put, List.setIfInBounds_toArray, List.set_cons_zero, List.set_cons_succ]
          have hc57 : Keep (fun x => x = w2.heap.size ∨ x = w2.heap.size + 1) wr x53 := (hc50).trans' (Keep.ofBelow (bad := fun _ => False) hl55) (fun _ _ h => h.elim)
          have ha58 := (hb47).below hl55 (hb47).lt
          have ha59 := (ha51).below hl55 (ha51).lt
          have hg60 := (hg52).below hl55 (hg52).lt
          have hs61 : wr.heap.size ≤ x46.heap.size := (hc50).size
          refine stepE_any 6 (some 38) (v := ?v62) (fun _ => trivial) rfl (by rfl) (by kernel_rfl) (by kernel_rfl) (by kernel_rfl) (by decide) (fun _ _ _ h => h) (by rfl) ?y63 ?n64
          case y63 => intro W; go_simp; try with_reducible rfl
          try simp only [Act.put, List.setIfInBounds_toArray, List.set_cons_zero, List.set_cons_succ]
          refine stepE_end 7 rfl (by kernel_rfl) (by rfl) (by rfl) (fun K' hK => ?_)
          refine wp_store1 ha59 27 (.tmp 38) (.tmp 36) rfl k (sl x46.heap.size) rfl rfl HLEN2.out (by kernel_rfl) (by rfl) (by rfl) (fun x65 hb66 hk67 hz68 => hK _ _ ?_)
          clear hK K'
          have hc69 : Keep (fun x => x = w2.heap.size ∨ x = w2.heap.size + 1) wr x65 := (hc57).trans (hk67 _ (by first | exact .inl rfl | exact .inr rfl))
          have ha70 := (ha58).keep (hk67 (fun x => x = w2.heap.size + 1) rfl) (by omega)
          have hg71 := (hg60).keep (hk67 (fun x => x = w2.heap.size + 1) rfl) (by omega)
          have hg72 := (hb54).keep (hk67 (fun x => x = w2.heap.size + 1) rfl) (by omega)
          refine wpAnyE_done (by kernel_rfl) ?_ _
          have hfin : L1 w B S w2.heap.size (w2.heap.size + 1) (k + 1) x65 := L1_step hk8 ebw ebi HA.out HD.out HM.out HBW.out HLW.out HAA.out ha70 hb66 hg71 hg72 hc69 (by exact hs14) (by exact hs61) (by omega)
          have HFIN := Lib.hid hfin
          clear hfin hg72 hg71 ha70 hc69 hz68 hk67 hb66 hs61 hg60 ha59 ha58 hc57 hz56 hl55 hb54 hg52 ha51 hc50 hz49 hk48 hb47 hs14 ha13 ha12 hc11 hz10 hl9 hb8
          go_wp2
          go_roundw
          case rel => exact ⟨k + 1, by omega, by go_num, HFIN.out⟩
          case measure => simp [intOf]; omega
      · refine wp_make64 _ _ rfl (by rfl) (by rfl) (fun x73 hb74 hl75 hz76 => hK _ _ ?_)
        clear hK K'
        try simp only [Act.put, List.setIfInBounds_toArray, List.set_cons_zero, List.set_cons_succ]
        have hc77 : Keep (fun x => x = w2.heap.size ∨ x = w2.heap.size + 1) wr x73 := ((Keep.drew (fun x => x = w2.heap.size ∨ x = w2.heap.size + 1) wr)).trans' (Keep.ofBelow (bad := fun _ => False) hl75) (fun _ _ h => h.elim)
        have ha78 := (HA0.out.b1).below hl75 (HA0.out.b1).lt
        have ha79 := (HA0.out.b2).below hl75 (HA0.out.b2).lt
        have hs80 : wr.heap.size ≤ wr.drew.heap.size := ((Keep.drew (fun x => x = w2.heap.size ∨ x = w2.heap.size + 1) wr)).size
        refine stepE_only 2 rfl (by kernel_rfl) (by rfl) (fun K' hK => ?_)
        refine wp_make64 _ _ rfl (by rfl) (by rfl) (fun x81 hb82 hl83 hz84 => hK _ _ trivial ?_)
        clear hK K'
        try simp only [Act.put, List.setIfInBounds_toArray, List.set_cons_zero, List.set_cons_succ]
        have hc85 : Keep (fun x => x = w2.heap.size ∨ x = w2.heap.size + 1) wr x81 := (hc77).trans' (Keep.ofBelow (bad := fun _ => False) hl83) (fun _ _ h => h.elim)
        have ha86 := (ha78).below hl83 (ha78).lt
        have ha87 := (ha79).below hl83 (ha79).lt
        have hg88 := (hb74).below hl83 (hb74).lt
        have hs89 : wr.heap.size ≤ x73.heap.size := (hc77).size
        refine stepE_any 4 (some 37) (v := ?v90) (fun _ => trivial) rfl (by rfl) (by kernel_rfl) (by kernel_rfl) (by kernel_rfl) (by decide) (fun _ _ _ h => h) (by rfl) ?y91 ?n92
        case y91 => intro W; go_simp; try with_reducible rfl
        try simp only [Act.put, List.setIfInBounds_toArray, List.set_cons_zero, List.set_cons_succ]
        refine stepE_only 5 rfl (by kernel_rfl) (by rfl) (fun K' hK => ?_)
        refine wp_store1 ha86 27 (.tmp 37) (.tmp 35) rfl k (sl x73.heap.size) rfl rfl HLEN1.out (by kernel_rfl) (by rfl) (by rfl) (fun x93 hb94 hk95 hz96 => hK _ _ trivial ?_)
        clear hK K'
        try simp only [Act.put, List.setIfInBounds_toArray, List.set_cons_zero, List.set_cons_succ]
        have hc97 : Keep (fun x => x = w2.heap.size ∨ x = w2.heap.size + 1) wr x93 := (hc85).trans (hk95 _ (by first | exact .inl rfl | exact .inr rfl))
        have ha98 := (ha87).keep (hk95 (fun x => x = w2.heap.size) rfl) (by omega)
        have hg99 := (hb82).keep (hk95 (fun x => x = w2.heap.size) rfl) (by omega)
        have hg100 := (hg88).keep (hk95 (fun x => x = w2.heap.size) rfl) (by omega)
        refine stepE_any 6 (some 38) (v := ?v101) (fun _ => trivial) rfl (by rfl) (by kernel_rfl) (by kernel_rfl) (by kernel_rfl) (by decide) (fun _ _ _ h => h) (by rfl) ?y102 ?n103
        case y102 => intro W; go_simp; try with_reducible rfl
        try simp only [Act.put, List.setIfInBounds_toArray, List.set_cons_zero, List.set_cons_succ]
        refine stepE_end 7 rfl (by kernel_rfl) (by rfl) (by rfl) (fun K' hK => ?_)
        refine wp_store1 ha98 27 (.tmp 38) (.tmp 36) rfl k (sl wr.drew.heap.size) rfl rfl HLEN2.out (by kernel_rfl) (by rfl) (by rfl) (fun x104 hb105 hk106 hz107 => hK _ _ ?_)
        clear hK K'
        have hc108 : Keep (fun x => x = w2.heap.size ∨ x = w2.heap.size + 1) wr x104 := (hc97).trans (hk106 _ (by first | exact .inl rfl | exact .inr rfl))
        have ha109 := (hb94).keep (hk106 (fun x => x = w2.heap.size + 1) rfl) (by omega)
        have hg110 := (hg99).keep (hk106 (fun x => x = w2.heap.size + 1) rfl) (by omega)
        have hg111 := (hg100).keep (hk106 (fun x => x = w2.heap.size + 1) rfl) (by omega)
        refine wpAnyE_done (by kernel_rfl) ?_ _
        have hfin : L1 w B S w2.heap.size (w2.heap.size + 1) (k + 1) x104 := L1_step hk8 ebw ebi HA.out HD.out HM.out HBW.out HLW.out HAA.out ha109 hb105 hg110 hg111 hc108 (by exact hs89) (by exact hs80) (by omega)
        have HFIN := Lib.hid hfin
        clear hfin hg111 hg110 ha109 hc108 hz107 hk106 hb105 hg100 hg99 ha98 hc97 hz96 hk95 hb94 hs89 hg88 ha87 ha86 hc85 hz84 hl83 hb82 hs80 ha79 ha78 hc77 hz76 hl75 hb74
        go_wp2
        go_roundw
        case rel => exact ⟨k + 1, by omega, by go_num, HFIN.out⟩
        case measure => simp [intOf]; omega
    · obtain rfl : k = 8 := by omega
      rw [show ((8 : Nat) : Int) = 8 from rfl]
      have HLO : Hid (∀ x ∈ w2.heap.size :: (w2.heap.size + 1) :: (bw ++ bi), w.heap.size ≤ x) := Lib.hid (fun x hx => by
        rcases List.mem_cons.1 hx with rfl | hx
        · exact HB2.out.size
        · rcases List.mem_cons.1 hx with rfl | hx
          · have := HB2.out.size; omega
          · exact hlw x hx)
      have HSTART2 : Hid (L2 w B S w2.heap.size (w2.heap.size + 1) bw bi (padTo lsO 0) (padTo lsO 0) Z8 0 wr) := by
        rw [padTo_zero]
        exact Lib.hid ⟨⟨_, _, hd, Nat.le_refl _, hm⟩, ha, hbw⟩
      clear ha hd hm hbw hlw
      go_wp2
      go_loopw [13] (fun i wr => ∃ k : Nat, k ≤ len0 ∧ i = .int .i64 k ∧ L2 w B S w2.heap.size (w2.heap.size + 1) bw bi (padTo lsO k) (padTo lsO k) Z8 k wr) (fun i _ => len0 - (intOf i).toNat)
      case atStart => exact ⟨0, Nat.zero_le _, rfl, HSTART2.out⟩
      case round =>
        clear HSTART2
        obtain ⟨k, hk, rfl, hst⟩ := hrel
        by_cases hlt : k < len0
        · obtain ⟨a', c', e1, h0 | ⟨b, off, e2, hblt, hcell⟩⟩ := id HO.out
          · omega
          injection e1 with e1 e3 e4
          clear e3 e4
          subst e1
          subst e2
          obtain ⟨u, hcu, hnu⟩ := hcell k (by omega)
          have hby := HFO.out k (by omega)
          obtain ⟨bs, hbs⟩ : ∃ bs, lsO.getD k [] = bs := ⟨_, rfl⟩
          rw [hbs] at hnu hby
          obtain ⟨vu, uns, hd, hun, hm⟩ := hst.disk
          have hbel := hst.below
          have har := hst.arrs
          obtain ⟨pu, cu, rfl, -⟩ := id hnu
          have hcr : wr.cell? ⟨b, off + k, none⟩ = some (.slice pu bs.length cu) := by rw [hbel.cell hblt]; exact hcu
          have HD := Lib.hid hd
          have HM := Lib.hid hm
          have HBL := Lib.hid hbel
          have HAR := Lib.hid har
          have HNB := Lib.hid hnu
          have HBS := Lib.hid hbs
          have HBY := Lib.hid hby
          have HCU := Lib.hid hcu
          clear hcell hst hd hm hbel har hnu hbs hby hcu
          by_cases h60 : bs.length ≤ 60
          · have h60I : ¬ (60 : Int) < bs.length := by omega
            go_wp2_with fail
            have hno := NumsOff.below (N := 0) HNB.out HBL.out (mine_ge HD.out HS.out)
            refine (write_live HD.out k (by rw [padTo_len]; omega) _ bs hno (by omega) HBY.out rfl (by omega)).mono ?_
            rintro e w4 ⟨rfl, vu4, h4, hk4, hv4⟩
            clear hno hcr
            have hbel4 := HBL.out.trans (HD.out.below hk4 HS.out HBL.out.size)
            have har4 := HAR.out.keep hk4 HM.out
            have hm4 := apart_next HM.out HAR.out.lt hv4
            have hset := padTo_set lsO k (by omega)
            rw [HBS.out] at hset
            rw [hset] at h4
            skip
            skip
            skip
            obtain ⟨g, hgk⟩ : ∃ g, bw[k]? = some g := ⟨bw[k]'(by omega), List.getElem?_eq_getElem _⟩
            have hrow : Blk w4 g 5 (B8 zeros) := by
              have := har4.r1 k g hgk
              rwa [show (padTo lsO k).getD k [] = zeros by simp only [List.getD]; rw [padTo_get _ _ _ (by omega), if_neg (Nat.lt_irrefl k)]; rfl] at this
            have hgc : ∀ W, Keep (fun _ => False) w4.drew W → W.cell? ⟨w2.heap.size, k, none⟩ = some (sl g) := fun W hW => by
              have h9 : Blk W (w2.heap.size) 28 (bw.map sl ++ nil8 bw.length) := Blk.keep (w := w4.drew) (har4.b1) hW (fun h => h)
              rw [h9.cell, List.getElem?_append_left (by simp; omega), List.getElem?_map, hgk]; rfl
            unfold sl at hgc
            have hpc : ∀ W, Keep (fun _ => False) w4.drew W → W.cell? ⟨b, off + k, none⟩ = some (.slice pu bs.length cu) := fun W hW => by
              rw [hW.cell (fun h => h) (show b < w4.drew.heap.size from Nat.lt_of_lt_of_le hblt hbel4.size)]
              show w4.cell? _ = _
              rw [hbel4.cell hblt]; exact HCU.out
            have hnu4 : IsNums .u8 w4.drew (.slice pu bs.length cu) bs := HNB.out.below (hbel4.trans ⟨rfl, rfl, rfl, Nat.le_refl _, fun _ _ => rfl⟩) (Nat.le_refl _)
            have HG := Lib.hid hgc
            have HP := Lib.hid hpc
            have HNU := Lib.hid hnu4
            have HBG := Lib.hid (show Blk w4.drew g 5 (B8 zeros) from hrow)
            have HD4 := Lib.hid h4
            have HM4 := Lib.hid hm4
            have HB4 := Lib.hid hbel4
            have HAR4 := Lib.hid har4
            have HGK := Lib.hid hgk
            have HV4 := Lib.hid hv4
            have hk8 : (k : Int) < 8 := by omega
            clear hgc hpc hnu4 hrow h4 hm4 hbel4 har4 hgk hv4 hk4 hset
            go_wp2_with fail
            refine regionE_begin 7 (fun W => Keep (fun _ => False) w4.drew W) (by kernel_rfl) ?_
            refine stepE_any 0 (some 58) (v := ?vc170) (fun _ => Keep.refl _ _) rfl (by rfl) (by kernel_rfl) (by kernel_rfl) (by kernel_rfl) (by decide) (fun _ _ _ h => h) (by rfl) ?yc170 ?nc170
            case yc170 => intro W; go_simp; try with_reducible rfl
            try simp only [Act.put, List.setIfInBounds_toArray, List.set_cons_zero, List.set_cons_succ]
            refine stepE_any 1 (some 59) (v := ?vc171) (fun _ => Keep.refl _ _) rfl (by rfl) (by kernel_rfl) (by kernel_rfl) (by kernel_rfl) (by decide) (fun _ _ _ h => h) (by rfl) ?yc171 ?nc171
            case yc171 => intro W; go_simp; try with_reducible rfl
            try simp only [Act.put, List.setIfInBounds_toArray, List.set_cons_zero, List.set_cons_succ]
            refine stepE_read 2 10 (some 60) (v := ?vc172) (Keep.refl _ _) rfl (by rfl) (by kernel_rfl) (by kernel_rfl) (by kernel_rfl) (by kernel_rfl) (by kernel_rfl) (fun _ _ _ h => h) (by rfl) ?yc172 ?nc172
            case yc172 => intro W hW; have q := HG.out W hW; go_simp; try with_reducible rfl
            try simp only [Act.put, List.setIfInBounds_toArray, List.set_cons_zero, List.set_cons_succ]
            refine stepE_any 3 (some 61) (v := ?vc173) (fun _ => Keep.refl _ _) rfl (by rfl) (by kernel_rfl) (by kernel_rfl) (by kernel_rfl) (by decide) (fun _ _ _ h => h) (by rfl) ?yc173 ?nc173
            case yc173 => intro W; go_simp; try with_reducible rfl
            try simp only [Act.put, List.setIfInBounds_toArray, List.set_cons_zero, List.set_cons_succ]
            refine stepE_any 4 (some 62) (v := ?vc174) (fun _ => Keep.refl _ _) rfl (by rfl) (by kernel_rfl) (by kernel_rfl) (by kernel_rfl) (by decide) (fun _ _ _ h => h) (by rfl) ?yc174 ?nc174
            case yc174 => intro W; go_simp; try with_reducible rfl
            try simp only [Act.put, List.setIfInBounds_toArray, List.set_cons_zero, List.set_cons_succ]
            refine stepE_any 5 (some 63) (v := ?vc175) (fun _ => Keep.refl _ _) rfl (by rfl) (by kernel_rfl) (by kernel_rfl) (by kernel_rfl) (by decide) (fun _ _ _ h => h) (by rfl) ?yc175 ?nc175
            case yc175 => intro W; go_simp; try with_reducible rfl
            try simp only [Act.put, List.setIfInBounds_toArray, List.set_cons_zero, List.set_cons_succ]
            refine stepE_read 6 10 (some 64) (v := ?vc176) (Keep.refl _ _) rfl (by rfl) (by kernel_rfl) (by kernel_rfl) (by kernel_rfl) (by kernel_rfl) (by kernel_rfl) (fun _ _ _ h => h) (by rfl) ?yc176 ?nc176
            case yc176 => intro W hW; have q := HP.out W hW; go_simp; try with_reducible rfl
            try simp only [Act.put, List.setIfInBounds_toArray, List.set_cons_zero, List.set_cons_succ]
            -- 7: builtin:copy -> 65
            refine stepE_end 7 rfl (by kernel_rfl) (by rfl) (by rfl) (fun K' hK => ?_)
            refine wp_copyB (HBG.out) (.tmp 60) (.tmp 64) 27 27 rfl 0 64 64 _ bs HNU.out (by omega) (by rw [B8_len]; simp [zeros]; omega) 5 Try.underlying27 (by kernel_rfl) (by rfl) (by rfl) (fun w5 hb5 hk5 => hK _ _ ?_)
            clear hK K'
            refine wpAnyE_done (by kernel_rfl) ?_ _
            rw [fill_pad bs (by omega)] at hb5
            have hgm : g ∈ w2.heap.size :: (w2.heap.size + 1) :: (bw ++ bi) := by simp [List.mem_of_getElem? HGK.out]
            have hkk : Keep (fun x => x = g) w4 w5 := (Keep.drew (fun x => x = g) w4).trans (hk5 _ rfl)
            have hfin : L2 w B S w2.heap.size (w2.heap.size + 1) bw bi (padTo lsO (k + 1)) (padTo lsO (k + 1)) Z8 (k + 1) w5 := by
              refine ⟨⟨vu4, _, HD4.out.keep hkk ?_, by rw [List.length_append]; simp; omega, HM4.out⟩, ?_, HB4.out.trans (hkk.below (fun x e => by rw [e]; exact HLO.out g hgm) HB4.out.size)⟩
              · intro x hx e
                subst e
                exact HM4.out _ hgm hx
              · have := HAR4.out.set1 k g (pad bs) HGK.out hkk hb5 (by rw [padTo_len]; omega)
                rw [← HBS.out, padTo_set _ _ (by omega)] at this
                exact this
            have HFIN := Lib.hid hfin
            clear hfin hkk hb5 hk5
            go_wp2
            go_roundw
            case rel => exact ⟨k + 1, by omega, by go_num, HFIN.out⟩
            case measure => simp [intOf]; omega
          · have h60I : (60 : Int) < bs.length := by omega
            go_wp2
            go_ret
            exact ⟨rfl, HBL.out⟩
        · obtain rfl : k = len0 := by omega
          obtain ⟨vu2, uns2, hd2, hun2, hm2⟩ := hst.disk
          have hbel2 := hst.below
          have har2 := hst.arrs
          have HD2 := Lib.hid hd2
          have HM2 := Lib.hid hm2
          have HBL2 := Lib.hid hbel2
          have HAR2 := Lib.hid har2
          clear hst hd2 hm2 hbel2 har2
          go_wp2_with fail
          refine (flush_live HD2.out rfl).mono ?_
          rintro e w3 ⟨rfl, h3, hk3⟩
          obtain ⟨SO, hSO⟩ : ∃ SO, padTo lsO k = SO := ⟨_, rfl⟩
          have hSOl : SO.length = 8 := by rw [← hSO, padTo_len]
          have HSO0 : Hid (∀ s ∈ SO, Sec s) := Lib.hid (by rw [← hSO]; exact HD2.out.secs_ok)
          have hst3 : L3 w B S w2.heap.size (w2.heap.size + 1) bw bi (mixTo lsN SO 0) SO (padTo lsN 0) (unsTo lsN SO 0) w3 := by
            rw [mixTo_zero _ _ hSOl, padTo_zero]
            rw [hSO] at h3 HAR2
            refine ⟨⟨_, h3, fun x hx hmx => HM2.out x hx ?_⟩, HAR2.out.keep hk3 (fun x hx e => HM2.out x hx (.inl e)), HBL2.out.trans (keepB_below HD2.out hk3 HS.out)⟩
            rcases hmx with h | h | h
            · exact .inl h
            · exact .inr (.inl h)
            · simp [Value.ownBlock] at h
          have HSTART3 := Lib.hid hst3
          clear hst3 h3 hk3 hSO HD2 HM2 HBL2 HAR2 hlt
          go_wp2
          go_loopw [14] (fun i wr => ∃ k : Nat, k ≤ len1 ∧ i = .int .i64 k ∧ L3 w B S w2.heap.size (w2.heap.size + 1) bw bi (mixTo lsN SO k) SO (padTo lsN k) (unsTo lsN SO k) wr) (fun i _ => len1 - (intOf i).toNat)
          case atStart => exact ⟨0, Nat.zero_le _, rfl, HSTART3.out⟩
          case round =>
            clear HSTART3
            obtain ⟨k, hk, rfl, hst⟩ := hrel
            by_cases hlt : k < len1
            · obtain ⟨a', c', e1, h0 | ⟨b, off, e2, hblt, hcell⟩⟩ := id HN.out
              · omega
              injection e1 with e1 e3 e4
              clear e3 e4
              subst e1
              subst e2
              obtain ⟨u, hcu, hnu⟩ := hcell k (by omega)
              have hby := HFN.out k (by omega)
              obtain ⟨bs, hbs⟩ : ∃ bs, lsN.getD k [] = bs := ⟨_, rfl⟩
              rw [hbs] at hnu hby
              obtain ⟨vu, hd, hm⟩ := hst.disk
              have hbel := hst.below
              have har := hst.arrs
              obtain ⟨pu, cu, rfl, -⟩ := id hnu
              have hcr : wr.cell? ⟨b, off + k, none⟩ = some (.slice pu bs.length cu) := by rw [hbel.cell hblt]; exact hcu
              have HD := Lib.hid hd
              have HM := Lib.hid hm
              have HBL := Lib.hid hbel
              have HAR := Lib.hid har
              have HNB := Lib.hid hnu
              have HBS := Lib.hid hbs
              have HBY := Lib.hid hby
              have HCU := Lib.hid hcu
              clear hcell hst hd hm hbel har hnu hbs hby hcu
              by_cases h60 : bs.length ≤ 60
              · have h60I : ¬ (60 : Int) < bs.length := by omega
                go_wp2_with fail
                have hno := NumsOff.below (N := 0) HNB.out HBL.out (mine_ge HD.out HS.out)
                refine (write_live HD.out k (by rw [mixTo_len]; omega) _ bs hno (by omega) HBY.out rfl (by rw [unsTo_len]; omega)).mono ?_
                rintro e w4 ⟨rfl, vu4, h4, hk4, hv4⟩
                clear hno hcr
                have hbel4 := HBL.out.trans (HD.out.below hk4 HS.out HBL.out.size)
                have har4 := HAR.out.keep hk4 HM.out
                have hm4 := apart_next HM.out HAR.out.lt hv4
                have hset := mixTo_set lsN SO k (by omega)
                rw [HBS.out] at hset
                rw [hset] at h4
                have huns := unsTo_succ lsN SO k (by omega)
                rw [HBS.out] at huns
                rw [huns] at h4
                obtain ⟨g, hgk⟩ : ∃ g, bi[k]? = some g := ⟨bi[k]'(by omega), List.getElem?_eq_getElem _⟩
                have hrow : Blk w4 g 5 (B8 zeros) := by
                  have := har4.r2 k g hgk
                  rwa [show (padTo lsN k).getD k [] = zeros by simp only [List.getD]; rw [padTo_get _ _ _ (by omega), if_neg (Nat.lt_irrefl k)]; rfl] at this
                have hgc : ∀ W, Keep (fun _ => False) w4.drew W → W.cell? ⟨w2.heap.size + 1, k, none⟩ = some (sl g) := fun W hW => by
                  have h9 : Blk W (w2.heap.size + 1) 28 (bi.map sl ++ nil8 bi.length) := Blk.keep (w := w4.drew) (har4.b2) hW (fun h => h)
                  rw [h9.cell, List.getElem?_append_left (by simp; omega), List.getElem?_map, hgk]; rfl
                unfold sl at hgc
                have hpc : ∀ W, Keep (fun _ => False) w4.drew W → W.cell? ⟨b, off + k, none⟩ = some (.slice pu bs.length cu) := fun W hW => by
                  rw [hW.cell (fun h => h) (show b < w4.drew.heap.size from Nat.lt_of_lt_of_le hblt hbel4.size)]
                  show w4.cell? _ = _
                  rw [hbel4.cell hblt]; exact HCU.out
                have hnu4 : IsNums .u8 w4.drew (.slice pu bs.length cu) bs := HNB.out.below (hbel4.trans ⟨rfl, rfl, rfl, Nat.le_refl _, fun _ _ => rfl⟩) (Nat.le_refl _)
                have HG := Lib.hid hgc
                have HP := Lib.hid hpc
                have HNU := Lib.hid hnu4
                have HBG := Lib.hid (show Blk w4.drew g 5 (B8 zeros) from hrow)
                have HD4 := Lib.hid h4
                have HM4 := Lib.hid hm4
                have HB4 := Lib.hid hbel4
                have HAR4 := Lib.hid har4
                have HGK := Lib.hid hgk
                have HV4 := Lib.hid hv4
                have hk8 : (k : Int) < 8 := by omega
                clear hgc hpc hnu4 hrow h4 hm4 hbel4 har4 hgk hv4 hk4 hset huns
                go_wp2_with fail
                refine regionE_begin 7 (fun W => Keep (fun _ => False) w4.drew W) (by kernel_rfl) ?_
                refine stepE_any 0 (some 87) (v := ?vc250) (fun _ => Keep.refl _ _) rfl (by rfl) (by kernel_rfl) (by kernel_rfl) (by kernel_rfl) (by decide) (fun _ _ _ h => h) (by rfl) ?yc250 ?nc250
                case yc250 => intro W; go_simp; try with_reducible rfl
                try simp only [Act.put, List.setIfInBounds_toArray, List.set_cons_zero, List.set_cons_succ]
                refine stepE_any 1 (some 88) (v := ?vc251) (fun _ => Keep.refl _ _) rfl (by rfl) (by kernel_rfl) (by kernel_rfl) (by kernel_rfl) (by decide) (fun _ _ _ h => h) (by rfl) ?yc251 ?nc251
                case yc251 => intro W; go_simp; try with_reducible rfl
                try simp only [Act.put, List.setIfInBounds_toArray, List.set_cons_zero, List.set_cons_succ]
                refine stepE_read 2 10 (some 89) (v := ?vc252) (Keep.refl _ _) rfl (by rfl) (by kernel_rfl) (by kernel_rfl) (by kernel_rfl) (by kernel_rfl) (by kernel_rfl) (fun _ _ _ h => h) (by rfl) ?yc252 ?nc252
                case yc252 => intro W hW; have q := HG.out W hW; go_simp; try with_reducible rfl
                try simp only [Act.put, List.setIfInBounds_toArray, List.set_cons_zero, List.set_cons_succ]
                refine stepE_any 3 (some 90) (v := ?vc253) (fun _ => Keep.refl _ _) rfl (by rfl) (by kernel_rfl) (by kernel_rfl) (by kernel_rfl) (by decide) (fun _ _ _ h => h) (by rfl) ?yc253 ?nc253
                case yc253 => intro W; go_simp; try with_reducible rfl
                try simp only [Act.put, List.setIfInBounds_toArray, List.set_cons_zero, List.set_cons_succ]
                refine stepE_any 4 (some 91) (v := ?vc254) (fun _ => Keep.refl _ _) rfl (by rfl) (by kernel_rfl) (by kernel_rfl) (by kernel_rfl) (by decide) (fun _ _ _ h => h) (by rfl) ?yc254 ?nc254
                case yc254 => intro W; go_simp; try with_reducible rfl
                try simp only [Act.put, List.setIfInBounds_toArray, List.set_cons_zero, List.set_cons_succ]
                refine stepE_any 5 (some 92) (v := ?vc255) (fun _ => Keep.refl _ _) rfl (by rfl) (by kernel_rfl) (by kernel_rfl) (by kernel_rfl) (by decide) (fun _ _ _ h => h) (by rfl) ?yc255 ?nc255
                case yc255 => intro W; go_simp; try with_reducible rfl
                try simp only [Act.put, List.setIfInBounds_toArray, List.set_cons_zero, List.set_cons_succ]
                refine stepE_read 6 10 (some 93) (v := ?vc256) (Keep.refl _ _) rfl (by rfl) (by kernel_rfl) (by kernel_rfl) (by kernel_rfl) (by kernel_rfl) (by kernel_rfl) (fun _ _ _ h => h) (by rfl) ?yc256 ?nc256
                case yc256 => intro W hW; have q := HP.out W hW; go_simp; try with_reducible rfl
                try simp only [Act.put, List.setIfInBounds_toArray, List.set_cons_zero, List.set_cons_succ]
                -- 7: builtin:copy -> 94
                refine stepE_end 7 rfl (by kernel_rfl) (by rfl) (by rfl) (fun K' hK => ?_)
                refine wp_copyB (HBG.out) (.tmp 89) (.tmp 93) 27 27 rfl 0 64 64 _ bs HNU.out (by omega) (by rw [B8_len]; simp [zeros]; omega) 5 Try.underlying27 (by kernel_rfl) (by rfl) (by rfl) (fun w5 hb5 hk5 => hK _ _ ?_)
                clear hK K'
                refine wpAnyE_done (by kernel_rfl) ?_ _
                rw [fill_pad bs (by omega)] at hb5
                have hgm : g ∈ w2.heap.size :: (w2.heap.size + 1) :: (bw ++ bi) := by simp [List.mem_of_getElem? HGK.out]
                have hkk : Keep (fun x => x = g) w4 w5 := (Keep.drew (fun x => x = g) w4).trans (hk5 _ rfl)
                have hfin : L3 w B S w2.heap.size (w2.heap.size + 1) bw bi (mixTo lsN SO (k + 1)) SO (padTo lsN (k + 1)) (unsTo lsN SO (k + 1)) w5 := by
                  refine ⟨⟨vu4, HD4.out.keep hkk ?_, HM4.out⟩, ?_, HB4.out.trans (hkk.below (fun x e => by rw [e]; exact HLO.out g hgm) HB4.out.size)⟩
                  · intro x hx e
                    subst e
                    exact HM4.out _ hgm hx
                  · have := HAR4.out.set2 k g (pad bs) HGK.out hkk hb5 (by rw [padTo_len]; omega)
                    rw [← HBS.out, padTo_set _ _ (by omega)] at this
                    exact this
                have HFIN := Lib.hid hfin
                clear hfin hkk hb5 hk5
                go_wp2
                go_roundw
                case rel => exact ⟨k + 1, by omega, by go_num, HFIN.out⟩
                case measure => simp [intOf]; omega
              · have h60I : (60 : Int) < bs.length := by omega
                go_wp2
                go_ret
                exact ⟨rfl, HBL.out⟩
            · obtain rfl : k = len1 := by omega
              obtain ⟨vu5, hd5, hm5⟩ := hst.disk
              have hbel5 := hst.below
              have har5 := hst.arrs
              have HD5 := Lib.hid hd5
              have HM5 := Lib.hid hm5
              have HBL5 := Lib.hid hbel5
              have HAR5 := Lib.hid har5
              clear hst hd5 hm5 hbel5 har5
              go_wp2_with fail
              refine (crash_any HD5.out mask torn m0 m1 t0 t1 (by rw [unsTo_len]; omega)).mono ?_
              rintro e w6 ⟨rfl, h6, hk6⟩
              have HMIX : Hid (∀ s ∈ mixTo lsN SO k, Sec s) := Lib.hid HD5.out.secs_ok
              have hcr := fun i hi => keeps_crash lsN SO k mask torn (by omega) hSOl i hi
              have hcl := crashed_len' (mixTo lsN SO k) (unsTo lsN SO k) mask torn
              rw [mixTo_len] at hcl
              obtain ⟨C, hC⟩ : ∃ C, crashed (mixTo lsN SO k) (unsTo lsN SO k) mask torn = C := ⟨_, rfl⟩
              rw [hC] at h6 hcr hcl
              have HD6 := Lib.hid h6
              have HAR6 := Lib.hid (HAR5.out.keep hk6 HM5.out)
              have HBL6 := Lib.hid (HBL5.out.trans (HD5.out.below hk6 HS.out HBL5.out.size))
              have HCR := Lib.hid hcr
              have HCL := Lib.hid hcl
              clear h6 hk6 hcr hcl hC HD5 HM5 HBL5 HAR5 hlt
              have hW6 : Below w6.heap.size w6 w6 := Below.refl _ _
              have HW6 := Lib.hid hW6
              clear hW6
              go_wp2
              go_loopw [15] (fun i wr => ∃ j : Nat, j ≤ 8 ∧ i = .int .i64 j ∧ Below w6.heap.size w6 wr) (fun i _ => 8 - (intOf i).toNat)
              case atStart => exact ⟨0, Nat.zero_le _, rfl, HW6.out⟩
              case round =>
                clear HW6
                obtain ⟨j, hj, rfl, hbl⟩ := hrel
                by_cases hj8 : j < 8
                · have hd7 := HD6.out.later hbl
                  have har7 := HAR6.out.keep (Keep.ofBelow (bad := fun _ => False) hbl) (fun _ _ h => h)
                  have HBL := Lib.hid (HBL6.out.trans (hbl.mono HBL6.out.size))
                  have HB6 := Lib.hid hbl
                  have hsec := sec_get hd7.secs_ok (show j < C.length by rw [HCL.out]; exact hj8)
                  have hcrj := HCR.out j hj8
                  obtain ⟨cj, hcj⟩ : ∃ cj, C.getD j [] = cj := ⟨_, rfl⟩
                  rw [hcj] at hsec
                  have hcj2 : C[j]? = some cj := by rw [← hcj]; simp [List.getD, show j < C.length by rw [HCL.out]; exact hj8]
                  rw [hcj2] at hcrj
                  obtain ⟨g1, hg1⟩ : ∃ g, bw[j]? = some g := ⟨bw[j]'(by omega), List.getElem?_eq_getElem _⟩
                  obtain ⟨g2, hg2⟩ : ∃ g, bi[j]? = some g := ⟨bi[j]'(by omega), List.getElem?_eq_getElem _⟩
                  have hr1 := har7.r1 j g1 hg1
                  have hr2 := har7.r2 j g2 hg2
                  have hA1 : wr.cell? ⟨w2.heap.size, j, none⟩ = some (sl g1) := by
                    rw [har7.b1.cell, List.getElem?_append_left (by simp; omega), List.getElem?_map, hg1]; rfl
                  have hA2 : wr.cell? ⟨w2.heap.size + 1, j, none⟩ = some (sl g2) := by
                    rw [har7.b2.cell, List.getElem?_append_left (by simp; omega), List.getElem?_map, hg2]; rfl
                  unfold sl at hA1 hA2
                  have hlA1 : w2.heap.size < wr.heap.size := har7.b1.lt
                  have hlA2 : w2.heap.size + 1 < wr.heap.size := har7.b2.lt
                  obtain ⟨so, hso⟩ : ∃ so, SO.getD j [] = so := ⟨_, rfl⟩
                  obtain ⟨sn, hsn⟩ : ∃ sn, (padTo lsN k).getD j [] = sn := ⟨_, rfl⟩
                  rw [hso] at hr1 hcrj
                  rw [hsn] at hr2
                  have hso2 : SO[j]? = some so := by rw [← hso]; simp [List.getD, show j < SO.length by omega]
                  rw [hso2] at hcrj
                  have hsn2 : j < k → pad (lsN.getD j []) = sn := fun h => by rw [← hsn]; simp only [List.getD]; rw [padTo_get _ _ _ hj8, if_pos h]; rfl
                  have hcr2 : cj = so ∨ (bit mask j = true ∧ j < k ∧ ∃ m, cj = sn.take m ++ so.drop m) := by
                    rcases hcrj with h | ⟨h1, h2, m, h3⟩
                    · exact .inl (Option.some.inj h)
                    · exact .inr ⟨h1, h2, m, by rw [← hsn2 h2]; exact Option.some.inj h3⟩
                  have hsoS : Sec so := HSO0.out _ (List.mem_of_getElem? hso2)
                  have hsnS : Sec sn := by
                    by_cases hjk0 : j < k
                    · rw [← hsn2 hjk0]
                      refine HMIX.out _ (List.mem_of_getElem? (i := j) ?_)
                      rw [mixTo_get _ _ _ _ hj8, if_pos hjk0]
                    · rw [← hsn]
                      simp only [List.getD]
                      rw [padTo_get _ _ _ hj8, if_neg hjk0]
                      exact Sec.zeros
                  have HC2 := Lib.hid hcr2
                  have HSEC := Lib.hid hsec
                  have HR1 := Lib.hid hr1
                  have HR2 := Lib.hid hr2
                  have HA1 := Lib.hid hA1
                  have HA2 := Lib.hid hA2
                  have HCJ := Lib.hid hcj
                  have HD7 := Lib.hid hd7
                  have HSOS := Lib.hid hsoS
                  have HSNS := Lib.hid hsnS
                  clear hd7 har7 hbl hsec hcrj hcj hcj2 hg1 hg2 hr1 hr2 hA1 hA2 hso hsn hso2 hsn2 hcr2 hsoS hsnS
                  have hjI : (j : Int) < 8 := by omega
                  go_wp2_with fail
                  refine (read_disk HD7.out j (by rw [HCL.out]; exact hj8)).mono ?_
                  rintro e w7 ⟨u7, rfl, hown, hb7⟩
                  rw [HCJ.out] at hown
                  obtain ⟨p7, c7, rfl⟩ := ownsRow_shape hown
                  obtain ⟨g, rfl, hlt7, hcs7⟩ : ∃ g, p7 = some ⟨g, 0, none⟩ ∧ g < w7.heap.size ∧ ∀ q x, cj[q]? = some x → w7.cell? ⟨g, q, none⟩ = some (.int .u8 x) := by
                    rcases hown.2 with ⟨_, e0⟩ | ⟨g, cap, cur, e1, hbg, hgg, hle, _⟩
                    · simp at e0
                    · injection e1 with e1 e2 e3
                      subst e1
                      refine ⟨g, rfl, (Array.getElem?_eq_some_iff.1 hgg).1, fun q x hq => ?_⟩
                      have := hown.cells (g := g) rfl q (.int .u8 x) (by rw [B8, List.getElem?_map, hq]; rfl)
                      rwa [Addr.add_lit, Nat.zero_add] at this
                  have hc64 : 64 ≤ c7 := by
                    rcases hown.2 with ⟨_, e0⟩ | ⟨g', cap, cur, e1, hbg, hgg, hle, _⟩
                    · simp at e0
                    · injection e1 with e1 e2 e3
                      omega
                  have HCS := Lib.hid hcs7
                  have HN7 := Lib.hid (IsNums.ofOwn (k := .u8) (zs := cj) hown)
                  have HR17 := Lib.hid (HR1.out.below hb7 HR1.out.lt)
                  have HR27 := Lib.hid (HR2.out.below hb7 HR2.out.lt)
                  have hA17 : w7.cell? ⟨w2.heap.size, j, none⟩ = some (.slice (some ⟨g1, 0, none⟩) 64 64) := by rw [hb7.cell hlA1]; exact HA1.out
                  have hA27 : w7.cell? ⟨w2.heap.size + 1, j, none⟩ = some (.slice (some ⟨g2, 0, none⟩) 64 64) := by rw [hb7.cell hlA2]; exact HA2.out
                  have HA17 := Lib.hid hA17
                  have HA27 := Lib.hid hA27
                  have hl7A1 : w2.heap.size < w7.heap.size := Nat.lt_of_lt_of_le hlA1 hb7.size
                  have hl7A2 : w2.heap.size + 1 < w7.heap.size := Nat.lt_of_lt_of_le hlA2 hb7.size
                  have HB7 := Lib.hid (HBL.out.trans (hb7.mono HBL.out.size))
                  have HB67 := Lib.hid (HB6.out.trans (hb7.mono HB6.out.size))
                  clear hown hcs7 hb7 hA17 hA27 HR1 HR2 HA1 HA2 HD7
                  by_cases hkj : k ≤ j
                  · have hkjI : (k : Int) ≤ j := by omega
                    have hcso : cj = so := by
                      rcases HC2.out with h | ⟨_, h, _⟩
                      · exact h
                      · omega
                    have hcv : ∀ W, Keep (fun _ => False) w7.drew W → (convert 27 9 (.slice (some ⟨g, 0, none⟩) 64 c7)).run Try.prog W = .ok (.string (strOfNums cj)) W := fun W hW =>
                      conv_str (P := Try.prog) (IsNums.keepAt (w := w7.drew) HN7.out hW (fun h => h)) 27 5 Try.underlying27 Try.underlying5 9 Try.underlying9
                    have hcv2 : ∀ W, Keep (fun _ => False) w7.drew W → (convert 27 9 (.slice (some ⟨g1, 0, none⟩) 64 64)).run Try.prog W = .ok (.string (strOfNums cj)) W := fun W hW => by
                      rw [hcso]
                      have hb : Blk W g1 5 (B8 so) := Blk.keep (w := w7.drew) HR17.out hW (fun h => h)
                      exact conv_str (P := Try.prog) (hb.nums 0 64 so 64 HSOS.out.1.symm (fun q hq => by rw [Nat.zero_add])) 27 5 Try.underlying27 Try.underlying5 9 Try.underlying9
                    have hca : ∀ W, Keep (fun _ => False) w7.drew W → W.cell? ⟨w2.heap.size, j, none⟩ = some (.slice (some ⟨g1, 0, none⟩) 64 64) := fun W hW => by
                      rw [hW.cell (fun h => h) (show w2.heap.size < w7.drew.heap.size from hl7A1)]; exact HA17.out
                    have HCV := Lib.hid hcv
                    have HCV2 := Lib.hid hcv2
                    have HCA := Lib.hid hca
                    clear hcv hcv2 hca hcso
                    go_wp2_with fail
                    refine regionE_begin 17 (fun W => Keep (fun _ => False) w7.drew W) (by kernel_rfl) ?_
                    refine stepE_any 0 (some 106) (v := ?vdA0) (fun _ => Keep.refl _ _) rfl (by rfl) (by kernel_rfl) (by kernel_rfl) (by kernel_rfl) (by decide) (fun _ _ _ h => h) (by rfl) ?ydA0 ?ndA0
                    case ydA0 => intro W; go_simp; try with_reducible rfl
                    try simp only [Act.put, List.setIfInBounds_toArray, List.set_cons_zero, List.set_cons_succ]
                    refine stepE_any 1 (some 107) (v := ?vdA1) (fun _ => Keep.refl _ _) rfl (by rfl) (by kernel_rfl) (by kernel_rfl) (by kernel_rfl) (by decide) (fun _ _ _ h => h) (by rfl) ?ydA1 ?ndA1
                    case ydA1 => intro W; go_simp; try with_reducible rfl
                    try simp only [Act.put, List.setIfInBounds_toArray, List.set_cons_zero, List.set_cons_succ]
                    refine stepE_any 2 (some 108) (v := ?vdA2) (fun _ => Keep.refl _ _) rfl (by rfl) (by kernel_rfl) (by kernel_rfl) (by kernel_rfl) (by decide) (fun _ _ _ h => h) (by rfl) ?ydA2 ?ndA2
                    case ydA2 => intro W; go_simp; try with_reducible rfl
                    try simp only [Act.put, List.setIfInBounds_toArray, List.set_cons_zero, List.set_cons_succ]
                    refine stepE_any 3 (some 109) (v := ?vdA3) (fun _ => Keep.refl _ _) rfl (by rfl) (by kernel_rfl) (by kernel_rfl) (by kernel_rfl) (by decide) (fun _ _ _ h => h) (by rfl) ?ydA3 ?ndA3
                    case ydA3 => intro W; go_simp; try with_reducible rfl
                    try simp only [Act.put, List.setIfInBounds_toArray, List.set_cons_zero, List.set_cons_succ]
                    refine stepE_any 4 (some 110) (v := ?vdA4) (fun _ => Keep.refl _ _) rfl (by rfl) (by kernel_rfl) (by kernel_rfl) (by kernel_rfl) (by decide) (fun _ _ _ h => h) (by rfl) ?ydA4 ?ndA4
                    case ydA4 => intro W; go_simp; try with_reducible rfl
                    try simp only [Act.put, List.setIfInBounds_toArray, List.set_cons_zero, List.set_cons_succ]
                    refine stepE_any 5 (some 111) (v := ?vdA5) (fun _ => Keep.refl _ _) rfl (by rfl) (by kernel_rfl) (by kernel_rfl) (by kernel_rfl) (by decide) (fun _ _ _ h => h) (by rfl) ?ydA5 ?ndA5
                    case ydA5 => intro W; go_simp; try with_reducible rfl
                    try simp only [Act.put, List.setIfInBounds_toArray, List.set_cons_zero, List.set_cons_succ]
                    refine stepE_any 6 (some 112) (v := ?vdA6) (fun _ => Keep.refl _ _) rfl (by rfl) (by kernel_rfl) (by kernel_rfl) (by kernel_rfl) (by decide) (fun _ _ _ h => h) (by rfl) ?ydA6 ?ndA6
                    case ydA6 => intro W; go_simp; try with_reducible rfl
                    try simp only [Act.put, List.setIfInBounds_toArray, List.set_cons_zero, List.set_cons_succ]
                    refine stepE_any 7 (some 113) (v := ?vdA7) (fun _ => Keep.refl _ _) rfl (by rfl) (by kernel_rfl) (by kernel_rfl) (by kernel_rfl) (by decide) (fun _ _ _ h => h) (by rfl) ?ydA7 ?ndA7
                    case ydA7 => intro W; go_simp; try with_reducible rfl
                    try simp only [Act.put, List.setIfInBounds_toArray, List.set_cons_zero, List.set_cons_succ]
                    refine stepE_any 8 (some 114) (v := ?vdA8) (fun _ => Keep.refl _ _) rfl (by rfl) (by kernel_rfl) (by kernel_rfl) (by kernel_rfl) (by decide) (fun _ _ _ h => h) (by rfl) ?ydA8 ?ndA8
                    case ydA8 => intro W; go_simp; try with_reducible rfl
                    try simp only [Act.put, List.setIfInBounds_toArray, List.set_cons_zero, List.set_cons_succ]
                    refine stepE_any 9 (some 115) (v := ?vdA9) (fun _ => Keep.refl _ _) rfl (by rfl) (by kernel_rfl) (by kernel_rfl) (by kernel_rfl) (by decide) (fun _ _ _ h => h) (by rfl) ?ydA9 ?ndA9
                    case ydA9 => intro W; go_simp; try with_reducible rfl
                    try simp only [Act.put, List.setIfInBounds_toArray, List.set_cons_zero, List.set_cons_succ]
                    refine stepE_read 10 20 (some 116) (v := ?vdA10) (Keep.refl _ _) rfl (by rfl) (by kernel_rfl) (by kernel_rfl) (by kernel_rfl) (by kernel_rfl) (by kernel_rfl) (fun _ _ _ h => h) (by rfl) ?ydA10 ?ndA10
                    case ydA10 => intro W hW; ((refine exec_conv 27 9 (.tmp 115) ?_ _ (.string (strOfNums cj)) ?_ (HCV.out W hW)); rfl; rfl)
                    try simp only [Act.put, List.setIfInBounds_toArray, List.set_cons_zero, List.set_cons_succ]
                    refine stepE_any 11 (some 117) (v := ?vdA11) (fun _ => Keep.refl _ _) rfl (by rfl) (by kernel_rfl) (by kernel_rfl) (by kernel_rfl) (by decide) (fun _ _ _ h => h) (by rfl) ?ydA11 ?ndA11
                    case ydA11 => intro W; go_simp; try with_reducible rfl
                    try simp only [Act.put, List.setIfInBounds_toArray, List.set_cons_zero, List.set_cons_succ]
                    refine stepE_any 12 (some 118) (v := ?vdA12) (fun _ => Keep.refl _ _) rfl (by rfl) (by kernel_rfl) (by kernel_rfl) (by kernel_rfl) (by decide) (fun _ _ _ h => h) (by rfl) ?ydA12 ?ndA12
                    case ydA12 => intro W; go_simp; try with_reducible rfl
                    try simp only [Act.put, List.setIfInBounds_toArray, List.set_cons_zero, List.set_cons_succ]
                    refine stepE_read 13 20 (some 119) (v := ?vdA13) (Keep.refl _ _) rfl (by rfl) (by kernel_rfl) (by kernel_rfl) (by kernel_rfl) (by kernel_rfl) (by kernel_rfl) (fun _ _ _ h => h) (by rfl) ?ydA13 ?ndA13
                    case ydA13 => intro W hW; have q := HCA.out W hW; go_simp; try with_reducible rfl
                    try simp only [Act.put, List.setIfInBounds_toArray, List.set_cons_zero, List.set_cons_succ]
                    refine stepE_read 14 20 (some 120) (v := ?vdA14) (Keep.refl _ _) rfl (by rfl) (by kernel_rfl) (by kernel_rfl) (by kernel_rfl) (by kernel_rfl) (by kernel_rfl) (fun _ _ _ h => h) (by rfl) ?ydA14 ?ndA14
                    case ydA14 => intro W hW; ((refine exec_conv 27 9 (.tmp 119) ?_ _ (.string (strOfNums cj)) ?_ (HCV2.out W hW)); rfl; rfl)
                    try simp only [Act.put, List.setIfInBounds_toArray, List.set_cons_zero, List.set_cons_succ]
                    refine stepE_any 15 (some 121) (v := ?vdA15) (fun _ => Keep.refl _ _) rfl (by rfl) (by kernel_rfl) (by kernel_rfl) (by kernel_rfl) (by decide) (fun _ _ _ h => h) (by rfl) ?ydA15 ?ndA15
                    case ydA15 => intro W; go_simp; try with_reducible rfl
                    try simp only [Act.put, List.setIfInBounds_toArray, List.set_cons_zero, List.set_cons_succ]
                    refine stepE_any 16 (some 122) (v := ?vdA16) (fun _ => Keep.refl _ _) rfl (by rfl) (by kernel_rfl) (by kernel_rfl) (by kernel_rfl) (by decide) (fun _ _ _ h => h) (by rfl) ?ydA16 ?ndA16
                    case ydA16 => intro W; go_simp; try with_reducible rfl
                    try simp only [Act.put, List.setIfInBounds_toArray, List.set_cons_zero, List.set_cons_succ]
                    -- 17: pick -> 123
                    refine stepE_end 17 rfl (by kernel_rfl) (by rfl) (by rfl) (fun K' hK => ?_)
                    go_simp
                    refine hK _ _ ?_
                    clear hK K'
                    refine wpAnyE_done (by kernel_rfl) ?_ _
                    go_wp2
                    have hW7 : Below w7.heap.size w7 w7.drew := ⟨rfl, rfl, rfl, Nat.le_refl _, fun _ _ => rfl⟩
                    have HW7 := Lib.hid hW7
                    clear hW7
                    go_loopw [17] (fun i wr => ∃ q : Nat, q ≤ 64 ∧ i = .int .i64 q ∧ Below w7.heap.size w7 wr) (fun i _ => 64 - (intOf i).toNat)
                    case atStart => exact ⟨0, Nat.zero_le _, rfl, HW7.out⟩
                    case round =>
                      clear HW7
                      obtain ⟨q, hq, rfl, hbq⟩ := hrel
                      by_cases hq64 : q < 64
                      · have hqI : (q : Int) < 64 := by omega
                        have hqc : (q : Int) < c7 := by omega
                        obtain ⟨x, hx⟩ : ∃ x, cj[q]? = some x := ⟨_, List.getElem?_eq_getElem (by rw [HSEC.out.1]; exact hq64)⟩
                        obtain ⟨y, hy⟩ : ∃ y, so[q]? = some y := ⟨_, List.getElem?_eq_getElem (by rw [HSOS.out.1]; exact hq64)⟩
                        obtain ⟨z, hz⟩ : ∃ z, sn[q]? = some z := ⟨_, List.getElem?_eq_getElem (by rw [HSNS.out.1]; exact hq64)⟩
                        have hxyz : x = y ∨ (x = z ∧ bit mask j = true ∧ j < k) := by
                          rcases HC2.out with h | ⟨h1, h2, m, h3⟩
                          · left; rw [h, hy] at hx; exact (Option.some.inj hx).symm
                          · by_cases hqm : q < m
                            · right
                              refine ⟨?_, h1, h2⟩
                              rw [h3, torn_new' _ _ m q hqm HSNS.out.1 hq64, hz] at hx
                              exact (Option.some.inj hx).symm
                            · left
                              rw [h3, torn_old' _ _ m q hqm HSOS.out.1 HSNS.out.1, hy] at hx
                              exact (Option.some.inj hx).symm
                        have hgq : wr.cell? ⟨g, q, none⟩ = some (.int .u8 x) := by rw [hbq.cell hlt7]; exact HCS.out q x hx
                        have hg1q : wr.cell? ⟨g1, q, none⟩ = some (.int .u8 y) := by rw [hbq.cell HR17.out.lt, HR17.out.cell, B8, List.getElem?_map, hy]; rfl
                        have hg2q : wr.cell? ⟨g2, q, none⟩ = some (.int .u8 z) := by rw [hbq.cell HR27.out.lt, HR27.out.cell, B8, List.getElem?_map, hz]; rfl
                        have hA1q : wr.cell? ⟨w2.heap.size, j, none⟩ = some (.slice (some ⟨g1, 0, none⟩) 64 64) := by rw [hbq.cell hl7A1]; exact HA17.out
                        have hA2q : wr.cell? ⟨w2.heap.size + 1, j, none⟩ = some (.slice (some ⟨g2, 0, none⟩) 64 64) := by rw [hbq.cell hl7A2]; exact HA27.out
                        have HBQ := Lib.hid hbq
                        clear hx hy hz hbq
                        by_cases hxy : x = y
                        · subst hxy
                          clear hxyz hg2q hA2q
                          go_wp2_with fail
                          go_quiet (fail)
                          go_wp2
                          go_roundw
                          case rel => exact ⟨q + 1, by omega, by go_num, HBQ.out.trans ⟨rfl, rfl, rfl, Nat.le_refl _, fun _ _ => rfl⟩⟩
                          case measure => simp [intOf]; omega
                        · obtain ⟨rfl, hbit, hjk⟩ : x = z ∧ bit mask j = true ∧ j < k := by
                            rcases hxyz with h | h
                            · exact absurd h hxy
                            · exact h
                          exfalso; omega
                      · obtain rfl : q = 64 := by omega
                        have HBQ := Lib.hid (HB67.out.trans (hbq.mono HB67.out.size))
                        clear hbq
                        go_wp2
                        go_roundw
                        case rel => exact ⟨j + 1, by omega, by go_num, HBQ.out⟩
                        case measure => simp [intOf]; omega
                  · have hkjI : ¬ ((k : Int) ≤ j) := by omega
                    go_wp2_with fail
                    refine regionE_begin 17 (fun W => Keep (fun _ => False) w7.drew W) (by kernel_rfl) ?_
                    refine stepE_any 0 (some 106) (v := ?vdB0) (fun _ => Keep.refl _ _) rfl (by rfl) (by kernel_rfl) (by kernel_rfl) (by kernel_rfl) (by decide) (fun _ _ _ h => h) (by rfl) ?ydB0 ?ndB0
                    case ydB0 => intro W; go_simp; try with_reducible rfl
                    try simp only [Act.put, List.setIfInBounds_toArray, List.set_cons_zero, List.set_cons_succ]
                    refine stepE_any 1 (some 107) (v := ?vdB1) (fun _ => Keep.refl _ _) rfl (by rfl) (by kernel_rfl) (by kernel_rfl) (by kernel_rfl) (by decide) (fun _ _ _ h => h) (by rfl) ?ydB1 ?ndB1
                    case ydB1 => intro W; go_simp; try with_reducible rfl
                    try simp only [Act.put, List.setIfInBounds_toArray, List.set_cons_zero, List.set_cons_succ]
                    refine stepE_any 2 (some 108) (v := ?vdB2) (fun _ => Keep.refl _ _) rfl (by rfl) (by kernel_rfl) (by kernel_rfl) (by kernel_rfl) (by decide) (fun _ _ _ h => h) (by rfl) ?ydB2 ?ndB2
                    case ydB2 => intro W; go_simp; try with_reducible rfl
                    try simp only [Act.put, List.setIfInBounds_toArray, List.set_cons_zero, List.set_cons_succ]
                    refine stepE_any 3 (some 109) (v := ?vdB3) (fun _ => Keep.refl _ _) rfl (by rfl) (by kernel_rfl) (by kernel_rfl) (by kernel_rfl) (by decide) (fun _ _ _ h => h) (by rfl) ?ydB3 ?ndB3
                    case ydB3 => intro W; go_simp; try with_reducible rfl
                    try simp only [Act.put, List.setIfInBounds_toArray, List.set_cons_zero, List.set_cons_succ]
                    refine stepE_any 4 (some 110) (v := ?vdB4) (fun _ => Keep.refl _ _) rfl (by rfl) (by kernel_rfl) (by kernel_rfl) (by kernel_rfl) (by decide) (fun _ _ _ h => h) (by rfl) ?ydB4 ?ndB4
                    case ydB4 => intro W; go_simp; try with_reducible rfl
                    try simp only [Act.put, List.setIfInBounds_toArray, List.set_cons_zero, List.set_cons_succ]
                    refine stepE_any 5 (some 111) (v := ?vdB5) (fun _ => Keep.refl _ _) rfl (by rfl) (by kernel_rfl) (by kernel_rfl) (by kernel_rfl) (by decide) (fun _ _ _ h => h) (by rfl) ?ydB5 ?ndB5
                    case ydB5 => intro W; go_simp; try with_reducible rfl
                    try simp only [Act.put, List.setIfInBounds_toArray, List.set_cons_zero, List.set_cons_succ]
                    refine stepE_any 6 (some 112) (v := ?vdB6) (fun _ => Keep.refl _ _) rfl (by rfl) (by kernel_rfl) (by kernel_rfl) (by kernel_rfl) (by decide) (fun _ _ _ h => h) (by rfl) ?ydB6 ?ndB6
                    case ydB6 => intro W; go_simp; try with_reducible rfl
                    try simp only [Act.put, List.setIfInBounds_toArray, List.set_cons_zero, List.set_cons_succ]
                    refine stepE_any 7 (some 113) (v := ?vdB7) (fun _ => Keep.refl _ _) rfl (by rfl) (by kernel_rfl) (by kernel_rfl) (by kernel_rfl) (by decide) (fun _ _ _ h => h) (by rfl) ?ydB7 ?ndB7
                    case ydB7 => intro W; go_simp; try with_reducible rfl
                    try simp only [Act.put, List.setIfInBounds_toArray, List.set_cons_zero, List.set_cons_succ]
                    refine stepE_any 8 (some 114) (v := ?vdB8) (fun _ => Keep.refl _ _) rfl (by rfl) (by kernel_rfl) (by kernel_rfl) (by kernel_rfl) (by decide) (fun _ _ _ h => h) (by rfl) ?ydB8 ?ndB8
                    case ydB8 => intro W; go_simp; try with_reducible rfl
                    try simp only [Act.put, List.setIfInBounds_toArray, List.set_cons_zero, List.set_cons_succ]
                    refine stepE_skip 9 (some 115) (fun _ => Keep.refl _ _) rfl (by rfl) (by kernel_rfl) (by kernel_rfl) (by kernel_rfl) (by decide) (fun _ _ _ h => h) (by rfl) ?_
                    try simp only [Act.put, List.setIfInBounds_toArray, List.set_cons_zero, List.set_cons_succ]
                    refine stepE_skip 10 (some 116) (fun _ => Keep.refl _ _) rfl (by rfl) (by kernel_rfl) (by kernel_rfl) (by kernel_rfl) (by decide) (fun _ _ _ h => h) (by rfl) ?_
                    try simp only [Act.put, List.setIfInBounds_toArray, List.set_cons_zero, List.set_cons_succ]
                    refine stepE_skip 11 (some 117) (fun _ => Keep.refl _ _) rfl (by rfl) (by kernel_rfl) (by kernel_rfl) (by kernel_rfl) (by decide) (fun _ _ _ h => h) (by rfl) ?_
                    try simp only [Act.put, List.setIfInBounds_toArray, List.set_cons_zero, List.set_cons_succ]
                    refine stepE_skip 12 (some 118) (fun _ => Keep.refl _ _) rfl (by rfl) (by kernel_rfl) (by kernel_rfl) (by kernel_rfl) (by decide) (fun _ _ _ h => h) (by rfl) ?_
                    try simp only [Act.put, List.setIfInBounds_toArray, List.set_cons_zero, List.set_cons_succ]
                    refine stepE_skip 13 (some 119) (fun _ => Keep.refl _ _) rfl (by rfl) (by kernel_rfl) (by kernel_rfl) (by kernel_rfl) (by decide) (fun _ _ _ h => h) (by rfl) ?_
                    try simp only [Act.put, List.setIfInBounds_toArray, List.set_cons_zero, List.set_cons_succ]
                    refine stepE_skip 14 (some 120) (fun _ => Keep.refl _ _) rfl (by rfl) (by kernel_rfl) (by kernel_rfl) (by kernel_rfl) (by decide) (fun _ _ _ h => h) (by rfl) ?_
                    try simp only [Act.put, List.setIfInBounds_toArray, List.set_cons_zero, List.set_cons_succ]
                    refine stepE_skip 15 (some 121) (fun _ => Keep.refl _ _) rfl (by rfl) (by kernel_rfl) (by kernel_rfl) (by kernel_rfl) (by decide) (fun _ _ _ h => h) (by rfl) ?_
                    try simp only [Act.put, List.setIfInBounds_toArray, List.set_cons_zero, List.set_cons_succ]
                    refine stepE_any 16 (some 122) (v := ?vdB16) (fun _ => Keep.refl _ _) rfl (by rfl) (by kernel_rfl) (by kernel_rfl) (by kernel_rfl) (by decide) (fun _ _ _ h => h) (by rfl) ?ydB16 ?ndB16
                    case ydB16 => intro W; go_simp; try with_reducible rfl
                    try simp only [Act.put, List.setIfInBounds_toArray, List.set_cons_zero, List.set_cons_succ]
                    -- 17: pick -> 123
                    refine stepE_end 17 rfl (by kernel_rfl) (by rfl) (by rfl) (fun K' hK => ?_)
                    go_simp
                    refine hK _ _ ?_
                    clear hK K'
                    refine wpAnyE_done (by kernel_rfl) ?_ _
                    go_wp2
                    have hW7 : Below w7.heap.size w7 w7.drew := ⟨rfl, rfl, rfl, Nat.le_refl _, fun _ _ => rfl⟩
                    have HW7 := Lib.hid hW7
                    clear hW7
                    go_loopw [17] (fun i wr => ∃ q : Nat, q ≤ 64 ∧ i = .int .i64 q ∧ Below w7.heap.size w7 wr) (fun i _ => 64 - (intOf i).toNat)
                    case atStart => exact ⟨0, Nat.zero_le _, rfl, HW7.out⟩
                    case round =>
                      clear HW7
                      obtain ⟨q, hq, rfl, hbq⟩ := hrel
                      by_cases hq64 : q < 64
                      · have hqI : (q : Int) < 64 := by omega
                        have hqc : (q : Int) < c7 := by omega
                        obtain ⟨x, hx⟩ : ∃ x, cj[q]? = some x := ⟨_, List.getElem?_eq_getElem (by rw [HSEC.out.1]; exact hq64)⟩
                        obtain ⟨y, hy⟩ : ∃ y, so[q]? = some y := ⟨_, List.getElem?_eq_getElem (by rw [HSOS.out.1]; exact hq64)⟩
                        obtain ⟨z, hz⟩ : ∃ z, sn[q]? = some z := ⟨_, List.getElem?_eq_getElem (by rw [HSNS.out.1]; exact hq64)⟩
                        have hxyz : x = y ∨ (x = z ∧ bit mask j = true ∧ j < k) := by
                          rcases HC2.out with h | ⟨h1, h2, m, h3⟩
                          · left; rw [h, hy] at hx; exact (Option.some.inj hx).symm
                          · by_cases hqm : q < m
                            · right
                              refine ⟨?_, h1, h2⟩
                              rw [h3, torn_new' _ _ m q hqm HSNS.out.1 hq64, hz] at hx
                              exact (Option.some.inj hx).symm
                            · left
                              rw [h3, torn_old' _ _ m q hqm HSOS.out.1 HSNS.out.1, hy] at hx
                              exact (Option.some.inj hx).symm
                        have hgq : wr.cell? ⟨g, q, none⟩ = some (.int .u8 x) := by rw [hbq.cell hlt7]; exact HCS.out q x hx
                        have hg1q : wr.cell? ⟨g1, q, none⟩ = some (.int .u8 y) := by rw [hbq.cell HR17.out.lt, HR17.out.cell, B8, List.getElem?_map, hy]; rfl
                        have hg2q : wr.cell? ⟨g2, q, none⟩ = some (.int .u8 z) := by rw [hbq.cell HR27.out.lt, HR27.out.cell, B8, List.getElem?_map, hz]; rfl
                        have hA1q : wr.cell? ⟨w2.heap.size, j, none⟩ = some (.slice (some ⟨g1, 0, none⟩) 64 64) := by rw [hbq.cell hl7A1]; exact HA17.out
                        have hA2q : wr.cell? ⟨w2.heap.size + 1, j, none⟩ = some (.slice (some ⟨g2, 0, none⟩) 64 64) := by rw [hbq.cell hl7A2]; exact HA27.out
                        have HBQ := Lib.hid hbq
                        clear hx hy hz hbq
                        by_cases hxy : x = y
                        · subst hxy
                          clear hxyz hg2q hA2q
                          go_wp2_with fail
                          go_quiet (fail)
                          go_wp2
                          go_roundw
                          case rel => exact ⟨q + 1, by omega, by go_num, HBQ.out.trans ⟨rfl, rfl, rfl, Nat.le_refl _, fun _ _ => rfl⟩⟩
                          case measure => simp [intOf]; omega
                        · obtain ⟨rfl, hbit, hjk⟩ : x = z ∧ bit mask j = true ∧ j < k := by
                            rcases hxyz with h | h
                            · exact absurd h hxy
                            · exact h
                          have hxy2 : (x == y) = false := by rw [beq_eq_false_iff_ne]; exact hxy
                          have hxy3 : (x != y) = true := by rw [bne, hxy2]; rfl
                          have hjkI : ¬ ((k : Int) ≤ j) := by omega
                          have hj64 : (j : Int) ≤ 64 := by omega
                          have hq0 : 0 ≤ mask / 2 ^ j := Int.ediv_nonneg m0 (by exact Int.le_of_lt (Int.pow_pos (by omega)))
                          have hq1 : mask / 2 ^ j < 18446744073709551616 := by
                            have h1 : mask / 2 ^ j ≤ mask := Int.ediv_le_self _ m0
                            omega
                          have hand := u64_and1 (mask / 2 ^ j) hq0 hq1
                          have hc1 : bits .and .u64 (mask / 2 ^ j) 1 = 1 := by rw [hand]; simpa [bit] using hbit
                          clear hxyz hxy hq0 hq1 hand hbit
                          go_wp2_with fail
                          go_quiet (fail)
                          go_wp2
                          go_roundw
                          case rel => exact ⟨q + 1, by omega, by go_num, HBQ.out.trans ⟨rfl, rfl, rfl, Nat.le_refl _, fun _ _ => rfl⟩⟩
                          case measure => simp [intOf]; omega
                      · obtain rfl : q = 64 := by omega
                        have HBQ := Lib.hid (HB67.out.trans (hbq.mono HB67.out.size))
                        clear hbq
                        go_wp2
                        go_roundw
                        case rel => exact ⟨j + 1, by omega, by go_num, HBQ.out⟩
                        case measure => simp [intOf]; omega
                · obtain rfl : j = 8 := by omega
                  have hd7 := HD6.out.later hbl
                  have HB7 := Lib.hid (HBL6.out.trans (hbl.mono HBL6.out.size))
                  have HD7 := Lib.hid hd7
                  clear hbl hd7
                  go_wp2_with fail
                  refine (crash_any HD7.out mask torn m0 m1 t0 t1 (by simp)).mono ?_
                  rintro e w8 ⟨rfl, h8, hk8⟩
                  have HB8 := Lib.hid (HB7.out.trans (HD7.out.below hk8 HS.out HB7.out.size))
                  have HD8 := Lib.hid h8
                  clear h8 hk8
                  go_wp2_with (go_at_call 20; ((with_reducible refine (dead_disk HD8.out).mono ?_); rintro en w' ⟨rfl, rfl⟩))
                  go_ret
                  exact ⟨rfl, HB8.out⟩

theorem keeps_walk (a0 : Option Addr) (len0 cap0 : Nat) (lsO : List (List Int)) (a1 : Option Addr) (len1 cap1 : Nat) (lsN : List (List Int)) (mask torn : Int) (w : World) (hO : IsLists w (.slice a0 len0 cap0) lsO) (lO : lsO.length = len0) (fO : ∀ j, j < lsO.length → ∀ y ∈ lsO.getD j [], 0 ≤ y ∧ y ≤ 255)
    (hN : IsLists w (.slice a1 len1 cap1) lsN) (lN : lsN.length = len1) (fN : ∀ j, j < lsN.length → ∀ y ∈ lsN.getD j [], 0 ≤ y ∧ y ≤ 255) (m0 : 0 ≤ mask) (m1 : mask ≤ 18446744073709551615) (t0 : -9223372036854775808 ≤ torn) (t1 : torn ≤ 9223372036854775807) :
    Calls Try.prog 3 #[.slice a0 len0 cap0, .slice a1 len1 cap1, .int .u64 mask, .int .i64 torn] w fun e w' => e = .returned (.bool true) ∧ Below w.heap.size w w' := by
  by_cases h : 8 < len0 ∨ 8 < len1
  · exact keeps_long a0 len0 cap0 a1 len1 cap1 mask torn w h
  · exact keeps_short a0 len0 cap0 lsO a1 len1 cap1 lsN mask torn w hO lO fO hN lN fN m0 m1 t0 t1 (by omega) (by omega)
end Go.Proofs.Ytnjmlkohgbbafaa.K
