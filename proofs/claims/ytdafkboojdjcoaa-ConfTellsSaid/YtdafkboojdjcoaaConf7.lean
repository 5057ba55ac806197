/- The walk of ConfSteps: it returns true, and writes nothing that was there. -/
import Derived.Test.YtdafkboojdjcoaaConf6
namespace Go.Proofs.Ytdafkboojdjcoaa.K
open Go.ChangeShapes Go.WideShapes Go.ChangeAt Go.RowKit Go.Sort
set_option linter.unusedVariables false

def withL (M : List Int) (k : Int) : List Int := canon (canon M ++ [k])
def outL (M : List Int) (k : Int) : List Int := (canon M).filter fun x => decide (x ≠ k)
def stepsOK (M : List Int) (k : Int) : Bool :=
  (withL M k).contains k && !(outL M k).contains k && decide ((withL M k).length = (outL M k).length + 1) &&
  (if M.contains k then decide (withL M k = M) && decide (withL (outL M k) k = M)
   else decide (outL M k = M) && decide (outL (withL M k) k = M) && rightB (withL M k))
def bitsF (b0 b1 b2 b3 b4 b5 b6 : Bool) (n : Int) : Bool :=
  if n = 0 then b0 else if n = 1 then b1 else if n = 2 then b2 else if n = 3 then b3 else if n = 4 then b4 else if n = 5 then b5 else b6
theorem steps_all : ∀ (b0 b1 b2 b3 b4 b5 b6 : Bool) (k : Fin 7), stepsOK (([0, 1, 2, 3, 4, 5, 6] : List Int).filter (bitsF b0 b1 b2 b3 b4 b5 b6)) (k.val : Int) = true := by decide +kernel
theorem canon_bits (l : List Int) : canon l = ([0, 1, 2, 3, 4, 5, 6] : List Int).filter (bitsF (l.contains 0) (l.contains 1) (l.contains 2) (l.contains 3) (l.contains 4) (l.contains 5) (l.contains 6)) := by
  unfold canon
  refine List.filter_congr ?_
  intro x hx
  simp only [List.mem_cons, List.not_mem_nil, or_false] at hx
  rcases hx with rfl | rfl | rfl | rfl | rfl | rfl | rfl <;> rfl
theorem steps_ok (l : List Int) (k : Int) (k0 : 0 ≤ k) (k7 : k < 7) : stepsOK (canon l) k = true := by
  rw [canon_bits]
  have := steps_all (l.contains 0) (l.contains 1) (l.contains 2) (l.contains 3) (l.contains 4) (l.contains 5) (l.contains 6) ⟨k.toNat, by omega⟩
  rw [show ((⟨k.toNat, by omega⟩ : Fin 7).val : Int) = k by show ((k.toNat : Nat) : Int) = k; omega] at this
  exact this
theorem outL_len (M : List Int) (k : Int) : (outL M k).length ≤ 7 := Nat.le_trans (List.length_filter_le _ _) (canon_len M)
theorem withL_len (M : List Int) (k : Int) : (withL M k).length ≤ 7 := canon_len _

set_option maxRecDepth 100000 in
set_option maxHeartbeats 4000000 in
theorem steps_walk (v0 : Value) (z : List Int) (a1 : Int) (w : World) (h0 : IsNums .u8 w v0 z) (f0 : ∀ j, j < z.length → 0 ≤ z.getD j 0 ∧ z.getD j 0 ≤ 255) (m0 : z.length ≤ maxLen) (l1 : 0 ≤ a1) (u1 : a1 ≤ 255) :
    Calls Try.prog 5 #[v0, .int .u8 a1] w fun e w' => e = .returned (.bool true) ∧ Below w.heap.size w w' := by
  unfold maxLen at m0
  obtain ⟨p0, c0, rfl, -⟩ := id h0
  have H0 := Lib.hid h0
  have F0 := Lib.hid f0
  clear h0 f0
  by_cases q1 : 10 < z.length
  · go_enter Try.func5, Try.ntmps5
    go_wp2_with (go_at_call 7; refine (known_true _).mono ?_; rintro e v ⟨rfl, hb⟩)
    go_ret
    exact ⟨rfl, hb⟩
  go_enter Try.func5, Try.ntmps5
  go_wp2_with fail
  refine (known_true _).mono ?_
  rintro e w1 ⟨rfl, hb1⟩
  have H1 := Lib.hid (H0.out.below hb1 (Nat.le_refl _))
  go_wp2_with fail
  refine (ints_is _ z _ H1.out F0.out (by omega)).mono ?_
  rintro e w2 ⟨p2, c2, rfl, hL, hb2⟩
  have hB2 := hb1.trans (hb2.mono hb1.size)
  have hlen := sevens_len z
  have hok := steps_ok (sevens z) (a1 % 7) (by omega) (by omega)
  have HL := Lib.hid hL
  obtain ⟨M, hM⟩ : ∃ M, canon (sevens z) = M := ⟨_, rfl⟩
  have hMl : M.length ≤ 7 := by rw [← hM]; exact canon_len _
  rw [hM] at hok
  have HM := Lib.hid hM
  clear hb1 hb2 hL hM H0 H1 F0
  go_wp2_with fail
  refine (of_is _ (sevens z) _ HL.out (by omega) M M.length HM.out rfl).mono ?_
  rintro e w3 ⟨p3, c3, rfl, hM3, hb3⟩
  have hB3 := hB2.trans (hb3.mono hB2.size)
  have HM3 := Lib.hid hM3
  clear hM3 hb3 hB2 HL HM hlen
  have hwl := withL_len M (a1 % 7)
  have hol := outL_len M (a1 % 7)
  obtain ⟨W, hW⟩ : ∃ W, withL M (a1 % 7) = W := ⟨_, rfl⟩
  obtain ⟨O, hO⟩ : ∃ O, outL M (a1 % 7) = O := ⟨_, rfl⟩
  unfold stepsOK at hok
  rw [hW, hO] at hok
  rw [hW] at hwl
  rw [hO] at hol
  have HW := Lib.hid hW
  have HO := Lib.hid hO
  simp only [Bool.and_eq_true, Bool.not_eq_true', decide_eq_true_eq] at hok
  obtain ⟨⟨⟨g1, g2⟩, g3⟩, g4⟩ := hok
  have G1 := Lib.hid g1
  have G2 := Lib.hid g2
  have G3 := Lib.hid g3
  have G4 := Lib.hid g4
  clear g1 g2 g4 hW hO
  go_wp2_with fail
  refine (with_is _ M (a1 % 7) _ HM3.out (by omega) W (O.length + 1) HW.out G3.out).mono ?_
  rintro e w4 ⟨p4, c4, rfl, hW4, hb4⟩
  have hB4 := hB3.trans (hb4.mono hB3.size)
  have HM4 := Lib.hid (HM3.out.below hb4 (Nat.le_refl _))
  have HW4 := Lib.hid hW4
  clear hW4 hb4 hB3 HM3
  go_wp2_with fail
  refine (without_is _ M (a1 % 7) _ HM4.out (by omega) O O.length HO.out rfl).mono ?_
  rintro e w5 ⟨p5, c5, rfl, hO5, hb5⟩
  have hB5 := hB4.trans (hb5.mono hB4.size)
  have HM5 := Lib.hid (HM4.out.below hb5 (Nat.le_refl _))
  have HW5 := Lib.hid (HW4.out.below hb5 (Nat.le_refl _))
  have HO5 := Lib.hid hO5
  clear hO5 hb5 hB4 HM4 HW4
  go_wp2_with fail
  refine (has_is _ W (a1 % 7) _ HW5.out (by omega) true G1.out).mono ?_
  rintro e w' ⟨rfl, rfl⟩
  go_wp2_with fail
  refine (has_is _ O (a1 % 7) _ HO5.out (by omega) false G2.out).mono ?_
  rintro e w' ⟨rfl, rfl⟩
  clear g3
  cases hin : M.contains (a1 % 7) with
  | true =>
    have HI := Lib.hid hin
    have g4 := G4.out
    rw [hin, if_pos rfl] at g4
    simp only [Bool.and_eq_true, decide_eq_true_eq] at g4
    have G5 := Lib.hid g4.1
    have G6 := Lib.hid g4.2
    clear hin g4
    go_wp2_with fail
    refine (has_is _ M (a1 % 7) _ HM5.out (by omega) true HI.out).mono ?_
    rintro e w' ⟨rfl, rfl⟩
    go_wp2_with fail
    refine (same_is _ _ W M _ HW5.out HM5.out (by omega) (by omega) true (by rw [G5.out]; simp)).mono ?_
    rintro e w6 ⟨rfl, hb6⟩
    have hB6 := hB5.trans (hb6.mono hB5.size)
    have HM6 := Lib.hid (HM5.out.below hb6 (Nat.le_refl _))
    have HO6 := Lib.hid (HO5.out.below hb6 (Nat.le_refl _))
    clear hb6 hB5 HM5 HO5 HW5
    go_wp2_with fail
    refine (with_is _ O (a1 % 7) _ HO6.out (by omega) M M.length G6.out rfl).mono ?_
    rintro e w7 ⟨p7, c7, rfl, hM7, hb7⟩
    have hB7 := hB6.trans (hb7.mono hB6.size)
    have HM7 := Lib.hid (HM6.out.below hb7 (Nat.le_refl _))
    have HN7 := Lib.hid hM7
    clear hb7 hM7 hB6 HM6 HO6
    go_wp2_with fail
    refine (same_is _ _ M M _ HN7.out HM7.out (by omega) (by omega) true (by simp)).mono ?_
    rintro e w8 ⟨rfl, hb8⟩
    have hB8 := hB7.trans (hb8.mono hB7.size)
    clear hb8 hB7
    go_wp2
    go_ret
    exact ⟨rfl, hB8⟩
  | false =>
    have HI := Lib.hid hin
    have g4 := G4.out
    rw [hin, if_neg (by simp)] at g4
    simp only [Bool.and_eq_true, decide_eq_true_eq] at g4
    have G5 := Lib.hid g4.1.1
    have G6 := Lib.hid g4.1.2
    have G7 := Lib.hid g4.2
    clear hin g4
    go_wp2_with fail
    refine (has_is _ M (a1 % 7) _ HM5.out (by omega) false HI.out).mono ?_
    rintro e w' ⟨rfl, rfl⟩
    go_wp2_with fail
    refine (same_is _ _ O M _ HO5.out HM5.out (by omega) (by omega) true (by rw [G5.out]; simp)).mono ?_
    rintro e w6 ⟨rfl, hb6⟩
    have hB6 := hB5.trans (hb6.mono hB5.size)
    have HM6 := Lib.hid (HM5.out.below hb6 (Nat.le_refl _))
    have HW6 := Lib.hid (HW5.out.below hb6 (Nat.le_refl _))
    clear hb6 hB5 HM5 HO5 HW5
    go_wp2_with fail
    refine (without_is _ W (a1 % 7) _ HW6.out (by omega) M M.length G6.out rfl).mono ?_
    rintro e w7 ⟨p7, c7, rfl, hM7, hb7⟩
    have hB7 := hB6.trans (hb7.mono hB6.size)
    have HM7 := Lib.hid (HM6.out.below hb7 (Nat.le_refl _))
    have HW7 := Lib.hid (HW6.out.below hb7 (Nat.le_refl _))
    have HN7 := Lib.hid hM7
    clear hb7 hM7 hB6 HM6 HW6
    go_wp2_with fail
    refine (same_is _ _ M M _ HN7.out HM7.out (by omega) (by omega) true (by simp)).mono ?_
    rintro e w8 ⟨rfl, hb8⟩
    have hB8 := hB7.trans (hb8.mono hB7.size)
    have HW8 := Lib.hid (HW7.out.below hb8 (Nat.le_refl _))
    clear hb8 hB7
    go_wp2_with fail
    refine (right_is _ W _ HW8.out (by omega) true G7.out).mono ?_
    rintro e w' ⟨rfl, rfl⟩
    go_wp2
    go_ret
    exact ⟨rfl, hB8⟩

end Go.Proofs.Ytdafkboojdjcoaa.K
