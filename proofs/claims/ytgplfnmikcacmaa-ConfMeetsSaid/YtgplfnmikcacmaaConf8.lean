/- The walk of ConfMeets: it returns true, and writes nothing that was there. -/
import Derived.Test.YtgplfnmikcacmaaConf7
namespace Go.Proofs.Ytgplfnmikcacmaa.K
open Go.ChangeShapes Go.WideShapes Go.ChangeAt Go.RowKit Go.Sort
set_option linter.unusedVariables false

/-- Whether x and y have one in common. -/
def meetB (x y : List Int) : Bool := x.any fun n => y.contains n

theorem votes_sum (O x y : List Int) (hd : meetB x y = false) : votes O x + votes O y ≤ O.length := by
  unfold votes
  induction O with
  | nil => simp
  | cons n O ih =>
    have hno : ¬ (x.contains n = true ∧ y.contains n = true) := by
      rintro ⟨h1, h2⟩
      unfold meetB at hd
      rw [List.any_eq_false] at hd
      have := hd n (by simpa using h1)
      simp at this h2
      exact this h2
    simp only [List.filter_cons]
    cases h1 : x.contains n <;> cases h2 : y.contains n
    · simp only [Bool.false_eq_true, if_false]; simp only [List.length_cons]; omega
    · simp only [Bool.false_eq_true, if_false, if_true]; simp only [List.length_cons]; omega
    · simp only [Bool.false_eq_true, if_false, if_true]; simp only [List.length_cons]; omega
    · exact absurd ⟨h1, h2⟩ hno

/-- Of one list that is part of another, the votes. -/
theorem votes_sub {A B x : List Int} (h : A.Sublist B) : votes A x ≤ votes B x := by
  unfold votes
  exact (h.filter _).length_le

theorem meets_one (l x y : List Int) (hd : meetB x y = false) : ¬ ((canon l).length < 2 * votes (canon l) x ∧ (canon l).length < 2 * votes (canon l) y) := by
  have := votes_sum (canon l) x y hd
  omega

/-- Two lists one apart: both parts of one that is longer by one at most. -/
theorem meets_apart (A B : List Int) (x y : List Int) (hd : meetB x y = false) (hs : A.Sublist B) (hl : B.length ≤ A.length + 1) :
    ¬ (A.length < 2 * votes A x ∧ B.length < 2 * votes B y) ∧ ¬ (B.length < 2 * votes B x ∧ A.length < 2 * votes A y) := by
  have h1 := votes_sum B x y hd
  have h2 := votes_sub (x := x) hs
  have h3 := votes_sub (x := y) hs
  have h4 := hs.length_le
  omega

def apartOK (M : List Int) (k : Int) : Bool :=
  decide (canon M = M) && decide (canon (canon (M ++ [k])) = canon (M ++ [k])) && M.isSublist (canon (M ++ [k])) && decide ((canon (M ++ [k])).length ≤ M.length + 1) &&
  decide (canon (M.filter fun x => decide (x ≠ k)) = M.filter fun x => decide (x ≠ k)) && (M.filter fun x => decide (x ≠ k)).isSublist M && decide (M.length ≤ (M.filter fun x => decide (x ≠ k)).length + 1)
theorem apart_all : ∀ (b0 b1 b2 b3 b4 b5 b6 : Bool) (k : Fin 7), apartOK (([0, 1, 2, 3, 4, 5, 6] : List Int).filter (bitsF b0 b1 b2 b3 b4 b5 b6)) (k.val : Int) = true := by decide +kernel
theorem apart_ok (l : List Int) (k : Int) (k0 : 0 ≤ k) (k7 : k < 7) : apartOK (canon l) k = true := by
  rw [canon_bits]
  have := apart_all (l.contains 0) (l.contains 1) (l.contains 2) (l.contains 3) (l.contains 4) (l.contains 5) (l.contains 6) ⟨k.toNat, by omega⟩
  rw [show ((⟨k.toNat, by omega⟩ : Fin 7).val : Int) = k by show ((k.toNat : Nat) : Int) = k; omega] at this
  exact this

def majB (O x : List Int) : Bool := decide (O.length < 2 * votes O x)

/-- What the law asks at its end. -/
def meetsOK (M O x y : List Int) : Bool := !(majB M x && majB M y && !meetB x y) && !(majB M x && majB O y && !meetB x y)

theorem meets_ok (M O x y : List Int) (h : (M.Sublist O ∧ O.length ≤ M.length + 1) ∨ (O.Sublist M ∧ M.length ≤ O.length + 1)) : meetsOK M O x y = true := by
  unfold meetsOK majB
  cases hd : meetB x y with
  | true => simp
  | false =>
    have h1 := votes_sum M x y hd
    have h2 : ¬ (M.length < 2 * votes M x ∧ O.length < 2 * votes O y) := by
      rcases h with ⟨ha, hb⟩ | ⟨ha, hb⟩
      · exact (meets_apart M O x y hd ha hb).1
      · exact (meets_apart O M x y hd ha hb).2
    have h3 : ¬ (M.length < 2 * votes M x ∧ M.length < 2 * votes M y) := by omega
    simp only [Bool.not_false, Bool.and_true, Bool.and_eq_true, Bool.not_eq_true', Bool.and_eq_false_iff, decide_eq_false_iff_not]
    omega

theorem meet_snoc (x y : List Int) (k : Nat) (h : k < x.length) : meetB (x.take (k + 1)) y = (meetB (x.take k) y || y.contains (x.getD k 0)) := by
  unfold meetB
  rw [List.take_succ_eq_append_getElem h, List.any_append]
  congr 1
  simp [List.getD, h]

set_option maxRecDepth 100000 in
set_option maxHeartbeats 8000000 in
theorem meets_walk (v0 v1 v2 : Value) (z0 z1 z2 : List Int) (a3 : Int) (a4 : Bool) (w : World) (h0 : IsNums .u8 w v0 z0) (h1 : IsNums .u8 w v1 z1) (h2 : IsNums .u8 w v2 z2) (f0 : ∀ j, j < z0.length → 0 ≤ z0.getD j 0 ∧ z0.getD j 0 ≤ 255) (f1 : ∀ j, j < z1.length → 0 ≤ z1.getD j 0 ∧ z1.getD j 0 ≤ 255) (f2 : ∀ j, j < z2.length → 0 ≤ z2.getD j 0 ∧ z2.getD j 0 ≤ 255)
    (m0 : z0.length ≤ maxLen) (m1 : z1.length ≤ maxLen) (m2 : z2.length ≤ maxLen) (l3 : 0 ≤ a3) (u3 : a3 ≤ 255) :
    Calls Try.prog 4 #[v0, v1, v2, .int .u8 a3, .bool a4] w fun e w' => e = .returned (.bool true) ∧ Below w.heap.size w w' := by
  unfold maxLen at m0 m1 m2
  obtain ⟨p0, c0, rfl, -⟩ := id h0
  obtain ⟨p1, c1, rfl, -⟩ := id h1
  obtain ⟨p2, c2, rfl, -⟩ := id h2
  have H0 := Lib.hid h0
  have H1 := Lib.hid h1
  have H2 := Lib.hid h2
  have F0 := Lib.hid f0
  have F1 := Lib.hid f1
  have F2 := Lib.hid f2
  clear h0 h1 h2 f0 f1 f2
  by_cases q : 10 < z0.length ∨ 10 < z1.length ∨ 10 < z2.length
  · by_cases q1 : 10 < z0.length <;> by_cases q2 : 10 < z1.length <;> by_cases q3 : 10 < z2.length <;> (first | (exfalso; omega) | (clear q; go_enter Try.func4, Try.ntmps4; go_wp2_with (go_at_call 7; refine (known_true _).mono ?_; rintro e v ⟨rfl, hb⟩); go_ret; exact ⟨rfl, hb⟩))
  have q1 : ¬ 10 < z0.length := by omega
  have q2 : ¬ 10 < z1.length := by omega
  have q3 : ¬ 10 < z2.length := by omega
  clear q
  go_enter Try.func4, Try.ntmps4
  go_wp2_with fail
  refine (known_true _).mono ?_
  rintro e w1 ⟨rfl, hb1⟩
  have H0a := Lib.hid (H0.out.below hb1 (Nat.le_refl _))
  have H1a := Lib.hid (H1.out.below hb1 (Nat.le_refl _))
  have H2a := Lib.hid (H2.out.below hb1 (Nat.le_refl _))
  clear H0 H1 H2
  go_wp2_with fail
  refine (ints_is _ z0 _ H0a.out F0.out (by omega)).mono ?_
  rintro e w2 ⟨q0, d0, rfl, hx, hb2⟩
  have hB2 := hb1.trans (hb2.mono hb1.size)
  have X0 := Lib.hid hx
  have H1b := Lib.hid (H1a.out.below hb2 (Nat.le_refl _))
  have H2b := Lib.hid (H2a.out.below hb2 (Nat.le_refl _))
  clear hx hb2 hb1 H0a H1a H2a
  go_wp2_with fail
  refine (ints_is _ z1 _ H1b.out F1.out (by omega)).mono ?_
  rintro e w3 ⟨q1', d1, rfl, hx, hb3⟩
  have hB3 := hB2.trans (hb3.mono hB2.size)
  have X1 := Lib.hid hx
  have X0a := Lib.hid (X0.out.below hb3 (Nat.le_refl _))
  have H2c := Lib.hid (H2b.out.below hb3 (Nat.le_refl _))
  clear hx hb3 hB2 X0 H1b H2b
  go_wp2_with fail
  refine (ints_is _ z2 _ H2c.out F2.out (by omega)).mono ?_
  rintro e w4 ⟨q2', d2, rfl, hx, hb4⟩
  have hB4 := hB3.trans (hb4.mono hB3.size)
  have Y := Lib.hid hx
  have X := Lib.hid (X1.out.below hb4 (Nat.le_refl _))
  have L := Lib.hid (X0a.out.below hb4 (Nat.le_refl _))
  have n0 := sevens_len z0
  have n1 := sevens_len z1
  have n2 := sevens_len z2
  clear hx hb4 hB3 X1 X0a H2c
  have hap := apart_ok (sevens z0) (a3 % 7) (by omega) (by omega)
  unfold apartOK at hap
  simp only [Bool.and_eq_true, decide_eq_true_eq, List.isSublist_iff_sublist] at hap
  obtain ⟨⟨⟨⟨⟨⟨g1, g2⟩, g3⟩, g4⟩, g5⟩, g6⟩, g7⟩ := hap
  generalize hl : sevens z0 = l at L n0 g1 g2 g3 g4 g5 g6 g7
  generalize hx : sevens z1 = x at X n1
  generalize hy : sevens z2 = y at Y n2
  obtain ⟨M, hM⟩ : ∃ M, canon l = M := ⟨_, rfl⟩
  rw [hM] at g1 g2 g3 g4 g5 g6 g7
  have hMl : M.length ≤ 7 := by rw [← hM]; exact canon_len l
  have HM := Lib.hid hM
  have G1 := Lib.hid g1
  have G2 := Lib.hid g2
  have G3 := Lib.hid g3
  have G5 := Lib.hid g5
  have G6 := Lib.hid g6
  clear hl hx hy hM g1 g2 g3 g5 g6
  go_wp2_with fail
  refine (with_is _ l (a3 % 7) _ (n0 ▸ L.out) (by omega) (canon (M ++ [a3 % 7])) _ (by rw [HM.out]) rfl).mono ?_
  rintro e w5 ⟨po, co, rfl, ho, hb5⟩
  have hBd := hB4.trans (hb5.mono hB4.size)
  replace L := Lib.hid (L.out.below hb5 (Nat.le_refl _))
  replace X := Lib.hid (X.out.below hb5 (Nat.le_refl _))
  replace Y := Lib.hid (Y.out.below hb5 (Nat.le_refl _))
  have HO := Lib.hid ho
  clear hb5 hB4 ho
  cases a4 with
  | true =>
    obtain ⟨O, hO⟩ : ∃ O, canon (M ++ [a3 % 7]) = O := ⟨_, rfl⟩
    rw [hO] at HO g4 ⊢
    have hcO : canon O = O := by rw [← hO]; exact G2.out
    have hcase : (M.Sublist O ∧ O.length ≤ M.length + 1) ∨ (O.Sublist M ∧ M.length ≤ O.length + 1) := .inl ⟨by rw [← hO]; exact G3.out, g4⟩
    have hOl : O.length ≤ 8 := by omega
    clear hO
    have hok := meets_ok M O x y hcase
    unfold meetsOK majB at hok
    rw [← HM.out] at hok
    rw [show decide (O.length < 2 * votes O y) = decide ((canon O).length < 2 * votes (canon O) y) by rw [hcO]] at hok
    clear hcase hcO
    go_wp2
    go_loop [15, 16] (fun b i => ∃ k : Nat, k ≤ x.length ∧ i = .int .i64 k ∧ b = .bool (meetB (x.take k) y)) (fun _ i => x.length - (intOf i).toNat)
    case atStart => exact ⟨0, Nat.zero_le _, rfl, rfl⟩
    case round =>
      obtain ⟨k, hk, rfl, rfl⟩ := hrel
      by_cases hlt : k < x.length
      · obtain ⟨p', c', e', h0 | ⟨b, off, hpp, hblk, hcell⟩⟩ := X.out
        · omega
        injection e' with e1 e2 e3
        rw [← e1] at hpp
        clear e1 e2 e3
        subst hpp
        have hc := hcell k hlt
        have hsn := meet_snoc x y k hlt
        obtain ⟨xx, hxx⟩ : ∃ xx, x.getD k 0 = xx := ⟨_, rfl⟩
        rw [hxx] at hc hsn
        have hnl : (k : Int) < (z1.length : Int) := by omega
        cases hq : meetB (x.take k) y with
        | true =>
          rw [hq] at hsn
          have HS := Lib.hid hsn
          clear hcell hxx hsn hok
          go_wp2
          go_round
          case rel => exact ⟨k + 1, by omega, by go_num, by rw [HS.out]; rfl⟩
          case measure => simp [intOf]; omega
        | false =>
          rw [hq] at hsn
          have HS := Lib.hid hsn
          clear hcell hxx hsn hok
          go_wp2_with (go_at_call 10; ((with_reducible refine (has_any _ y xx _ Y.out (by omega)).mono ?_); rintro e w' ⟨rfl, rfl⟩))
          go_round
          case rel => exact ⟨k + 1, by omega, by go_num, by rw [HS.out]; simp⟩
          case measure => simp [intOf]; omega
      · obtain rfl : k = x.length := by omega
        rw [List.take_length]
        cases HAq : decide ((canon l).length < 2 * votes (canon l) x) <;> cases HBq : decide ((canon l).length < 2 * votes (canon l) y) <;> cases HDq : decide ((canon O).length < 2 * votes (canon O) y) <;> cases HCq : meetB x y
        all_goals
          rw [HAq, HBq, HDq, HCq] at hok
          first
          | (exfalso; revert hok; decide)
          | (obtain ⟨A, hA0⟩ : ∃ A, decide ((canon l).length < 2 * votes (canon l) x) = A := ⟨_, rfl⟩
             obtain ⟨B, hB0⟩ : ∃ B, decide ((canon l).length < 2 * votes (canon l) y) = B := ⟨_, rfl⟩
             obtain ⟨D, hD0⟩ : ∃ D, decide ((canon O).length < 2 * votes (canon O) y) = D := ⟨_, rfl⟩
             have HA := Lib.hid hA0
             have HB := Lib.hid hB0
             have HD := Lib.hid hD0
             rw [HAq] at hA0
             rw [HBq] at hB0
             rw [HDq] at hD0
             subst hA0
             subst hB0
             subst hD0
             clear HAq HBq HDq HCq hok
             go_wp2_with (first | (go_at_call 20; ((with_reducible refine (most_is _ _ l x _ L.out X.out (by omega) (by omega) _ HA.out).mono ?_); rintro e wz ⟨rfl, hbz⟩; replace L := Lib.hid (L.out.below hbz (Nat.le_refl _)); replace X := Lib.hid (X.out.below hbz (Nat.le_refl _)); replace Y := Lib.hid (Y.out.below hbz (Nat.le_refl _)); replace HO := Lib.hid (HO.out.below hbz (Nat.le_refl _)); replace hBd := hBd.trans (hbz.mono hBd.size); clear hbz)) | (go_at_call 20; ((with_reducible refine (most_is _ _ l y _ L.out Y.out (by omega) (by omega) _ HB.out).mono ?_); rintro e wz ⟨rfl, hbz⟩; replace L := Lib.hid (L.out.below hbz (Nat.le_refl _)); replace X := Lib.hid (X.out.below hbz (Nat.le_refl _)); replace Y := Lib.hid (Y.out.below hbz (Nat.le_refl _)); replace HO := Lib.hid (HO.out.below hbz (Nat.le_refl _)); replace hBd := hBd.trans (hbz.mono hBd.size); clear hbz)) | (go_at_call 20; ((with_reducible refine (most_is _ _ O y _ HO.out Y.out (by omega) (by omega) _ HD.out).mono ?_); rintro e wz ⟨rfl, hbz⟩; replace L := Lib.hid (L.out.below hbz (Nat.le_refl _)); replace X := Lib.hid (X.out.below hbz (Nat.le_refl _)); replace Y := Lib.hid (Y.out.below hbz (Nat.le_refl _)); replace HO := Lib.hid (HO.out.below hbz (Nat.le_refl _)); replace hBd := hBd.trans (hbz.mono hBd.size); clear hbz)))
             go_ret
             exact ⟨rfl, hBd⟩)
  | false =>
    go_wp2_with fail
    refine (without_is _ l (a3 % 7) _ L.out (by omega) (M.filter fun x => decide (x ≠ a3 % 7)) _ (by rw [HM.out]) rfl).mono ?_
    rintro e w6 ⟨po2, co2, rfl, ho, hb6⟩
    replace hBd := hBd.trans (hb6.mono hBd.size)
    replace L := Lib.hid (L.out.below hb6 (Nat.le_refl _))
    replace X := Lib.hid (X.out.below hb6 (Nat.le_refl _))
    replace Y := Lib.hid (Y.out.below hb6 (Nat.le_refl _))
    replace HO := Lib.hid ho
    clear hb6 ho
    obtain ⟨O, hO⟩ : ∃ O, (M.filter fun x => decide (x ≠ a3 % 7)) = O := ⟨_, rfl⟩
    rw [hO] at HO g7 ⊢
    have hcO : canon O = O := by rw [← hO]; exact G5.out
    have hsb : O.Sublist M := by rw [← hO]; exact G6.out
    have hOl : O.length ≤ 8 := by have := hsb.length_le; omega
    have hcase : (M.Sublist O ∧ O.length ≤ M.length + 1) ∨ (O.Sublist M ∧ M.length ≤ O.length + 1) := .inr ⟨hsb, g7⟩
    clear hO hsb
    have hok := meets_ok M O x y hcase
    unfold meetsOK majB at hok
    rw [← HM.out] at hok
    rw [show decide (O.length < 2 * votes O y) = decide ((canon O).length < 2 * votes (canon O) y) by rw [hcO]] at hok
    clear hcase hcO
    go_wp2
    go_loop [15, 16] (fun b i => ∃ k : Nat, k ≤ x.length ∧ i = .int .i64 k ∧ b = .bool (meetB (x.take k) y)) (fun _ i => x.length - (intOf i).toNat)
    case atStart => exact ⟨0, Nat.zero_le _, rfl, rfl⟩
    case round =>
      obtain ⟨k, hk, rfl, rfl⟩ := hrel
      by_cases hlt : k < x.length
      · obtain ⟨p', c', e', h0 | ⟨b, off, hpp, hblk, hcell⟩⟩ := X.out
        · omega
        injection e' with e1 e2 e3
        rw [← e1] at hpp
        clear e1 e2 e3
        subst hpp
        have hc := hcell k hlt
        have hsn := meet_snoc x y k hlt
        obtain ⟨xx, hxx⟩ : ∃ xx, x.getD k 0 = xx := ⟨_, rfl⟩
        rw [hxx] at hc hsn
        have hnl : (k : Int) < (z1.length : Int) := by omega
        cases hq : meetB (x.take k) y with
        | true =>
          rw [hq] at hsn
          have HS := Lib.hid hsn
          clear hcell hxx hsn hok
          go_wp2
          go_round
          case rel => exact ⟨k + 1, by omega, by go_num, by rw [HS.out]; rfl⟩
          case measure => simp [intOf]; omega
        | false =>
          rw [hq] at hsn
          have HS := Lib.hid hsn
          clear hcell hxx hsn hok
          go_wp2_with (go_at_call 10; ((with_reducible refine (has_any _ y xx _ Y.out (by omega)).mono ?_); rintro e w' ⟨rfl, rfl⟩))
          go_round
          case rel => exact ⟨k + 1, by omega, by go_num, by rw [HS.out]; simp⟩
          case measure => simp [intOf]; omega
      · obtain rfl : k = x.length := by omega
        rw [List.take_length]
        cases HAq : decide ((canon l).length < 2 * votes (canon l) x) <;> cases HBq : decide ((canon l).length < 2 * votes (canon l) y) <;> cases HDq : decide ((canon O).length < 2 * votes (canon O) y) <;> cases HCq : meetB x y
        all_goals
          rw [HAq, HBq, HDq, HCq] at hok
          first
          | (exfalso; revert hok; decide)
          | (obtain ⟨A, hA0⟩ : ∃ A, decide ((canon l).length < 2 * votes (canon l) x) = A := ⟨_, rfl⟩
             obtain ⟨B, hB0⟩ : ∃ B, decide ((canon l).length < 2 * votes (canon l) y) = B := ⟨_, rfl⟩
             obtain ⟨D, hD0⟩ : ∃ D, decide ((canon O).length < 2 * votes (canon O) y) = D := ⟨_, rfl⟩
             have HA := Lib.hid hA0
             have HB := Lib.hid hB0
             have HD := Lib.hid hD0
             rw [HAq] at hA0
             rw [HBq] at hB0
             rw [HDq] at hD0
             subst hA0
             subst hB0
             subst hD0
             clear HAq HBq HDq HCq hok
             go_wp2_with (first | (go_at_call 20; ((with_reducible refine (most_is _ _ l x _ L.out X.out (by omega) (by omega) _ HA.out).mono ?_); rintro e wz ⟨rfl, hbz⟩; replace L := Lib.hid (L.out.below hbz (Nat.le_refl _)); replace X := Lib.hid (X.out.below hbz (Nat.le_refl _)); replace Y := Lib.hid (Y.out.below hbz (Nat.le_refl _)); replace HO := Lib.hid (HO.out.below hbz (Nat.le_refl _)); replace hBd := hBd.trans (hbz.mono hBd.size); clear hbz)) | (go_at_call 20; ((with_reducible refine (most_is _ _ l y _ L.out Y.out (by omega) (by omega) _ HB.out).mono ?_); rintro e wz ⟨rfl, hbz⟩; replace L := Lib.hid (L.out.below hbz (Nat.le_refl _)); replace X := Lib.hid (X.out.below hbz (Nat.le_refl _)); replace Y := Lib.hid (Y.out.below hbz (Nat.le_refl _)); replace HO := Lib.hid (HO.out.below hbz (Nat.le_refl _)); replace hBd := hBd.trans (hbz.mono hBd.size); clear hbz)) | (go_at_call 20; ((with_reducible refine (most_is _ _ O y _ HO.out Y.out (by omega) (by omega) _ HD.out).mono ?_); rintro e wz ⟨rfl, hbz⟩; replace L := Lib.hid (L.out.below hbz (Nat.le_refl _)); replace X := Lib.hid (X.out.below hbz (Nat.le_refl _)); replace Y := Lib.hid (Y.out.below hbz (Nat.le_refl _)); replace HO := Lib.hid (HO.out.below hbz (Nat.le_refl _)); replace hBd := hBd.trans (hbz.mono hBd.size); clear hbz)))
             go_ret
             exact ⟨rfl, hBd⟩)

end Go.Proofs.Ytgplfnmikcacmaa.K
