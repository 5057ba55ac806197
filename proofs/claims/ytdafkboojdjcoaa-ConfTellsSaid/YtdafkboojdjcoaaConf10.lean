/- What the reference's Without, Right, Most, and the statements' Place return. -/
import Derived.Test.YtdafkboojdjcoaaConf9
import Derived.Test.YtdafkboojdjcoaaConf7
namespace Go.Proofs.Ytdafkboojdjcoaa.K
open Go.ChangeShapes Go.WideShapes Go.ChangeAt Go.RowKit Go.Sort
set_option linter.unusedVariables false

theorem tmod8 (k : Int) : k.tmod 8 = if 0 ≤ k then k % 8 else -((-k) % 8) := by
  by_cases h : 0 ≤ k
  · rw [if_pos h, Int.tmod_eq_emod_of_nonneg h]
  · rw [if_neg h]
    have h1 : k.tmod 8 = -((-k).tmod 8) := by rw [Int.neg_tmod]; simp
    rw [h1, Int.tmod_eq_emod_of_nonneg (by omega)]
theorem place_any (k : Int) (w : World) (k0 : -9223372036854775808 ≤ k) (k1 : k ≤ 9223372036854775807) :
    Calls Try.prog 8 #[.int .i64 k, .int .i64 8] w fun e w' => e = .returned (.int .i64 (k % 8)) ∧ w = w' := by
  by_cases h : k.tmod 8 < 0
  · have hd : decide (k.tmod 8 < 0) = true := by simpa using h
    have e0 := tmod8 k
    have e1 : k.tmod 8 + 8 = k % 8 := by split at e0 <;> omega
    clear e0
    go_enter Try.func8, Try.ntmps8
    go_wp2
    go_ret
    exact ⟨ret_int (by omega), rfl⟩
  · have hd : decide (k.tmod 8 < 0) = false := by simpa using h
    have e0 := tmod8 k
    have e1 : k.tmod 8 = k % 8 := by split at e0 <;> omega
    clear e0
    go_enter Try.func8, Try.ntmps8
    go_wp2
    go_ret
    exact ⟨ret_int (by omega), rfl⟩

theorem canon_out (l : List Int) (n : Int) : canon (l.filter fun x => decide (x ≠ n)) = (canon l).filter fun x => decide (x ≠ n) := by
  refine strict_ext _ _ (canon_strict _) (List.Pairwise.filter _ (canon_strict l)) (fun x => ?_)
  rw [canon_mem, List.mem_filter, List.mem_filter, canon_mem]
  constructor
  · rintro ⟨⟨h1, h2⟩, h3⟩; exact ⟨⟨h1, h3⟩, h2⟩
  · rintro ⟨⟨h1, h3⟩, h2⟩; exact ⟨⟨h1, h2⟩, h3⟩
theorem canon_with (l : List Int) (n : Int) : canon (canon l ++ [n]) = canon (l ++ [n]) := by
  refine strict_ext _ _ (canon_strict _) (canon_strict _) (fun x => ?_)
  rw [canon_mem, canon_mem, List.mem_append, List.mem_append, canon_mem]
  constructor
  · rintro ⟨h | h, h2⟩
    · exact ⟨.inl h.1, h2⟩
    · exact ⟨.inr h, h2⟩
  · rintro ⟨h | h, h2⟩
    · exact ⟨.inl ⟨h, h2⟩, h2⟩
    · exact ⟨.inr h, h2⟩

set_option maxRecDepth 100000 in
set_option maxHeartbeats 2000000 in
theorem rwithout_is (v : Value) (l : List Int) (n : Int) (w : World) (hv : IsNums .i64 w v l) (hl : l.length ≤ 900) (S : List Int) (m : Nat) (hS : (canon l).filter (fun x => decide (x ≠ n)) = S) (hm : S.length = m) :
    Calls Try.prog 16 #[v, .int .i64 n] w fun e w' => ∃ p c, e = .returned (.slice p m c) ∧ IsNums .i64 w' (.slice p m c) S ∧ Below w.heap.size w w' := by
  obtain ⟨pu, cu, rfl, hO⟩ := id hv
  have HO := Lib.hid hO
  rw [← canon_out] at hS
  have HSS := Lib.hid hS
  clear hO hv hS
  obtain ⟨wo, hwo⟩ : ∃ wo : World, w = wo := ⟨_, rfl⟩
  subst hwo
  go_enter Try.func16, Try.ntmps16
  go_wp2
  go_loopw [5, 6] (fun u i wr => ∃ k : Nat, k ≤ l.length ∧ i = .int .i64 k ∧ wr.ownsRow w.heap.size 3 1 u ((l.take k).filter fun x => decide (x ≠ n)).length (((l.take k).filter fun x => decide (x ≠ n)).map (Value.int .i64)) ∧ Below w.heap.size w wr) (fun _ i _ => l.length - (intOf i).toNat)
  case atStart => exact ⟨0, Nat.zero_le _, rfl, World.ownsRow_nil _ _ _ _, Below.refl _ _⟩
  case round =>
    obtain ⟨k, hk, rfl, hown, hbel⟩ := hrel
    have hfl : ((l.take k).filter fun x => decide (x ≠ n)).length ≤ k := Nat.le_trans (List.length_filter_le _ _) (List.length_take_le _ _)
    by_cases hlt : k < l.length
    · obtain h0 | ⟨b, off, rfl, hblk, hcell⟩ := HO.out
      · omega
      have hc : wr.cell? ⟨b, off + k, none⟩ = some (.int .i64 (l.getD k 0)) := by rw [hbel.cell hblk]; exact hcell k hlt
      have hsn := dropn_snoc l n k hlt
      obtain ⟨x, hx⟩ : ∃ x, l.getD k 0 = x := ⟨_, rfl⟩
      rw [hx] at hc hsn
      have hsz := hbel.size
      obtain ⟨N, hN⟩ : ∃ N, ((l.take k).filter fun x => decide (x ≠ n)).length = N := ⟨_, rfl⟩
      rw [hN] at hown hfl
      have HN := Lib.hid hN
      clear hcell hx hN
      by_cases hq : x = n
      · have hqb : (x == n) = true := by simpa using hq
        rw [if_neg (by simpa using hq), List.append_nil] at hsn
        have HS := Lib.hid hsn
        clear hsn hq
        go_wp2
        go_roundw
        case rel => exact ⟨k + 1, by omega, by go_num, by rw [HS.out, HN.out]; exact hown, hbel⟩
        case measure => simp [intOf]; omega
      · have hqb : (x == n) = false := by simpa using hq
        rw [if_pos hq] at hsn
        have HS := Lib.hid hsn
        clear hsn hq
        go_wp2_with (at_builtin; refine wpList_app1 rfl _ _ 22 rfl w.heap.size 3 .i64 8 Try.underlying22 info_int (by omega) _ _ _ rfl hown _ 1 rfl (by omega) hsz ?_; intro v' w' hown' hb')
        go_roundw
        case rel => exact ⟨k + 1, by omega, by go_num, by rw [HS.out, List.length_append, List.map_append, HN.out]; exact hown', hbel.trans hb'⟩
        case measure => simp [intOf]; omega
    · obtain rfl : k = l.length := by omega
      rw [List.take_length] at hown
      have hN := IsNums.ofOwn hown
      have hsz := hbel.size
      have hn9 : (l.filter fun x => decide (x ≠ n)).length ≤ 900 := Nat.le_trans (List.length_filter_le _ _) hl
      clear hown
      go_wp2_with fail
      refine (rof_is _ (l.filter fun x => decide (x ≠ n)) _ hN (by omega) S m HSS.out hm).mono ?_
      rintro e w4 ⟨p4, c4, rfl, hN4, hb4⟩
      have HN4 := Lib.hid hN4
      have hB4 := hbel.trans (hb4.mono hsz)
      clear hN4 hb4 hN
      go_wp2
      go_ret
      exact ⟨_, _, rfl, HN4.out, hB4⟩

set_option maxRecDepth 100000 in
set_option maxHeartbeats 2000000 in
theorem rmost_is (v v1 : Value) (l yes : List Int) (w : World) (hv : IsNums .i64 w v l) (hy : IsNums .i64 w v1 yes) (hl : l.length ≤ 900) (hyl : yes.length ≤ 900) (b : Bool) (hb : decide ((canon l).length < 2 * votes (canon l) yes) = b) :
    Calls Try.prog 21 #[v, v1] w fun e w' => e = .returned (.bool b) ∧ Below w.heap.size w w' := by
  obtain ⟨p, c, rfl, -⟩ := id hv
  obtain ⟨p1, c1, rfl, -⟩ := id hy
  have H := Lib.hid hv
  have HY0 := Lib.hid hy
  clear hv hy
  have hn := canon_len l
  obtain ⟨O, hOO⟩ : ∃ O, canon l = O := ⟨_, rfl⟩
  rw [hOO] at hn hb
  have HOO := Lib.hid hOO
  have HDf := Lib.hid hb
  clear hOO hb
  obtain ⟨m, hm⟩ : ∃ m, O.length = m := ⟨_, rfl⟩
  have HM := Lib.hid hm
  go_enter Try.func21, Try.ntmps21
  go_wp2_with fail
  refine (rof_is _ l _ H.out (by omega) O m HOO.out hm).mono ?_
  rintro e w1 ⟨pu, cu, rfl, hO, hb⟩
  have hz := hb.size
  have HY := Lib.hid (HY0.out.below hb (Nat.le_refl _))
  have HO := Lib.hid hO
  rw [hm] at hn
  clear hO hm
  go_wp2
  go_loopw [6, 7] (fun s i wr => ∃ k : Nat, k ≤ m ∧ i = .int .i64 k ∧ s = .int .i64 (votes (O.take k) yes : Nat) ∧ Below w1.heap.size w1 wr) (fun _ i _ => m - (intOf i).toNat)
  case atStart => exact ⟨0, Nat.zero_le _, rfl, rfl, Below.refl _ _⟩
  case round =>
    obtain ⟨k, hk, rfl, rfl, hbel⟩ := hrel
    have hvl : votes (O.take k) yes ≤ k := Nat.le_trans (List.length_filter_le _ _) (List.length_take_le _ _)
    by_cases hlt : k < m
    · obtain ⟨a', c', hv', hA⟩ := HO.out
      simp only [Value.slice.injEq] at hv'
      obtain ⟨rfl, -, rfl⟩ := hv'
      obtain h0 | ⟨bb, off, rfl, hblk, hcell⟩ := hA
      · have := HM.out; omega
      have hc : wr.cell? ⟨bb, off + k, none⟩ = some (.int .i64 (O.getD k 0)) := by rw [hbel.cell hblk]; exact hcell k (by rw [HM.out]; exact hlt)
      have hsn := votes_snoc O yes k (by rw [HM.out]; exact hlt)
      obtain ⟨x, hx⟩ : ∃ x, O.getD k 0 = x := ⟨_, rfl⟩
      rw [hx] at hc hsn
      have HSn := Lib.hid hsn
      obtain ⟨V, hV⟩ : ∃ V, votes (O.take k) yes = V := ⟨_, rfl⟩
      rw [hV] at hvl
      have HV := Lib.hid hV
      have HYr := Lib.hid (HY.out.below hbel (Nat.le_refl _))
      rw [hV]
      clear hcell hx hsn hV
      go_wp2_with fail
      refine (rhas_any _ yes x wr HYr.out (by omega)).mono ?_
      rintro e w2 ⟨rfl, rfl⟩
      obtain ⟨q, hq⟩ : ∃ q, yes.contains x = q := ⟨_, rfl⟩
      have HQ := Lib.hid hq
      rw [hq]
      clear hq
      cases q
      · go_wp2
        go_roundw
        case rel => exact ⟨k + 1, by omega, by go_num, by rw [HSn.out, HV.out, if_neg (by rw [HQ.out]; decide)]; simp, hbel⟩
        case measure => simp [intOf]; omega
      · go_wp2
        go_roundw
        case rel => exact ⟨k + 1, by omega, by go_num, by rw [HSn.out, HV.out, if_pos HQ.out]; simp, hbel⟩
        case measure => simp [intOf]; omega
    · obtain rfl : k = m := by omega
      have hall : O.take k = O := by rw [← HM.out, List.take_length]
      rw [hall] at hvl ⊢
      have hD := HDf.out
      rw [HM.out] at hD
      have HD := Lib.hid hD
      clear hD
      go_wp2
      go_ret
      refine ⟨ret_bool ?_, hb.trans (hbel.mono hz)⟩
      rw [← HD.out]
      simp only [decide_eq_decide]
      omega
end Go.Proofs.Ytdafkboojdjcoaa.K
