/- package conf's Has and Most in a raft's seat (out of Conf2). -/
import Derived.Test.YtndnnlbdnjndiaaGreatG2
namespace Go.Proofs.YtndnnlbdnjndiaaGreat.K
open Go.ChangeShapes Go.WideShapes Go.ChangeAt Go.RowKit Go.Sort
set_option linter.unusedVariables false
set_option linter.unusedSimpArgs false

theorem chas_any (v : Value) (l : List Int) (n : Int) (w : World) (hv : IsNums .i64 w v l) (hl : l.length ≤ 1000) :
   Calls Tryz.prog 48 #[v, .int .i64 n] w fun e w' => e = .returned (.bool (l.contains n)) ∧ w = w' := by
 obtain ⟨p, c, rfl, h⟩ := hv
 by_cases h0 : l.length = 0
 · obtain rfl := List.length_eq_zero_iff.1 h0
   have hc := Tryz.slices_Contains_int_empty p c n w
   clear h
   go_enter Tryz.func48, Tryz.ntmps48
   go_wp2_with (go_at_call 87; ((with_reducible refine hc.mono ?_); rintro e w' ⟨rfl, rfl⟩))
   go_ret
   exact ⟨rfl, rfl⟩
 · obtain h | ⟨b, off, rfl, hblk, hcell⟩ := h
   · exact absurd h h0
   have hc := Tryz.slices_Contains_int b off l.length c l n w (Nat.le_refl _) (by omega) hcell
   rw [List.take_length] at hc
   have HC := Lib.hid hcell
   clear hcell
   go_enter Tryz.func48, Tryz.ntmps48
   go_wp2_with (go_at_call 87; ((with_reducible refine hc.mono ?_); rintro e w' ⟨rfl, rfl⟩))
   go_ret
   exact ⟨ret_bool (by simp), rfl⟩
def votes (l yes : List Int) : Nat := (l.filter fun x => yes.contains x).length
theorem votes_snoc (l yes : List Int) (k : Nat) (h : k < l.length) : votes (l.take (k + 1)) yes = votes (l.take k) yes + if yes.contains (l.getD k 0) = true then 1 else 0 := by
 unfold votes
 rw [List.take_succ_eq_append_getElem h, List.filter_append, List.length_append]
 congr 1
 simp only [List.getD, List.getElem?_eq_getElem h, Option.getD_some, List.filter_cons, List.filter_nil]
 split <;> rfl
def mostB (l yes : List Int) : Bool := decide ((ofL l).length < 2 * votes (ofL l) yes)
set_option maxRecDepth 100000 in
set_option maxHeartbeats 2000000 in
theorem cmost_any (v v1 : Value) (l yes : List Int) (w : World) (hv : IsNums .i64 w v l) (hy : IsNums .i64 w v1 yes) (hl : l.length ≤ 900) (hyl : yes.length ≤ 900) :
   Calls Tryz.prog 134 #[v, v1] w fun e w' => e = .returned (.bool (mostB l yes)) ∧ Below w.heap.size w w' := by
 obtain ⟨p, c, rfl, -⟩ := id hv
 obtain ⟨p1, c1, rfl, -⟩ := id hy
 have H := Lib.hid hv
 have HY0 := Lib.hid hy
 clear hv hy
 have hdef : mostB l yes = decide ((ofL l).length < 2 * votes (ofL l) yes) := rfl
 go_enter Tryz.func134, Tryz.ntmps134
 go_wp2_with fail
 refine (of_any _ l _ H.out (by omega)).mono ?_
 rintro e w1 ⟨u, rfl, hown, hb⟩
 have hn := ofL_len l
 have hz := hb.size
 obtain ⟨O, hOO⟩ : ∃ O, ofL l = O := ⟨_, rfl⟩
 rw [hOO] at hown hn hdef
 have HY := Lib.hid (HY0.out.below hb (Nat.le_refl _))
 have hO := IsNums.ofOwn hown
 obtain ⟨pu, cu, rfl, hO⟩ := hO
 have HO := Lib.hid hO
 have HDf := Lib.hid hdef
 clear hown hO hOO hdef
 go_wp2
 go_loop [6, 13] (fun s i => ∃ k : Nat, k ≤ O.length ∧ i = .int .i64 k ∧ s = .int .i64 (votes (O.take k) yes : Nat)) (fun _ i => O.length - (intOf i).toNat)
 case atStart => exact ⟨0, Nat.zero_le _, rfl, rfl⟩
 case round =>
   obtain ⟨k, hk, rfl, rfl⟩ := hrel
   have hvl : votes (O.take k) yes ≤ k := Nat.le_trans (List.length_filter_le _ _) (List.length_take_le _ _)
   by_cases hlt : k < O.length
   · obtain h0 | ⟨b, off, rfl, hblk, hcell⟩ := HO.out
     · omega
     have hc := hcell k hlt
     have hsn := votes_snoc O yes k hlt
     obtain ⟨x, hx⟩ : ∃ x, O.getD k 0 = x := ⟨_, rfl⟩
     rw [hx] at hc hsn
     obtain ⟨V, hV⟩ : ∃ V, votes (O.take k) yes = V := ⟨_, rfl⟩
     rw [hV] at hsn hvl ⊢
     have hhas := chas_any _ yes x w1 HY.out (by omega)
     cases hq : yes.contains x with
     | true =>
       rw [hq] at hsn hhas
       have HS := Lib.hid hsn
       clear hcell hx hV hsn hq
       go_wp2_with (go_at_call 48; ((with_reducible refine hhas.mono ?_); rintro e w' ⟨rfl, rfl⟩))
       go_round
       case rel => exact ⟨k + 1, by omega, by go_num, by rw [HS.out, if_pos trivial]; go_num⟩
       case measure => simp [intOf]; omega
     | false =>
       rw [hq] at hsn hhas
       have HS := Lib.hid hsn
       clear hcell hx hV hsn hq
       go_wp2_with (go_at_call 48; ((with_reducible refine hhas.mono ?_); rintro e w' ⟨rfl, rfl⟩))
       go_round
       case rel => exact ⟨k + 1, by omega, by go_num, by rw [HS.out]; simp⟩
       case measure => simp [intOf]; omega
   · obtain rfl : k = O.length := by omega
     rw [List.take_length] at hvl ⊢
     go_wp2
     go_ret
     refine ⟨ret_bool ?_, hb⟩
     rw [HDf.out]
     simp; omega

theorem ofc_any (v : Value) (l : List Int) (w : World) (hv : IsNums .i64 w v l) (hl : l.length ≤ 1000) :
   Calls Tryz.prog 88 #[v] w (ListPost w (canon l)) := by rw [← ofL_canon]; exact of_any v l w hv hl
theorem withc_any (v : Value) (l : List Int) (n : Int) (w : World) (hv : IsNums .i64 w v l) (hl : l.length ≤ 900) :
   Calls Tryz.prog 141 #[v, .int .i64 n] w (ListPost w (canon (canon l ++ [n]))) := by rw [← ofL_canon, ← ofL_canon]; exact with_any v l n w hv hl
theorem woutc_any (v : Value) (l : List Int) (n : Int) (w : World) (hv : IsNums .i64 w v l) (hl : l.length ≤ 900) :
   Calls Tryz.prog 128 #[v, .int .i64 n] w (ListPost w ((canon l).filter fun x => decide (x ≠ n))) := by rw [← ofL_canon]; exact without_any v l n w hv hl
def mostC (l yes : List Int) : Bool := decide ((canon l).length < 2 * votes (canon l) yes)
theorem cmostc_any (v v1 : Value) (l yes : List Int) (w : World) (hv : IsNums .i64 w v l) (hy : IsNums .i64 w v1 yes) (hl : l.length ≤ 900) (hyl : yes.length ≤ 900) :
   Calls Tryz.prog 134 #[v, v1] w fun e w' => e = .returned (.bool (mostC l yes)) ∧ Below w.heap.size w w' := by
 have := cmost_any v v1 l yes w hv hy hl hyl
 unfold mostB at this
 rw [ofL_canon] at this
 exact this

end Go.Proofs.YtndnnlbdnjndiaaGreat.K
