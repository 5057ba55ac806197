/- The reference's lists of members in a log's seat (out of Conf9, Conf10). -/
import Derived.Test.YtmdckdhogbbhlaaLConf
import Derived.Test.YtmdckdhogbbhlaaMid
namespace Go.Proofs.Ytmdckdhogbbhlaa.K
open Go.ChangeShapes Go.WideShapes Go.ChangeAt Go.RowKit Go.Sort
set_option linter.unusedVariables false
set_option linter.unusedSimpArgs false

theorem contains_snoc (l : List Int) (n : Int) (k : Nat) (h : k < l.length) : (l.take (k + 1)).contains n = ((l.take k).contains n || (l.getD k 0 == n)) := by
  rw [List.take_succ_eq_append_getElem h, Bool.eq_iff_iff]
  simp only [List.contains_iff_mem, List.mem_append, List.mem_singleton, Bool.or_eq_true, beq_iff_eq, List.getD, List.getElem?_eq_getElem h, Option.getD_some]
  constructor
  · rintro (h | h)
    · exact .inl h
    · exact .inr h.symm
  · rintro (h | h)
    · exact .inl h
    · exact .inr h.symm
set_option maxRecDepth 100000 in
set_option maxHeartbeats 2000000 in
theorem rhas_any (v : Value) (l : List Int) (n : Int) (w : World) (hv : IsNums .i64 w v l) (hl : l.length ≤ 1000) :
    Calls Try.prog 60 #[v, .int .i64 n] w fun e w' => e = .returned (.bool (l.contains n)) ∧ w = w' := by
  obtain ⟨p, c, rfl, h⟩ := hv
  have H := Lib.hid h
  clear h
  go_enter Try.func60, Try.ntmps60
  go_wp2
  go_loop [5] (fun i => ∃ k : Nat, k ≤ l.length ∧ i = .int .i64 k ∧ (l.take k).contains n = false) (fun i => l.length - (intOf i).toNat)
  case atStart => exact ⟨0, Nat.zero_le _, rfl, rfl⟩
  case round =>
    obtain ⟨k, hk, rfl, hno⟩ := hrel
    by_cases hlt : k < l.length
    · obtain h0 | ⟨b, off, rfl, hblk, hcell⟩ := H.out
      · omega
      have hc := hcell k hlt
      have hsn := contains_snoc l n k hlt
      rw [hno] at hsn
      have hm : l.getD k 0 ∈ l := by simp [List.getD, hlt]
      obtain ⟨x, hx⟩ : ∃ x, l.getD k 0 = x := ⟨_, rfl⟩
      rw [hx] at hc hsn hm
      cases hq : x == n with
      | true =>
        have hyes : l.contains n = true := by
          have e : x = n := by simpa using hq
          subst e; simpa using hm
        have HY := Lib.hid hyes
        clear hcell hsn hx hno hyes hm
        go_wp2
        go_ret
        exact ⟨ret_bool (by have h := HY.out; simp at h; simp [h]), rfl⟩
      | false =>
        rw [hq] at hsn
        have HS := Lib.hid hsn
        clear hcell hsn hx hno hm
        go_wp2
        go_round
        case rel => exact ⟨k + 1, by omega, by go_num, by rw [HS.out]; rfl⟩
        case measure => simp [intOf]; omega
    · obtain rfl : k = l.length := by omega
      rw [List.take_length] at hno
      have HN := Lib.hid hno
      clear hno
      go_wp2
      go_ret
      exact ⟨ret_bool (by have h := HN.out; simp at h; simp [h]), rfl⟩
def canonTo (l : List Int) (k : Nat) : List Int := ((List.range k).map fun (n : Nat) => (n : Int)).filter fun n => l.contains n
theorem canonTo_snoc (l : List Int) (k : Nat) : canonTo l (k + 1) = canonTo l k ++ if l.contains (k : Int) = true then [(k : Int)] else [] := by
  unfold canonTo
  rw [List.range_succ, List.map_append, List.filter_append]
  congr 1
  simp only [List.map_cons, List.map_nil, List.filter_cons, List.filter_nil]
theorem canonTo_len (l : List Int) (k : Nat) : (canonTo l k).length ≤ k := by
  unfold canonTo
  refine Nat.le_trans (List.length_filter_le _ _) ?_
  simp
set_option maxRecDepth 100000 in
set_option maxHeartbeats 2000000 in
theorem rof_any (v : Value) (l : List Int) (w : World) (hv : IsNums .i64 w v l) (hl : l.length ≤ 1000) :
    Calls Try.prog 56 #[v] w (ListPost w (canon l)) := by
  have hdef : canonTo l 7 = canon l := rfl
  rw [← hdef]
  obtain ⟨p, c, rfl, -⟩ := id hv
  have H := Lib.hid hv
  clear hv hdef
  go_enter Try.func56, Try.ntmps56
  go_wp2
  go_loopw [3, 4] (fun u i wr => ∃ k : Nat, k ≤ 7 ∧ i = .int .i64 k ∧ wr.ownsRow w.heap.size 3 1 u (canonTo l k).length ((canonTo l k).map (Value.int .i64)) ∧ Below w.heap.size w wr) (fun _ i _ => 7 - (intOf i).toNat)
  case atStart => exact ⟨0, by omega, rfl, World.ownsRow_nil _ _ _ _, Below.refl _ _⟩
  case round =>
    obtain ⟨k, hk, rfl, hown, hbel⟩ := hrel
    have hsz := hbel.size
    have hcl := canonTo_len l k
    by_cases hlt : k < 7
    · have hsn := canonTo_snoc l k
      have HR := Lib.hid (H.out.below hbel (Nat.le_refl _))
      obtain ⟨N, hN⟩ : ∃ N, (canonTo l k).length = N := ⟨_, rfl⟩
      rw [hN] at hown hcl
      have HN := Lib.hid hN
      clear hN
      have hhas := rhas_any _ l (k : Int) wr HR.out (by omega)
      cases hq : l.contains (k : Int) with
      | true =>
        rw [hq] at hsn hhas
        rw [if_pos rfl] at hsn
        have HS := Lib.hid hsn
        clear hsn hq
        go_wp2_with (first | (go_at_call 60; ((with_reducible refine hhas.mono ?_); rintro e w' ⟨rfl, rfl⟩)) | (at_builtin; refine wpList_app1 rfl _ _ 26 rfl w.heap.size 3 .i64 8 Try.underlying26 info_int (by omega) _ _ _ rfl hown _ 1 rfl (by omega) hsz ?_; intro v' w' hown' hb'))
        go_roundw
        case rel => exact ⟨k + 1, by omega, by go_num, by rw [HS.out, List.length_append, List.map_append, HN.out]; exact hown', hbel.trans hb'⟩
        case measure => simp [intOf]; omega
      | false =>
        rw [hq] at hsn hhas
        rw [if_neg (by simp), List.append_nil] at hsn
        have HS := Lib.hid hsn
        clear hsn hq
        go_wp2_with (go_at_call 60; ((with_reducible refine hhas.mono ?_); rintro e w' ⟨rfl, rfl⟩))
        go_roundw
        case rel => exact ⟨k + 1, by omega, by go_num, by rw [HS.out, HN.out]; exact hown, hbel⟩
        case measure => simp [intOf]; omega
    · obtain rfl : k = 7 := by omega
      go_wp2
      go_ret
      exact ⟨_, rfl, hown, hbel⟩
theorem rof_is (v : Value) (l : List Int) (w : World) (hv : IsNums .i64 w v l) (hl : l.length ≤ 1000) (S : List Int) (n : Nat) (hS : canon l = S) (hn : S.length = n) :
    Calls Try.prog 56 #[v] w fun e w' => ∃ p c, e = .returned (.slice p n c) ∧ IsNums .i64 w' (.slice p n c) S ∧ Below w.heap.size w w' := by
  subst hS; subst hn
  refine (rof_any v l w hv hl).mono fun e w' h => ?_
  obtain ⟨u, rfl, hown, hbel⟩ := h
  have hN := IsNums.ofOwn hown
  obtain ⟨p, c, rfl, -⟩ := id hN
  exact ⟨p, c, rfl, hN, hbel⟩
set_option maxRecDepth 100000 in
set_option maxHeartbeats 2000000 in
theorem rwith_is (v : Value) (l : List Int) (m : Int) (w : World) (hv : IsNums .i64 w v l) (hl : l.length ≤ 900) (S : List Int) (n : Nat) (hS : canon (l ++ [m]) = S) (hn : S.length = n) :
    Calls Try.prog 53 #[v, .int .i64 m] w fun e w' => ∃ p c, e = .returned (.slice p n c) ∧ IsNums .i64 w' (.slice p n c) S ∧ Below w.heap.size w w' := by
  obtain ⟨p, c, rfl, -⟩ := id hv
  have H := Lib.hid hv
  clear hv
  go_enter Try.func53, Try.ntmps53
  go_wp2_with (first | (at_builtin; refine wpList_app1 rfl _ _ 26 rfl w.heap.size 3 .i64 8 Try.underlying26 info_int (by omega) _ _ _ rfl hown2 _ 1 rfl (by omega) hb2.size ?_; intro v3 w3 hown3 hb3) | (at_builtin; refine wpList_appN rfl _ _ 26 rfl w.heap.size 3 .i64 8 Try.underlying26 info_int (by omega) (.slice none 0 0) 0 [] rfl (World.ownsRow_nil _ _ _ _) _ l rfl H.out (by omega) (Nat.le_refl _) ?_; intro v2 w2 hown2 hb2))
  have hB3 : Below w.heap.size w w3 := hb2.trans hb3
  have hN3 : IsNums .i64 w3 v3 (l ++ [m]) := IsNums.ofOwn (B := w.heap.size) (e := 3) (n := 0 + l.length + 1) (by simpa using hown3)
  refine (rof_is _ (l ++ [m]) _ hN3 (by simp; omega) S n hS hn).mono ?_
  rintro e w4 ⟨p4, c4, rfl, hN4, hb4⟩
  have hB4 := hB3.trans (hb4.mono hB3.size)
  have HN4 := Lib.hid hN4
  clear hown2 hown3 hb2 hb3 hN3 hN4 hb4 hB3
  go_wp2
  go_ret
  exact ⟨_, _, rfl, HN4.out, hB4⟩
theorem canon_out (l : List Int) (n : Int) : canon (l.filter fun x => decide (x ≠ n)) = (canon l).filter fun x => decide (x ≠ n) := by
  refine strict_ext _ _ (canon_strict _) (List.Pairwise.filter _ (canon_strict l)) (fun x => ?_)
  rw [canon_mem, List.mem_filter, List.mem_filter, canon_mem]
  constructor
  · rintro ⟨⟨h1, h2⟩, h3⟩; exact ⟨⟨h1, h3⟩, h2⟩
  · rintro ⟨⟨h1, h3⟩, h2⟩; exact ⟨⟨h1, h2⟩, h3⟩
theorem canon_with (l : List Int) (n : Int) : canon (canon l ++ [n]) = canon (l ++ [n]) := by
  refine strict_ext _ _ (canon_strict _) (canon_strict _) (fun x => ?_)
  rw [canon_mem, canon_mem, List.mem_append, List.mem_append, canon_mem]
  constructor
  · rintro ⟨h | h, h2⟩
    · exact ⟨.inl h.1, h2⟩
    · exact ⟨.inr h, h2⟩
  · rintro ⟨h | h, h2⟩
    · exact ⟨.inl ⟨h, h2⟩, h2⟩
    · exact ⟨.inr h, h2⟩
set_option maxRecDepth 100000 in
set_option maxHeartbeats 2000000 in
theorem rwithout_is (v : Value) (l : List Int) (n : Int) (w : World) (hv : IsNums .i64 w v l) (hl : l.length ≤ 900) (S : List Int) (m : Nat) (hS : (canon l).filter (fun x => decide (x ≠ n)) = S) (hm : S.length = m) :
    Calls Try.prog 54 #[v, .int .i64 n] w fun e w' => ∃ p c, e = .returned (.slice p m c) ∧ IsNums .i64 w' (.slice p m c) S ∧ Below w.heap.size w w' := by
  obtain ⟨pu, cu, rfl, hO⟩ := id hv
  have HO := Lib.hid hO
  rw [← canon_out] at hS
  have HSS := Lib.hid hS
  clear hO hv hS
  obtain ⟨wo, hwo⟩ : ∃ wo : World, w = wo := ⟨_, rfl⟩
  subst hwo
  go_enter Try.func54, Try.ntmps54
  go_wp2
  go_loopw [5, 6] (fun u i wr => ∃ k : Nat, k ≤ l.length ∧ i = .int .i64 k ∧ wr.ownsRow w.heap.size 3 1 u ((l.take k).filter fun x => decide (x ≠ n)).length (((l.take k).filter fun x => decide (x ≠ n)).map (Value.int .i64)) ∧ Below w.heap.size w wr) (fun _ i _ => l.length - (intOf i).toNat)
  case atStart => exact ⟨0, Nat.zero_le _, rfl, World.ownsRow_nil _ _ _ _, Below.refl _ _⟩
  case round =>
    obtain ⟨k, hk, rfl, hown, hbel⟩ := hrel
    have hfl : ((l.take k).filter fun x => decide (x ≠ n)).length ≤ k := Nat.le_trans (List.length_filter_le _ _) (List.length_take_le _ _)
    by_cases hlt : k < l.length
    · obtain h0 | ⟨b, off, rfl, hblk, hcell⟩ := HO.out
      · omega
      have hc : wr.cell? ⟨b, off + k, none⟩ = some (.int .i64 (l.getD k 0)) := by rw [hbel.cell hblk]; exact hcell k hlt
      have hsn := dropn_snoc l n k hlt
      obtain ⟨x, hx⟩ : ∃ x, l.getD k 0 = x := ⟨_, rfl⟩
      rw [hx] at hc hsn
      have hsz := hbel.size
      obtain ⟨N, hN⟩ : ∃ N, ((l.take k).filter fun x => decide (x ≠ n)).length = N := ⟨_, rfl⟩
      rw [hN] at hown hfl
      have HN := Lib.hid hN
      clear hcell hx hN
      by_cases hq : x = n
      · have hqb : (x == n) = true := by simpa using hq
        rw [if_neg (by simpa using hq), List.append_nil] at hsn
        have HS := Lib.hid hsn
        clear hsn hq
        go_wp2
        go_roundw
        case rel => exact ⟨k + 1, by omega, by go_num, by rw [HS.out, HN.out]; exact hown, hbel⟩
        case measure => simp [intOf]; omega
      · have hqb : (x == n) = false := by simpa using hq
        rw [if_pos hq] at hsn
        have HS := Lib.hid hsn
        clear hsn hq
        go_wp2_with (at_builtin; refine wpList_app1 rfl _ _ 26 rfl w.heap.size 3 .i64 8 Try.underlying26 info_int (by omega) _ _ _ rfl hown _ 1 rfl (by omega) hsz ?_; intro v' w' hown' hb')
        go_roundw
        case rel => exact ⟨k + 1, by omega, by go_num, by rw [HS.out, List.length_append, List.map_append, HN.out]; exact hown', hbel.trans hb'⟩
        case measure => simp [intOf]; omega
    · obtain rfl : k = l.length := by omega
      rw [List.take_length] at hown
      have hN := IsNums.ofOwn hown
      have hsz := hbel.size
      have hn9 : (l.filter fun x => decide (x ≠ n)).length ≤ 900 := Nat.le_trans (List.length_filter_le _ _) hl
      clear hown
      go_wp2_with fail
      refine (rof_is _ (l.filter fun x => decide (x ≠ n)) _ hN (by omega) S m HSS.out hm).mono ?_
      rintro e w4 ⟨p4, c4, rfl, hN4, hb4⟩
      have HN4 := Lib.hid hN4
      have hB4 := hbel.trans (hb4.mono hsz)
      clear hN4 hb4 hN
      go_wp2
      go_ret
      exact ⟨_, _, rfl, HN4.out, hB4⟩

end Go.Proofs.Ytmdckdhogbbhlaa.K
