/- package conf in a log's seat (out of Conf2). -/
import Derived.Test.YtmdckdhogbbhlaaConf1
import Derived.Test.YtmdckdhogbbhlaaBytes
namespace Go.Proofs.Ytmdckdhogbbhlaa.K
open Go.ChangeShapes Go.WideShapes Go.ChangeAt Go.RowKit Go.Sort
set_option linter.unusedVariables false
set_option linter.unusedSimpArgs false

theorem info_int : (Try.prog.info? 3).map (fun i => (i.zero, i.size, i.bytes)) = some (some (.int .i64 0), 1, 8) := by kernel_rfl
theorem maybe_any (n : Int) (w : World) : Calls Try.prog 57 #[.int .i64 n] w fun e w' => e = .returned (.bool (okB n)) ∧ w = w' := by
  by_cases h : 0 ≤ n
  · by_cases h7 : n < 7
    · go_enter Try.func57, Try.ntmps57
      go_wp2
      go_ret
      exact ⟨ret_bool (by simp [okB, h, h7]), rfl⟩
    · go_enter Try.func57, Try.ntmps57
      go_wp2
      go_ret
      exact ⟨ret_bool (by simp [okB, h7]), rfl⟩
  · go_enter Try.func57, Try.ntmps57
    go_wp2
    go_ret
    exact ⟨ret_bool (by simp [okB]; omega), rfl⟩
theorem own_take {w : World} {B g cap n m : Nat} {e : TypeId} {xs : List Value} (h : w.ownsRow B e 1 (.slice (some ⟨g, 0, none⟩) n cap) n xs) (hm : m ≤ n) : w.ownsRow B e 1 (.slice (some ⟨g, 0, none⟩) m cap) m (xs.take m) := by
  obtain ⟨h1, ⟨h2, _⟩ | ⟨g', cap', cur, ev, hg, hb, k1, k2, k3, k4⟩⟩ := h
  · cases h2
  · cases ev
    refine ⟨by simp; omega, .inr ⟨g, cap, cur, rfl, hg, hb, by omega, k2, k3, ?_⟩⟩
    rw [← k4, List.take_take]
    congr 1; omega
theorem ownsRow_low {w : World} {B B' : Nat} {e : TypeId} {s : Nat} {v : Value} {n : Nat} {xs : List Value} (h : w.ownsRow B e s v n xs) (hB : B' ≤ B) : w.ownsRow B' e s v n xs := by
  obtain ⟨h1, h2 | ⟨g, cap, cur, a, b, r⟩⟩ := h
  · exact ⟨h1, .inl h2⟩
  · exact ⟨h1, .inr ⟨g, cap, cur, a, Nat.le_trans hB b, r⟩⟩
theorem filter_snoc (l : List Int) (k : Nat) (h : k < l.length) : (l.take (k + 1)).filter okB = (l.take k).filter okB ++ if okB (l.getD k 0) = true then [l.getD k 0] else [] := by
  rw [List.take_succ_eq_append_getElem h, List.filter_append]
  congr 1
  simp only [List.getD, List.getElem?_eq_getElem h, Option.getD_some, List.filter_cons, List.filter_nil]
/-- conf.Of. -/
def OfPost (w : World) (l : List Int) (e : Ending) (w' : World) : Prop :=
  ∃ u, e = .returned u ∧ w'.ownsRow w.heap.size 3 1 u (ofL l).length ((ofL l).map (Value.int .i64)) ∧ Below w.heap.size w w'
set_option maxRecDepth 100000 in
set_option maxHeartbeats 2000000 in
theorem of_any (v : Value) (l : List Int) (w : World) (hv : IsNums .i64 w v l) (hl : l.length ≤ 1000) :
    Calls Try.prog 55 #[v] w (OfPost w l) := by
  obtain ⟨p, c, rfl, h⟩ := hv
  have H := Lib.hid h
  clear h
  go_enter Try.func55, Try.ntmps55
  go_wp2
  go_loopw [3, 8] (fun u i wr => ∃ k : Nat, k ≤ l.length ∧ i = .int .i64 k ∧ wr.ownsRow w.heap.size 3 1 u ((l.take k).filter okB).length (((l.take k).filter okB).map (Value.int .i64)) ∧ Below w.heap.size w wr) (fun _ i _ => l.length - (intOf i).toNat)
  case atStart => exact ⟨0, Nat.zero_le _, rfl, World.ownsRow_nil _ _ _ _, Below.refl _ _⟩
  case round =>
    obtain ⟨k, hk, rfl, hown, hbel⟩ := hrel
    have hfl : ((l.take k).filter okB).length ≤ k := Nat.le_trans (List.length_filter_le _ _) (List.length_take_le _ _)
    by_cases hlt : k < l.length
    · obtain h0 | ⟨b, off, rfl, hblk, hcell⟩ := H.out
      · omega
      have hc : wr.cell? ⟨b, off + k, none⟩ = some (.int .i64 (l.getD k 0)) := by rw [hbel.cell hblk]; exact hcell k hlt
      have hsn := filter_snoc l k hlt
      obtain ⟨x, hx⟩ : ∃ x, l.getD k 0 = x := ⟨_, rfl⟩
      rw [hx] at hc hsn
      have hsz := hbel.size
      obtain ⟨N, hN⟩ : ∃ N, ((l.take k).filter okB).length = N := ⟨_, rfl⟩
      rw [hN] at hown hfl
      have HN := Lib.hid hN
      clear hcell hx hN
      by_cases hok : okB x = true
      · rw [if_pos hok] at hsn
        have HS := Lib.hid hsn
        clear hsn
        go_wp2_with (first | (go_at_call 57; ((with_reducible refine (maybe_any _ _).mono ?_); rintro e w' ⟨rfl, rfl⟩)) | (at_builtin; refine wpList_app1 rfl _ _ 26 rfl w.heap.size 3 .i64 8 Try.underlying26 info_int (by omega) _ _ _ rfl hown _ 1 rfl (by omega) hsz ?_; intro v' w' hown' hb'))
        go_roundw
        case rel => exact ⟨k + 1, by omega, by go_num, by rw [HS.out, List.length_append, List.map_append, HN.out]; exact hown', hbel.trans hb'⟩
        case measure => simp [intOf]; omega
      · have hok' : okB x = false := by simpa using hok
        rw [if_neg hok, List.append_nil] at hsn
        have HS := Lib.hid hsn
        clear hsn hok
        go_wp2_with (go_at_call 57; ((with_reducible refine (maybe_any _ _).mono ?_); rintro e w' ⟨rfl, rfl⟩))
        go_roundw
        case rel => exact ⟨k + 1, by omega, by go_num, by rw [HS.out, HN.out]; exact hown, hbel⟩
        case measure => simp [intOf]; omega
    · obtain rfl : k = l.length := by omega
      rw [List.take_length] at hown hfl
      have hdef : ofL l = Lib.compact ((l.filter okB).mergeSort fun x y => decide (x ≤ y)) := rfl
      generalize l.filter okB = F at hown hfl hdef
      have HD := Lib.hid hdef
      clear hdef
      rcases hown.2 with ⟨rfl, h0⟩ | ⟨g, cap, cur, rfl, hbase, hb, h1, h2, h3, h4⟩
      · obtain rfl := List.length_eq_zero_iff.1 h0
        go_wp2_with (first | (go_at_call 58; refine (Try.slices_Sort_int_none none 0 _).mono ?_; rintro e w' ⟨rfl, rfl⟩) | (go_at_call 59; refine (Try.slices_Compact_int_empty none 0 _).mono ?_; rintro e w' ⟨rfl, rfl⟩))
        go_ret
        have hd0 : ofL l = [] := by rw [HD.out]; simp [Lib.compact, Lib.compactUpTo]
        exact ⟨_, rfl, by rw [hd0]; exact World.ownsRow_nil _ _ _ _, hbel⟩
      · have hg : g < wr.heap.size := (Array.getElem?_eq_some_iff.1 hb).1
        have hsort := Try.slices_Sort_int g 0 cap F wr (holds_of_blockI hb (by simpa using h4)) hg (by omega)
        clear h4
        go_wp2_with fail
        refine hsort.mono ?_
        rintro e w2 ⟨rfl, nn, os, rfl⟩
        have hSl : (F.mergeSort fun x y => decide (x ≤ y)).length = F.length := by simp
        have hown2 := ownsRow_sortedI (w := wr) (n := nn) (os := os) (ss := F) (ts := F.mergeSort fun x y => decide (x ≤ y)) (by simp) hbase hb h1 h2 h3
        have hb2 := hbel.grown (grownBy_sortedI (w := wr) (n := nn) (os := os) (g := g) (F.mergeSort fun x y => decide (x ≤ y)).toArray) hbel.size (fun j hj => by cases hj; exact hbase)
        generalize grow (putRow (Value.int .i64) (Sort.ahead wr nn) g 0 (F.mergeSort fun x y => decide (x ≤ y)).toArray) os = w2 at hown2 hb2 ⊢
        have HSl := Lib.hid hSl
        generalize (F.mergeSort fun x y => decide (x ≤ y)) = S at hown2 hSl HSl HD
        rcases hown2.2 with ⟨hq, _⟩ | ⟨g2, cap2, cur2, ev, hg2, hbb, k1, k2, k3, k4⟩
        · cases hq
        cases ev
        rw [← HSl.out] at h1 k1 k4 ⊢
        have hcomp := Try.slices_Compact_int g 0 cap S w2 (holds_of_blockI hbb (by simpa using k4)) (by omega) k1
        have hcl := Lib.compact_length_le S
        have K1 := Lib.hid k1
        have K2 := Lib.hid k2
        have K3 := Lib.hid k3
        have HBB := Lib.hid hbb
        clear hsort hown hown2 h1 h2 h3 hSl k1 k2 k3 k4 hb hbb
        go_wp2_with fail
        refine hcomp.mono ?_
        rintro e w3 ⟨rfl, q, rfl⟩
        have hZl : (Lib.compact S ++ List.replicate (S.length - (Lib.compact S).length) 0).length = S.length := by simp; omega
        have hown3 := ownsRow_sortedI (w := w2) (n := q) (os := #[]) (ss := S) (ts := Lib.compact S ++ List.replicate (S.length - (Lib.compact S).length) 0) hZl hbase HBB.out K1.out K2.out K3.out
        have hb3 := hb2.grown (grownBy_sortedI (w := w2) (n := q) (os := #[]) (g := g) (Lib.compact S ++ List.replicate (S.length - (Lib.compact S).length) 0).toArray) hb2.size (fun j hj => by cases hj; exact hbase)
        rw [grow_empty] at hown3 hb3
        have hown4 := own_take hown3 hcl
        rw [← List.map_take, List.take_left' rfl] at hown4
        clear hown3 hcomp hb2
        go_wp2
        go_ret
        exact ⟨_, rfl, by rw [HD.out]; exact hown4, hb3⟩
/-- What a list of members is read as, behind a call that made it. -/
def ListPost (w : World) (l : List Int) (e : Ending) (w' : World) : Prop :=
  ∃ u, e = .returned u ∧ w'.ownsRow w.heap.size 3 1 u l.length (l.map (Value.int .i64)) ∧ Below w.heap.size w w'
theorem ofL_len (l : List Int) : (ofL l).length ≤ 7 := by rw [ofL_canon]; exact canon_len l
set_option maxRecDepth 100000 in
set_option maxHeartbeats 2000000 in
theorem with_any (v : Value) (l : List Int) (n : Int) (w : World) (hv : IsNums .i64 w v l) (hl : l.length ≤ 900) :
    Calls Try.prog 51 #[v, .int .i64 n] w (ListPost w (ofL (ofL l ++ [n]))) := by
  obtain ⟨p, c, rfl, -⟩ := id hv
  have H := Lib.hid hv
  clear hv
  go_enter Try.func51, Try.ntmps51
  go_wp2_with fail
  refine (of_any _ l _ H.out (by omega)).mono ?_
  rintro e w1 ⟨u, rfl, hown, hb⟩
  have hn := ofL_len l
  have hz := hb.size
  go_wp2_with (at_builtin; refine wpList_app1 rfl _ _ 26 rfl w.heap.size 3 .i64 8 Try.underlying26 info_int (by omega) _ _ _ rfl hown _ 1 rfl (by omega) hz ?_; intro v2 w2 hown2 hb2)
  have hN2 : IsNums .i64 w2 v2 (ofL l ++ [n]) := IsNums.ofOwn (B := w.heap.size) (e := 3) (n := (ofL l).length + 1) (by simpa using hown2)
  have hB2 := hb.trans hb2
  refine (of_any _ _ _ hN2 (by simp; omega)).mono ?_
  rintro e w3 ⟨u3, rfl, hown3, hb3⟩
  have hB3 := hB2.trans (hb3.mono hB2.size)
  have hown4 := ownsRow_low hown3 hB2.size
  clear hown hown2 hown3 hN2 hb hb2 hb3 hB2
  go_wp2
  go_ret
  exact ⟨_, rfl, hown4, hB3⟩
theorem dropn_snoc (l : List Int) (n : Int) (k : Nat) (h : k < l.length) : (l.take (k + 1)).filter (fun x => decide (x ≠ n)) = (l.take k).filter (fun x => decide (x ≠ n)) ++ if l.getD k 0 ≠ n then [l.getD k 0] else [] := by
  rw [List.take_succ_eq_append_getElem h, List.filter_append]
  congr 1
  simp only [List.getD, List.getElem?_eq_getElem h, Option.getD_some, List.filter_cons, List.filter_nil, decide_eq_true_eq]
set_option maxRecDepth 100000 in
set_option maxHeartbeats 2000000 in
theorem without_any (v : Value) (l : List Int) (n : Int) (w : World) (hv : IsNums .i64 w v l) (hl : l.length ≤ 900) :
    Calls Try.prog 52 #[v, .int .i64 n] w (ListPost w ((ofL l).filter fun x => decide (x ≠ n))) := by
  obtain ⟨p, c, rfl, -⟩ := id hv
  have H := Lib.hid hv
  clear hv
  go_enter Try.func52, Try.ntmps52
  go_wp2_with fail
  refine (of_any _ l _ H.out (by omega)).mono ?_
  rintro e w1 ⟨u, rfl, hown, hb⟩
  have hn := ofL_len l
  have hz := hb.size
  obtain ⟨O, hOO⟩ : ∃ O, ofL l = O := ⟨_, rfl⟩
  rw [hOO] at hown hn
  have HOO := Lib.hid hOO
  clear hOO
  have hO := IsNums.ofOwn hown
  obtain ⟨pu, cu, rfl, hO⟩ := hO
  have HO := Lib.hid hO
  clear hown hO
  obtain ⟨wo, rfl⟩ : ∃ wo : World, wo = w1 := ⟨_, rfl⟩
  go_wp2
  go_loopw [5, 11] (fun u i wr => ∃ k : Nat, k ≤ O.length ∧ i = .int .i64 k ∧ wr.ownsRow wo.heap.size 3 1 u ((O.take k).filter fun x => decide (x ≠ n)).length (((O.take k).filter fun x => decide (x ≠ n)).map (Value.int .i64)) ∧ Below wo.heap.size wo wr) (fun _ i _ => O.length - (intOf i).toNat)
  case atStart => exact ⟨0, Nat.zero_le _, rfl, World.ownsRow_nil _ _ _ _, Below.refl _ _⟩
  case round =>
    obtain ⟨k, hk, rfl, hown, hbel⟩ := hrel
    have hfl : ((O.take k).filter fun x => decide (x ≠ n)).length ≤ k := Nat.le_trans (List.length_filter_le _ _) (List.length_take_le _ _)
    by_cases hlt : k < O.length
    · obtain h0 | ⟨b, off, rfl, hblk, hcell⟩ := HO.out
      · omega
      have hc : wr.cell? ⟨b, off + k, none⟩ = some (.int .i64 (O.getD k 0)) := by rw [hbel.cell hblk]; exact hcell k hlt
      have hsn := dropn_snoc O n k hlt
      obtain ⟨x, hx⟩ : ∃ x, O.getD k 0 = x := ⟨_, rfl⟩
      rw [hx] at hc hsn
      have hsz := hbel.size
      obtain ⟨N, hN⟩ : ∃ N, ((O.take k).filter fun x => decide (x ≠ n)).length = N := ⟨_, rfl⟩
      rw [hN] at hown hfl
      have HN := Lib.hid hN
      clear hcell hx hN
      by_cases hq : x = n
      · have hqb : (x == n) = true := by simpa using hq
        rw [if_neg (by simpa using hq), List.append_nil] at hsn
        have HS := Lib.hid hsn
        clear hsn hq
        go_wp2
        go_roundw
        case rel => exact ⟨k + 1, by omega, by go_num, by rw [HS.out, HN.out]; exact hown, hbel⟩
        case measure => simp [intOf]; omega
      · have hqb : (x == n) = false := by simpa using hq
        rw [if_pos hq] at hsn
        have HS := Lib.hid hsn
        clear hsn hq
        go_wp2_with (at_builtin; refine wpList_app1 rfl _ _ 26 rfl wo.heap.size 3 .i64 8 Try.underlying26 info_int (by omega) _ _ _ rfl hown _ 1 rfl (by omega) hsz ?_; intro v' w' hown' hb')
        go_roundw
        case rel => exact ⟨k + 1, by omega, by go_num, by rw [HS.out, List.length_append, List.map_append, HN.out]; exact hown', hbel.trans hb'⟩
        case measure => simp [intOf]; omega
    · obtain rfl : k = O.length := by omega
      rw [List.take_length] at hown
      have hB3 := hb.trans (hbel.mono hz)
      have hown4 := ownsRow_low hown hz
      go_wp2
      go_ret
      exact ⟨_, rfl, by rw [HOO.out]; exact hown4, hB3⟩

end Go.Proofs.Ytmdckdhogbbhlaa.K
