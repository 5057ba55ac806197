/- General laws of walks. -/
import Derived.Test.YtndnnlbdnjndiaaGreatG7
import Derived.Test.YtndnnlbdnjndiaaGreatG1
section
namespace Go.Proofs.YtndnnlbdnjndiaaGreat.K
open Go.ChangeShapes Go.WideShapes Go.ChangeAt Go.RowKit Go.Sort
set_option linter.unusedVariables false
set_option linter.unusedSimpArgs false

theorem info_int : (Tryz.prog.info? 3).map (fun i => (i.zero, i.size, i.bytes)) = some (some (.int .i64 0), 1, 8) := by kernel_rfl
theorem maybe_any (n : Int) (w : World) : Calls Tryz.prog 131 #[.int .i64 n] w fun e w' => e = .returned (.bool (okB n)) ∧ w = w' := by
 by_cases h : 0 ≤ n
 · by_cases h7 : n < 7
   · go_enter Tryz.func131, Tryz.ntmps131
     go_wp2
     go_ret
     exact ⟨ret_bool (by simp [okB, h, h7]), rfl⟩
   · go_enter Tryz.func131, Tryz.ntmps131
     go_wp2
     go_ret
     exact ⟨ret_bool (by simp [okB, h7]), rfl⟩
 · go_enter Tryz.func131, Tryz.ntmps131
   go_wp2
   go_ret
   exact ⟨ret_bool (by simp [okB]; omega), rfl⟩
theorem own_take {w : World} {B g cap n m : Nat} {e : TypeId} {xs : List Value} (h : w.ownsRow B e 1 (.slice (some ⟨g, 0, none⟩) n cap) n xs) (hm : m ≤ n) : w.ownsRow B e 1 (.slice (some ⟨g, 0, none⟩) m cap) m (xs.take m) := by
 obtain ⟨h1, ⟨h2, _⟩ | ⟨g', cap', cur, ev, hg, hb, k1, k2, k3, k4⟩⟩ := h
 · cases h2
 · cases ev
   refine ⟨by simp; omega, .inr ⟨g, cap, cur, rfl, hg, hb, by omega, k2, k3, ?_⟩⟩
   rw [← k4, List.take_take]
   congr 1; omega
theorem ownsRow_low {w : World} {B B' : Nat} {e : TypeId} {s : Nat} {v : Value} {n : Nat} {xs : List Value} (h : w.ownsRow B e s v n xs) (hB : B' ≤ B) : w.ownsRow B' e s v n xs := by
 obtain ⟨h1, h2 | ⟨g, cap, cur, a, b, r⟩⟩ := h
 · exact ⟨h1, .inl h2⟩
 · exact ⟨h1, .inr ⟨g, cap, cur, a, Nat.le_trans hB b, r⟩⟩
theorem filter_snoc (l : List Int) (k : Nat) (h : k < l.length) : (l.take (k + 1)).filter okB = (l.take k).filter okB ++ if okB (l.getD k 0) = true then [l.getD k 0] else [] := by
 rw [List.take_succ_eq_append_getElem h, List.filter_append]
 congr 1
 simp only [List.getD, List.getElem?_eq_getElem h, Option.getD_some, List.filter_cons, List.filter_nil]
def OfPost (w : World) (l : List Int) (e : Ending) (w' : World) : Prop :=
 ∃ u, e = .returned u ∧ w'.ownsRow w.heap.size 3 1 u (ofL l).length ((ofL l).map (Value.int .i64)) ∧ Below w.heap.size w w'
set_option maxRecDepth 100000 in
set_option maxHeartbeats 2000000 in
theorem of_any (v : Value) (l : List Int) (w : World) (hv : IsNums .i64 w v l) (hl : l.length ≤ 1000) :
   Calls Tryz.prog 88 #[v] w (OfPost w l) := by
 obtain ⟨p, c, rfl, h⟩ := hv
 have H := Lib.hid h
 clear h
 go_enter Tryz.func88, Tryz.ntmps88
 go_wp2
 go_loopw [3, 8] (fun u i wr => ∃ k : Nat, k ≤ l.length ∧ i = .int .i64 k ∧ wr.ownsRow w.heap.size 3 1 u ((l.take k).filter okB).length (((l.take k).filter okB).map (Value.int .i64)) ∧ Below w.heap.size w wr) (fun _ i _ => l.length - (intOf i).toNat)
 case atStart => exact ⟨0, Nat.zero_le _, rfl, World.ownsRow_nil _ _ _ _, Below.refl _ _⟩
 case round =>
   obtain ⟨k, hk, rfl, hown, hbel⟩ := hrel
   have hfl : ((l.take k).filter okB).length ≤ k := Nat.le_trans (List.length_filter_le _ _) (List.length_take_le _ _)
   by_cases hlt : k < l.length
   · obtain h0 | ⟨b, off, rfl, hblk, hcell⟩ := H.out
     · omega
     have hc : wr.cell? ⟨b, off + k, none⟩ = some (.int .i64 (l.getD k 0)) := by rw [hbel.cell hblk]; exact hcell k hlt
     have hsn := filter_snoc l k hlt
     obtain ⟨x, hx⟩ : ∃ x, l.getD k 0 = x := ⟨_, rfl⟩
     rw [hx] at hc hsn
     have hsz := hbel.size
     obtain ⟨N, hN⟩ : ∃ N, ((l.take k).filter okB).length = N := ⟨_, rfl⟩
     rw [hN] at hown hfl
     have HN := Lib.hid hN
     clear hcell hx hN
     by_cases hok : okB x = true
     · rw [if_pos hok] at hsn
       have HS := Lib.hid hsn
       clear hsn
       go_wp2_with (first | (go_at_call 131; ((with_reducible refine (maybe_any _ _).mono ?_); rintro e w' ⟨rfl, rfl⟩)) | (at_builtin; refine wpList_app1 rfl _ _ 26 rfl w.heap.size 3 .i64 8 Tryz.underlying26 info_int (by omega) _ _ _ rfl hown _ 1 rfl (by omega) hsz ?_; intro v' w' hown' hb'))
       go_roundw
       case rel => exact ⟨k + 1, by omega, by go_num, by rw [HS.out, List.length_append, List.map_append, HN.out]; exact hown', hbel.trans hb'⟩
       case measure => simp [intOf]; omega
     · have hok' : okB x = false := by simpa using hok
       rw [if_neg hok, List.append_nil] at hsn
       have HS := Lib.hid hsn
       clear hsn hok
       go_wp2_with (go_at_call 131; ((with_reducible refine (maybe_any _ _).mono ?_); rintro e w' ⟨rfl, rfl⟩))
       go_roundw
       case rel => exact ⟨k + 1, by omega, by go_num, by rw [HS.out, HN.out]; exact hown, hbel⟩
       case measure => simp [intOf]; omega
   · obtain rfl : k = l.length := by omega
     rw [List.take_length] at hown hfl
     have hdef : ofL l = Lib.compact ((l.filter okB).mergeSort fun x y => decide (x ≤ y)) := rfl
     generalize l.filter okB = F at hown hfl hdef
     have HD := Lib.hid hdef
     clear hdef
     rcases hown.2 with ⟨rfl, h0⟩ | ⟨g, cap, cur, rfl, hbase, hb, h1, h2, h3, h4⟩
     · obtain rfl := List.length_eq_zero_iff.1 h0
       go_wp2_with (first | (go_at_call 132; refine (Tryz.slices_Sort_int_none none 0 _).mono ?_; rintro e w' ⟨rfl, rfl⟩) | (go_at_call 133; refine (Tryz.slices_Compact_int_empty none 0 _).mono ?_; rintro e w' ⟨rfl, rfl⟩))
       go_ret
       have hd0 : ofL l = [] := by rw [HD.out]; simp [Lib.compact, Lib.compactUpTo]
       exact ⟨_, rfl, by rw [hd0]; exact World.ownsRow_nil _ _ _ _, hbel⟩
     · have hg : g < wr.heap.size := (Array.getElem?_eq_some_iff.1 hb).1
       have hsort := Tryz.slices_Sort_int g 0 cap F wr (holds_of_blockI hb (by simpa using h4)) hg (by omega)
       clear h4
       go_wp2_with fail
       refine hsort.mono ?_
       rintro e w2 ⟨rfl, nn, os, rfl⟩
       have hSl : (F.mergeSort fun x y => decide (x ≤ y)).length = F.length := by simp
       have hown2 := ownsRow_sortedI (w := wr) (n := nn) (os := os) (ss := F) (ts := F.mergeSort fun x y => decide (x ≤ y)) (by simp) hbase hb h1 h2 h3
       have hb2 := hbel.grown (grownBy_sortedI (w := wr) (n := nn) (os := os) (g := g) (F.mergeSort fun x y => decide (x ≤ y)).toArray) hbel.size (fun j hj => by cases hj; exact hbase)
       generalize grow (putRow (Value.int .i64) (Sort.ahead wr nn) g 0 (F.mergeSort fun x y => decide (x ≤ y)).toArray) os = w2 at hown2 hb2 ⊢
       have HSl := Lib.hid hSl
       generalize (F.mergeSort fun x y => decide (x ≤ y)) = S at hown2 hSl HSl HD
       rcases hown2.2 with ⟨hq, _⟩ | ⟨g2, cap2, cur2, ev, hg2, hbb, k1, k2, k3, k4⟩
       · cases hq
       cases ev
       rw [← HSl.out] at h1 k1 k4 ⊢
       have hcomp := Tryz.slices_Compact_int g 0 cap S w2 (holds_of_blockI hbb (by simpa using k4)) (by omega) k1
       have hcl := Lib.compact_length_le S
       have K1 := Lib.hid k1
       have K2 := Lib.hid k2
       have K3 := Lib.hid k3
       have HBB := Lib.hid hbb
       clear hsort hown hown2 h1 h2 h3 hSl k1 k2 k3 k4 hb hbb
       go_wp2_with fail
       refine hcomp.mono ?_
       rintro e w3 ⟨rfl, q, rfl⟩
       have hZl : (Lib.compact S ++ List.replicate (S.length - (Lib.compact S).length) 0).length = S.length := by simp; omega
       have hown3 := ownsRow_sortedI (w := w2) (n := q) (os := #[]) (ss := S) (ts := Lib.compact S ++ List.replicate (S.length - (Lib.compact S).length) 0) hZl hbase HBB.out K1.out K2.out K3.out
       have hb3 := hb2.grown (grownBy_sortedI (w := w2) (n := q) (os := #[]) (g := g) (Lib.compact S ++ List.replicate (S.length - (Lib.compact S).length) 0).toArray) hb2.size (fun j hj => by cases hj; exact hbase)
       rw [grow_empty] at hown3 hb3
       have hown4 := own_take hown3 hcl
       rw [← List.map_take, List.take_left' rfl] at hown4
       clear hown3 hcomp hb2
       go_wp2
       go_ret
       exact ⟨_, rfl, by rw [HD.out]; exact hown4, hb3⟩
def ListPost (w : World) (l : List Int) (e : Ending) (w' : World) : Prop :=
 ∃ u, e = .returned u ∧ w'.ownsRow w.heap.size 3 1 u l.length (l.map (Value.int .i64)) ∧ Below w.heap.size w w'
theorem ofL_len (l : List Int) : (ofL l).length ≤ 7 := by rw [ofL_canon]; exact canon_len l
set_option maxRecDepth 100000 in
set_option maxHeartbeats 2000000 in
theorem with_any (v : Value) (l : List Int) (n : Int) (w : World) (hv : IsNums .i64 w v l) (hl : l.length ≤ 900) :
   Calls Tryz.prog 141 #[v, .int .i64 n] w (ListPost w (ofL (ofL l ++ [n]))) := by
 obtain ⟨p, c, rfl, -⟩ := id hv
 have H := Lib.hid hv
 clear hv
 go_enter Tryz.func141, Tryz.ntmps141
 go_wp2_with fail
 refine (of_any _ l _ H.out (by omega)).mono ?_
 rintro e w1 ⟨u, rfl, hown, hb⟩
 have hn := ofL_len l
 have hz := hb.size
 go_wp2_with (at_builtin; refine wpList_app1 rfl _ _ 26 rfl w.heap.size 3 .i64 8 Tryz.underlying26 info_int (by omega) _ _ _ rfl hown _ 1 rfl (by omega) hz ?_; intro v2 w2 hown2 hb2)
 have hN2 : IsNums .i64 w2 v2 (ofL l ++ [n]) := IsNums.ofOwn (B := w.heap.size) (e := 3) (n := (ofL l).length + 1) (by simpa using hown2)
 have hB2 := hb.trans hb2
 refine (of_any _ _ _ hN2 (by simp; omega)).mono ?_
 rintro e w3 ⟨u3, rfl, hown3, hb3⟩
 have hB3 := hB2.trans (hb3.mono hB2.size)
 have hown4 := ownsRow_low hown3 hB2.size
 clear hown hown2 hown3 hN2 hb hb2 hb3 hB2
 go_wp2
 go_ret
 exact ⟨_, rfl, hown4, hB3⟩
theorem dropn_snoc (l : List Int) (n : Int) (k : Nat) (h : k < l.length) : (l.take (k + 1)).filter (fun x => decide (x ≠ n)) = (l.take k).filter (fun x => decide (x ≠ n)) ++ if l.getD k 0 ≠ n then [l.getD k 0] else [] := by
 rw [List.take_succ_eq_append_getElem h, List.filter_append]
 congr 1
 simp only [List.getD, List.getElem?_eq_getElem h, Option.getD_some, List.filter_cons, List.filter_nil, decide_eq_true_eq]
set_option maxRecDepth 100000 in
set_option maxHeartbeats 2000000 in
theorem without_any (v : Value) (l : List Int) (n : Int) (w : World) (hv : IsNums .i64 w v l) (hl : l.length ≤ 900) :
   Calls Tryz.prog 128 #[v, .int .i64 n] w (ListPost w ((ofL l).filter fun x => decide (x ≠ n))) := by
 obtain ⟨p, c, rfl, -⟩ := id hv
 have H := Lib.hid hv
 clear hv
 go_enter Tryz.func128, Tryz.ntmps128
 go_wp2_with fail
 refine (of_any _ l _ H.out (by omega)).mono ?_
 rintro e w1 ⟨u, rfl, hown, hb⟩
 have hn := ofL_len l
 have hz := hb.size
 obtain ⟨O, hOO⟩ : ∃ O, ofL l = O := ⟨_, rfl⟩
 rw [hOO] at hown hn
 have HOO := Lib.hid hOO
 clear hOO
 have hO := IsNums.ofOwn hown
 obtain ⟨pu, cu, rfl, hO⟩ := hO
 have HO := Lib.hid hO
 clear hown hO
 obtain ⟨wo, rfl⟩ : ∃ wo : World, wo = w1 := ⟨_, rfl⟩
 go_wp2
 go_loopw [5, 11] (fun u i wr => ∃ k : Nat, k ≤ O.length ∧ i = .int .i64 k ∧ wr.ownsRow wo.heap.size 3 1 u ((O.take k).filter fun x => decide (x ≠ n)).length (((O.take k).filter fun x => decide (x ≠ n)).map (Value.int .i64)) ∧ Below wo.heap.size wo wr) (fun _ i _ => O.length - (intOf i).toNat)
 case atStart => exact ⟨0, Nat.zero_le _, rfl, World.ownsRow_nil _ _ _ _, Below.refl _ _⟩
 case round =>
   obtain ⟨k, hk, rfl, hown, hbel⟩ := hrel
   have hfl : ((O.take k).filter fun x => decide (x ≠ n)).length ≤ k := Nat.le_trans (List.length_filter_le _ _) (List.length_take_le _ _)
   by_cases hlt : k < O.length
   · obtain h0 | ⟨b, off, rfl, hblk, hcell⟩ := HO.out
     · omega
     have hc : wr.cell? ⟨b, off + k, none⟩ = some (.int .i64 (O.getD k 0)) := by rw [hbel.cell hblk]; exact hcell k hlt
     have hsn := dropn_snoc O n k hlt
     obtain ⟨x, hx⟩ : ∃ x, O.getD k 0 = x := ⟨_, rfl⟩
     rw [hx] at hc hsn
     have hsz := hbel.size
     obtain ⟨N, hN⟩ : ∃ N, ((O.take k).filter fun x => decide (x ≠ n)).length = N := ⟨_, rfl⟩
     rw [hN] at hown hfl
     have HN := Lib.hid hN
     clear hcell hx hN
     by_cases hq : x = n
     · have hqb : (x == n) = true := by simpa using hq
       rw [if_neg (by simpa using hq), List.append_nil] at hsn
       have HS := Lib.hid hsn
       clear hsn hq
       go_wp2
       go_roundw
       case rel => exact ⟨k + 1, by omega, by go_num, by rw [HS.out, HN.out]; exact hown, hbel⟩
       case measure => simp [intOf]; omega
     · have hqb : (x == n) = false := by simpa using hq
       rw [if_pos hq] at hsn
       have HS := Lib.hid hsn
       clear hsn hq
       go_wp2_with (at_builtin; refine wpList_app1 rfl _ _ 26 rfl wo.heap.size 3 .i64 8 Tryz.underlying26 info_int (by omega) _ _ _ rfl hown _ 1 rfl (by omega) hsz ?_; intro v' w' hown' hb')
       go_roundw
       case rel => exact ⟨k + 1, by omega, by go_num, by rw [HS.out, List.length_append, List.map_append, HN.out]; exact hown', hbel.trans hb'⟩
       case measure => simp [intOf]; omega
   · obtain rfl : k = O.length := by omega
     rw [List.take_length] at hown
     have hB3 := hb.trans (hbel.mono hz)
     have hown4 := ownsRow_low hown hz
     go_wp2
     go_ret
     exact ⟨_, rfl, by rw [HOO.out]; exact hown4, hB3⟩

end Go.Proofs.YtndnnlbdnjndiaaGreat.K
end
namespace Go.Proofs.YtndnnlbdnjndiaaGreat.K
open Go.ChangeShapes Go.WideShapes Go.ChangeAt Go.RowKit
set_option linter.unusedVariables false
set_option linter.unusedSimpArgs false
section
def timeOk (n low : Int) : Bool := decide (low ≤ n ∧ n ≤ 1099511627776)
theorem time_any (n low : Int) (w : World) :
   Calls Tryz.prog 145 #[.int .i64 n, .int .i64 low] w fun e w' => e = .returned (.bool (timeOk n low)) ∧ w' = w := by
 by_cases h1 : low ≤ n
 · by_cases h2 : n ≤ 1099511627776
   · go_enter Tryz.func145, Tryz.ntmps145
     go_wp2
     go_ret
     exact ⟨ret_bool (by simp [timeOk, h1, h2]), rfl⟩
   · go_enter Tryz.func145, Tryz.ntmps145
     go_wp2
     go_ret
     exact ⟨ret_bool (by simp [timeOk]; omega), rfl⟩
 · go_enter Tryz.func145, Tryz.ntmps145
   go_wp2
   go_ret
   exact ⟨ret_bool (by simp [timeOk]; omega), rfl⟩
def dataOk (k : Int) (d : List Int) : Bool :=
 if k = 0 then decide (d.length = 0) else if k = 1 then decide (d.length ≤ 32767) else if k = 2 then decide (d.length = 2 ∧ d.getD 0 0 < 7 ∧ d.getD 1 0 ≤ 1) else false
set_option maxRecDepth 100000 in
theorem dataRight_any (k : Int) (v : Value) (d : List Int) (w : World) (hv : IsNums .u8 w v d) :
   Calls Tryz.prog 146 #[.int .i64 k, v] w fun e w' => e = .returned (.bool (dataOk k d)) ∧ w' = w := by
 obtain ⟨a, c, rfl, hd⟩ := hv
 by_cases k0 : k = 0
 · subst k0
   obtain ⟨n, hn⟩ : ∃ n, d.length = n := ⟨_, rfl⟩
   rw [hn]
   have hz : dataOk 0 d = decide (n = 0) := by unfold dataOk; rw [if_pos rfl, hn]
   rw [hz]
   clear hd hz hn
   by_cases n0 : n = 0
   · subst n0
     go_enter Tryz.func146, Tryz.ntmps146
     go_wp2
     go_ret
     exact ⟨rfl, rfl⟩
   · have nI : ¬ (n : Int) = 0 := by omega
     go_enter Tryz.func146, Tryz.ntmps146
     go_wp2
     go_ret
     exact ⟨ret_bool (by simp [n0]), rfl⟩
 · by_cases k1 : k = 1
   · subst k1
     obtain ⟨n, hn⟩ : ∃ n, d.length = n := ⟨_, rfl⟩
     rw [hn]
     have hz : dataOk 1 d = decide (n ≤ 32767) := by unfold dataOk; rw [if_neg (by decide), if_pos rfl, hn]
     rw [hz]
     clear hd hz hn k0
     by_cases n0 : n ≤ 32767
     · have nI : (n : Int) ≤ 32767 := by omega
       go_enter Tryz.func146, Tryz.ntmps146
       go_wp2
       go_ret
       exact ⟨ret_bool (by simp [n0]), rfl⟩
     · have nI : ¬ (n : Int) ≤ 32767 := by omega
       go_enter Tryz.func146, Tryz.ntmps146
       go_wp2
       go_ret
       exact ⟨ret_bool (by simp [n0]), rfl⟩
   · by_cases k2 : k = 2
     · subst k2
       have hz : dataOk 2 d = decide (d.length = 2 ∧ d.getD 0 0 < 7 ∧ d.getD 1 0 ≤ 1) := by unfold dataOk; rw [if_neg (by decide), if_neg (by decide), if_pos rfl]
       rw [hz]
       obtain ⟨n, hn⟩ : ∃ n, d.length = n := ⟨_, rfl⟩
       rw [hn] at hd ⊢
       have HN := Lib.hid hn
       clear hz hn k0 k1
       by_cases n0 : n = 2
       · subst n0
         obtain hd | ⟨b, off, rfl, hlt, hc⟩ := hd
         · omega
         have c0 := hc 0 (by omega)
         have c1 := hc 1 (by omega)
         obtain ⟨x, hx⟩ : ∃ x, d.getD 0 0 = x := ⟨_, rfl⟩
         obtain ⟨y, hy⟩ : ∃ x, d.getD 1 0 = x := ⟨_, rfl⟩
         rw [hx] at c0 ⊢
         rw [hy] at c1 ⊢
         rw [Nat.add_zero] at c0
         clear hc hx hy
         by_cases x0 : x < 7
         · by_cases y0 : y ≤ 1
           · go_enter Tryz.func146, Tryz.ntmps146
             go_wp2
             go_ret
             exact ⟨ret_bool (by simp [x0, y0]), rfl⟩
           · go_enter Tryz.func146, Tryz.ntmps146
             go_wp2
             go_ret
             exact ⟨ret_bool (by simp; omega), rfl⟩
         · go_enter Tryz.func146, Tryz.ntmps146
           go_wp2
           go_ret
           exact ⟨ret_bool (by simp; omega), rfl⟩
       · have nI : ¬ (n : Int) = 2 := by omega
         clear hd
         go_enter Tryz.func146, Tryz.ntmps146
         go_wp2
         go_ret
         exact ⟨ret_bool (by simp [n0]), rfl⟩
     · have hz : dataOk k d = false := by unfold dataOk; rw [if_neg k0, if_neg k1, if_neg k2]
       rw [hz]
       clear hd hz
       go_enter Tryz.func146, Tryz.ntmps146
       go_wp2
       go_ret
       exact ⟨rfl, rfl⟩
def entV (i t k : Int) (v : Value) : Value := .agg #[.int .i64 i, .int .i64 t, .int .i64 k, v]
def entOk (i t k : Int) (d : List Int) : Bool := timeOk i 1 && timeOk t 0 && dataOk k d
set_option maxRecDepth 100000 in
theorem entRight_any (i t k : Int) (v : Value) (d : List Int) (w : World) (hv : IsNums .u8 w v d) :
   Calls Tryz.prog 114 #[entV i t k v] w fun e w' => e = .returned (.bool (entOk i t k d)) ∧ Below w.heap.size w w' := by
 have hb := (Below.refl w.heap.size w).alloc (Nat.le_refl _) (.cells #[.int .i64 i, .int .i64 t, .int .i64 k, v] 62)
 have hx := Blk.alloc w 62 #[.int .i64 i, .int .i64 t, .int .i64 k, v]
 have hn := hv.alloc (.cells #[.int .i64 i, .int .i64 t, .int .i64 k, v] 62)
 obtain ⟨a, c, rfl, -⟩ := id hv
 have x0 := hx.cell 0
 have x1 := hx.cell 1
 have x2 := hx.cell 2
 have x3 := hx.cell 3
 have B := Lib.hid hb
 have HNN := Lib.hid hn
 unfold entV
 cases h1 : timeOk i 1 with
 | false =>
   have hz : entOk i t k d = false := by unfold entOk; rw [h1]; rfl
   rw [hz]
   have H1 := Lib.hid h1
   clear hb hx hn hv h1 hz
   go_enter Tryz.func114, Tryz.ntmps114
   go_wp2_with fail
   refine (time_any i 1 _).mono ?_
   rintro e w1 ⟨rfl, rfl⟩
   rw [H1.out]
   go_wp2
   go_ret
   exact ⟨rfl, B.out⟩
 | true =>
   have H1 := Lib.hid h1
   cases h2 : timeOk t 0 with
   | false =>
     have hz : entOk i t k d = false := by unfold entOk; rw [h1, h2]; rfl
     rw [hz]
     have H2 := Lib.hid h2
     clear hb hx hn hv h1 h2 hz
     go_enter Tryz.func114, Tryz.ntmps114
     go_wp2_with fail
     refine (time_any i 1 _).mono ?_
     rintro e w1 ⟨rfl, rfl⟩
     rw [H1.out]
     go_wp2_with fail
     refine (time_any t 0 _).mono ?_
     rintro e w1 ⟨rfl, rfl⟩
     rw [H2.out]
     go_wp2
     go_ret
     exact ⟨rfl, B.out⟩
   | true =>
     have hz : entOk i t k d = dataOk k d := by unfold entOk; rw [h1, h2]; rfl
     rw [hz]
     have H2 := Lib.hid h2
     clear hb hx hn hv h1 h2 hz
     go_enter Tryz.func114, Tryz.ntmps114
     go_wp2_with fail
     refine (time_any i 1 _).mono ?_
     rintro e w1 ⟨rfl, rfl⟩
     rw [H1.out]
     go_wp2_with fail
     refine (time_any t 0 _).mono ?_
     rintro e w1 ⟨rfl, rfl⟩
     rw [H2.out]
     go_wp2_with fail
     refine (dataRight_any k _ d _ HNN.out).mono ?_
     rintro e w1 ⟨rfl, rfl⟩
     obtain ⟨bq, hbq⟩ : ∃ b, dataOk k d = b := ⟨_, rfl⟩
     rw [hbq]
     go_wp2
     go_ret
     exact ⟨by rw [hbq]; rfl, B.out⟩
end
section
theorem sz5ch : (Tryz.prog.info? 5).map (·.size) = some 1 := by kernel_rfl
theorem sz62cf : (Tryz.prog.info? 62).map (·.size) = some 4 := by kernel_rfl
theorem zc62cf : ((Tryz.prog.info? 62).bind (·.zero)).map (·.cells.toList) = some [.int .i64 0, .int .i64 0, .int .i64 0, .slice none 0 0] := by kernel_rfl

def ByteL (d : List Int) : Prop := ∀ z ∈ d, 0 ≤ z ∧ z ≤ 255
def EntsB (es : List (Int × Int × Int × List Int)) : Prop := ∀ e ∈ es, ByteL e.2.2.2
def chgL (ms d : List Int) : List Int := if d.getD 1 0 = 1 then ofL (ofL ms ++ [d.getD 0 0]) else (ofL ms).filter fun x => decide (x ≠ d.getD 0 0)
theorem chgL_len (ms d : List Int) : (chgL ms d).length ≤ 7 := by
 unfold chgL; split
 · exact ofL_len _
 · exact Nat.le_trans (List.length_filter_le _ _) (ofL_len _)
def confStep (ms : List Int) (e : Int × Int × Int × List Int) : List Int := if e.2.2.1 = 2 ∧ entOk e.1 e.2.1 e.2.2.1 e.2.2.2 = true then chgL ms e.2.2.2 else ms
def confTo (cf : List Int) (l : List (Int × Int × Int × List Int)) : List Int := l.foldl confStep cf
def confL (cf : List Int) (es : List (Int × Int × Int × List Int)) (i : Int) : List Int := confTo cf (es.takeWhile fun e => decide (e.1 ≤ i))
theorem conf_yes {cf ms : List Int} {es : List (Int × Int × Int × List Int)} {k : Nat} {ei et ek : Int} {ed : List Int} (h : ms = confTo cf (es.take k)) (hes : es[k]? = some (ei, et, ek, ed)) (h1 : ek = 2) (h2 : entOk ei et ek ed = true) : chgL ms ed = confTo cf (es.take (k + 1)) := by
 rw [take_snoc hes, confTo, List.foldl_append, List.foldl_cons, List.foldl_nil, confStep, if_pos ⟨h1, h2⟩, h]; rfl
theorem conf_no {cf ms : List Int} {es : List (Int × Int × Int × List Int)} {k : Nat} {ei et ek : Int} {ed : List Int} (h : ms = confTo cf (es.take k)) (hes : es[k]? = some (ei, et, ek, ed)) (h1 : ¬ ek = 2 ∨ entOk ei et ek ed = false) : ms = confTo cf (es.take (k + 1)) := by
 rw [take_snoc hes, confTo, List.foldl_append, List.foldl_cons, List.foldl_nil, confStep, if_neg, h]; rfl
 rintro ⟨a, b⟩
 rcases h1 with h1 | h1
 · exact h1 a
 · rw [show entOk ei et ek ed = true from b] at h1; cases h1
theorem le_snoc {es : List (Int × Int × Int × List Int)} {k : Nat} {i : Int} {ei et ek : Int} {ed : List Int} (h : ∀ j, j < k → (es.getD j e0).1 ≤ i) (hes : es[k]? = some (ei, et, ek, ed)) (he : ei ≤ i) : ∀ j, j < k + 1 → (es.getD j e0).1 ≤ i := by
 intro j hj
 rcases Nat.lt_or_ge j k with h1 | h1
 · exact h j h1
 · obtain rfl : j = k := by omega
   rw [List.getD, hes]; exact he
theorem takeWhile_at {p : Int × Int × Int × List Int → Bool} : ∀ {es : List (Int × Int × Int × List Int)} {k : Nat}, (∀ j, j < k → p (es.getD j e0) = true) → (k = es.length ∨ (k < es.length ∧ p (es.getD k e0) = false)) → k ≤ es.length → es.take k = es.takeWhile p
 | [], k, _, _, h => by simp
 | e :: es, 0, _, h2, _ => by
   rcases h2 with h2 | ⟨_, h2⟩
   · simp at h2
   · rw [List.take_zero, List.takeWhile_cons, show p e = false from h2]; rfl
 | e :: es, k + 1, h1, h2, h3 => by
   have h0 : p e = true := h1 0 (by omega)
   rw [List.take_succ_cons, List.takeWhile_cons, h0]
   have := takeWhile_at (p := p) (es := es) (k := k) (fun j hj => by simpa using h1 (j + 1) (by omega)) (by
     rcases h2 with h2 | ⟨h4, h2⟩
     · left; simpa using h2
     · right; exact ⟨by simpa using h4, by simpa using h2⟩) (by simpa using h3)
   rw [this]; rfl
theorem conf_end {cf : List Int} {es : List (Int × Int × Int × List Int)} {k : Nat} {i : Int} (h : ∀ j, j < k → (es.getD j e0).1 ≤ i) (h2 : k = es.length ∨ (k < es.length ∧ ¬ (es.getD k e0).1 ≤ i)) : confTo cf (es.take k) = confL cf es i := by
 unfold confL
 rw [takeWhile_at (p := fun e => decide (e.1 ≤ i)) (fun j hj => decide_eq_true (h j hj)) (by
   rcases h2 with h2 | ⟨h3, h4⟩
   · exact .inl h2
   · exact .inr ⟨h3, decide_eq_false h4⟩) (by omega)]
theorem entOk_two {ei et ek : Int} {ed : List Int} (h1 : ek = 2) (h2 : entOk ei et ek ed = true) : ed.length = 2 := by
 subst h1
 simp [entOk, dataOk] at h2
 exact h2.2.1
set_option maxRecDepth 100000
set_option maxHeartbeats 4000000
theorem change_any (ms d : List Int) (p0 p1 : Option Addr) (c0 c1 : Nat) (w0 : World) (h0 : Rd (fun _ => True) w0 (.slice p0 ms.length c0) (.ns .i64 ms)) (h1 : Rd (fun _ => True) w0 (.slice p1 d.length c1) (.ns .u8 d)) (hd2 : d.length = 2) (hm : ms.length ≤ 900) (hdb : ByteL d) :
   Calls Tryz.prog 122 #[.slice p0 ms.length c0, .slice p1 d.length c1] w0 fun e w' => ∃ p c, e = .returned (.slice p (chgL ms d).length c) ∧ Rd (New w0) w' (.slice p (chgL ms d).length c) (.ns .i64 (chgL ms d)) ∧ Below w0.heap.size w0 w' := by
 refine enter (fn := Tryz.f122) Tryz.func122 rfl Tryz.ntmps122 rfl (fun Az Hz => ?_)
 simp only [List.zipIdx_cons, List.zipIdx_nil, List.map_cons, List.map_nil, Nat.reduceAdd, Nat.zero_add] at Hz
 have m0 := MemOk.start (fun _ => False) w0
 have hd0 := hdb (d.getD 0 0) (by rw [List.getD, List.getElem?_eq_getElem (by omega : 0 < d.length)]; exact List.getElem_mem _)
 refine regS Hz (.assign rfl <| .nil) ?_
 clear Hz Az; intro Az Hz
 refine wp_seq_k (fun K0 hK0 => ?_)
 refine wp_region_lit ?_
 refine goCh Hz (.move rfl .nil) ?_
 clear Hz Az; intro Az Hz
 obtain ⟨gx5, ox5, hp5, hl5, hrg5⟩ := h1.extN (0) (by omega)
 cases hp5; clear hl5
 refine goCh Hz (.c rfl (fun _ h_ => y_idx h_ rfl rfl Tryz.underlying27 sz5ch (0) rfl (by omega)) <| .loadAt1 (hrg5 m0 rfl) (q := 0) rfl rfl rfl Tryz.underlying5 rfl <| .conv rfl Tryz.underlying5 Tryz.underlying3 (r := d.getD 0 0) (IntWalk.i64_in _ (by omega)) <| .assign rfl <| .nil) ?_
 clear Hz Az; intro Az Hz
 refine wpList_nil ?_
 refine hK0 _ _ ?_; clear hK0; try clear K0
 refine wp_seq_k (fun K1 hK1 => ?_)
 refine wp_seq_k (fun K2 hK2 => ?_)
 refine wp_region_lit ?_
 refine goCh Hz (.move rfl .nil) ?_
 clear Hz Az; intro Az Hz
 obtain ⟨gx13, ox13, hp13, hl13, hrg13⟩ := h1.extN (1) (by omega)
 cases hp13; clear hl13
 refine goCh Hz (.c rfl (fun _ h_ => y_idx h_ rfl rfl Tryz.underlying27 sz5ch (1) rfl (by omega)) <| .loadAt1 (hrg13 m0 rfl) (q := 0) rfl rfl rfl Tryz.underlying5 rfl <| .eql rfl rfl <| .nil) ?_
 clear Hz Az; intro Az Hz
 refine wpList_nil ?_
 refine hK2 _ _ ?_; clear hK2; try clear K2
 refine bool_cases Hz (t := 13) rfl ?_ ?_
 ·
  clear Hz; intro hb17 Hz
  try simp only [Q1x, Q2x, Q3x, Q4x, Q5x, Q6x, Q7x, Q8x, Q9x, Q0x, Qax, Qbx] at hb17
  refine wp_cond_true (Hz.ev (x := .tmp 13) rfl) ?_
  replace Hz : Has 20 [(0, _), (4, _), (5, _), (13, _)] Az := Hz.only [0, 4, 5, 13]
  refine wp_seq_k (fun K3 hK3 => ?_)
  refine wp_region_lit ?_
  refine goCh Hz (.move rfl <| .move rfl <| .nil) ?_
  clear Hz Az; intro Az Hz
  refine wpList_plain rfl (fun K hK => ?_)
  refine e_call Hz Tryz.func141 rfl rfl rfl rfl (with_any _ ms (d.getD 0 0) _ (h0.now' m0 rfl).ns_out.nums hm) ?_
  rintro e w23 ⟨u23, rfl, ho23, hb23⟩
  obtain ⟨p23, c23, hu23⟩ := ownsRow_shape ho23
  subst hu23
  have m24 := m0.newN 3 hb23 ho23
  clear m0
  clear hb23 ho23
  refine ⟨_, rfl, ?_⟩; clear Hz Az; intro Az Hz
  refine hK _ _ ?_; clear hK K
  refine goCh Hz (.assign rfl .nil) ?_
  clear Hz Az; intro Az Hz
  refine wpList_nil ?_
  refine hK3 _ _ ?_; clear hK3; try clear K3
  refine wp_ret ?_
  try dsimp only [Exit.then, Exit.inBlock]
  refine (ret1 (fn := Tryz.f122) Hz rfl rfl ?_)
  have m27 := m24.freezeN 3 rfl; clear m24
  unfold chgL
  rw [if_pos hb17]
  exact ⟨_, _, rfl, m27.outF (i := 3) rfl, m27.below⟩
 ·
  clear Hz; intro hb17 Hz
  try simp only [Q1x, Q2x, Q3x, Q4x, Q5x, Q6x, Q7x, Q8x, Q9x, Q0x, Qax, Qbx] at hb17
  refine wp_cond_false (Hz.ev (x := .tmp 13) rfl) ?_
  refine wp_skip ?_
  refine hK1 _ _ ?_; clear hK1; try clear K1
  replace Hz : Has 20 [(0, _), (4, _), (5, _), (13, _)] Az := Hz.only [0, 4, 5, 13]
  refine wp_seq_k (fun K4 hK4 => ?_)
  refine wp_region_lit ?_
  refine goCh Hz (.move rfl <| .move rfl <| .nil) ?_
  clear Hz Az; intro Az Hz
  refine wpList_plain rfl (fun K hK => ?_)
  refine e_call Hz Tryz.func128 rfl rfl rfl rfl (without_any _ ms (d.getD 0 0) _ (h0.now' m0 rfl).ns_out.nums hm) ?_
  rintro e w33 ⟨u33, rfl, ho33, hb33⟩
  obtain ⟨p33, c33, hu33⟩ := ownsRow_shape ho33
  subst hu33
  have m34 := m0.newN 3 hb33 ho33
  clear m0
  clear hb33 ho33
  refine ⟨_, rfl, ?_⟩; clear Hz Az; intro Az Hz
  refine hK _ _ ?_; clear hK K
  refine goCh Hz (.assign rfl .nil) ?_
  clear Hz Az; intro Az Hz
  refine wpList_nil ?_
  refine hK4 _ _ ?_; clear hK4; try clear K4
  refine wp_ret ?_
  try dsimp only [Exit.then, Exit.inBlock]
  refine (ret1 (fn := Tryz.f122) Hz rfl rfl ?_)
  have m37 := m34.freezeN 3 rfl; clear m34
  unfold chgL
  rw [if_neg hb17]
  exact ⟨_, _, rfl, m37.outF (i := 3) rfl, m37.below⟩
theorem conf_any (B : Nat) (bi bt : Int) (cf d : List Int) (es : List (Int × Int × Int × List Int)) (pc pd pl : Option Addr) (cc cd cl : Nat) (w0 : World) (i : Int) (hB : Blk w0 B 123 [.int .i64 bi, .int .i64 bt, .slice pc cf.length cc, .slice pd d.length cd, .slice pl (es.map entD).length cl]) (hl : Rd (fun _ => True) w0 (.slice pl (es.map entD).length cl) (.l 4 (es.map entD))) (hn : es.length ≤ 1000000) (hc : Rd (fun _ => True) w0 (.slice pc cf.length cc) (.ns .i64 cf)) (hcf : cf.length ≤ 900) (heb : EntsB es) :
   Calls Tryz.prog 74 #[.pointer (some ⟨B, 0, none⟩), .int .i64 i] w0 fun e w' => ∃ p c, e = .returned (.slice p (confL cf es i).length c) ∧ Rd (New w0) w' (.slice p (confL cf es i).length c) (.ns .i64 (confL cf es i)) ∧ Below w0.heap.size w0 w' := by
 refine enter (fn := Tryz.f74) Tryz.func74 rfl Tryz.ntmps74 rfl (fun Az Hz => ?_)
 simp only [List.zipIdx_cons, List.zipIdx_nil, List.map_cons, List.map_nil, Nat.reduceAdd, Nat.zero_add] at Hz
 have m0 := MemOk.start (fun _ => False) w0
 refine regS Hz (.assign rfl <| .nil) ?_
 clear Hz Az; intro Az Hz
 refine wp_seq_k (fun K0 hK0 => ?_)
 refine wp_region_lit ?_
 refine goCh Hz (.move rfl <| .nilCheck rfl <| .fieldAddr (off := 0) rfl Tryz.underlying123 rfl (s := 4) (by kernel_rfl) rfl <| .fieldAddr (off := 0) rfl Tryz.underlying121 rfl (s := 3) (by kernel_rfl) rfl <| .fieldAddr (off := 2) rfl Tryz.underlying29 rfl (s := 0) (by kernel_rfl) rfl <| .loadX1 (hB.now m0 rfl) rfl rfl Tryz.underlying26 rfl <| .nil) ?_
 clear Hz Az; intro Az Hz
 refine wpList_plain rfl (fun K hK => ?_)
 refine e_call Hz Tryz.func41 rfl rfl rfl rfl (plainI_any cf _ _ _ ((hc.now' m0 rfl).any) (by omega)) ?_
 rintro e w14 ⟨p14, c14, rfl, hd14, hb14⟩
 have m15 := m0.callF 5 rfl hb14 hd14
 clear m0
 clear hb14 hd14
 refine ⟨_, rfl, ?_⟩; clear Hz Az; intro Az Hz
 refine hK _ _ ?_; clear hK K
 refine goCh Hz (.assign rfl .nil) ?_
 clear Hz Az; intro Az Hz
 refine wpList_nil ?_
 refine hK0 _ _ ?_; clear hK0; try clear K0
 refine wp_seq_k (fun K1 hK1 => ?_)
 replace Hz : Has 42 [(0, _), (1, _), (4, _), (5, _)] Az := Hz.only [0, 1, 4, 5]
 refine regS Hz (.move rfl <| .nilCheck rfl <| .fieldAddr (off := 0) rfl Tryz.underlying123 rfl (s := 4) (by kernel_rfl) rfl <| .fieldAddr (off := 4) rfl Tryz.underlying121 rfl (s := 0) (by kernel_rfl) rfl <| .loadX1 (hB.now m15 rfl) rfl rfl Tryz.underlying30 rfl <| .len rfl Tryz.underlying30 <| .move rfl <| .nil) ?_
 clear Hz Az; intro Az Hz
 refine wp_block ?_
 refine wp_loop_ghost (fun g a w => ∃ (k : Nat) (ms : List Int) (p : Option Addr) (c : Nat), k ≤ es.length ∧ g = es.length - k ∧ ms = (confTo cf (es.take k)) ∧ ms.length ≤ 900 ∧ (∀ j, j < k → (es.getD j e0).1 ≤ i) ∧ Has 42 [(1, .int .i64 i), (5, .slice p ms.length c), (19, .slice pl (es.map entD).length cl), (20, .int .i64 (es.map entD).length), (21, .int .i64 k)] a ∧ MemOk (cn w0) w0 [(6, .dat (.slice p ms.length c) (.ns .i64 ms))] w) (es.length) ?_ ?_
 · exact ⟨0, cf, _, _, Nat.zero_le _, rfl, rfl, hcf, (fun j hj => by omega), Hz.only [1, 5, 19, 20, 21], m15.ren [(6, 5)] (by decide)⟩
 ·
  clear Hz m15
  rintro g Az w26 ⟨k, ms, p, c, hkl, hg, hms, hml, hle, Hz, m26⟩
  refine regS Hz (.lss rfl rfl <| .nil) ?_
  clear Hz Az; intro Az Hz
  refine wp_seq_k (fun K2 hK2 => ?_)
  refine bool_cases Hz (t := 22) rfl ?_ ?_
  ·
   clear Hz; intro hb28 Hz
   try simp only [Q1x, Q2x, Q3x, Q4x, Q5x, Q6x, Q7x, Q8x, Q9x, Q0x, Qax, Qbx] at hb28
   have hk : k < es.length := by rw [List.length_map] at hb28; omega
   obtain ⟨⟨ei, et, ek, ed⟩, hes⟩ : ∃ e, es[k]? = some e := ⟨_, List.getElem?_eq_getElem hk⟩
   have hedb := heb _ (List.mem_of_getElem? hes)
   dsimp only at hedb
   refine wp_cond_true (Hz.ev (x := .tmp 22) rfl) ?_
   refine wp_skip ?_
   refine hK2 _ _ ?_; clear hK2; try clear K2
   refine wp_seq_k (fun K3 hK3 => ?_)
   refine wp_block ?_
   refine wp_seq_k (fun K4 hK4 => ?_)
   refine wp_region_lit ?_
   obtain ⟨gx30, ox30, vx30, hp30, hl30, hR30, hrg30⟩ := hl.extA (k) (r := [.v (.int .i64 ei), .v (.int .i64 et), .v (.int .i64 ek), .ns .u8 ed]) (ent_get hes)
   cases hp30; clear hl30
   rcases hR30 with _ | ⟨hd30_0, _ | ⟨hd30_1, _ | ⟨hd30_2, _ | ⟨hd30_3, _ | _⟩⟩⟩⟩
   obtain rfl := hd30_0.v_out
   clear hd30_0
   obtain rfl := hd30_1.v_out
   clear hd30_1
   obtain rfl := hd30_2.v_out
   clear hd30_2
   obtain ⟨p31, c31, hv31, hw31⟩ := hd30_3.ns_shape; subst hv31
   refine goCh Hz (.c rfl (fun _ h_ => y_idx h_ rfl rfl Tryz.underlying30 sz62cf (k) rfl (by rw [List.length_map]; exact hk)) <| .loadAt (hrg30 m26 rfl) rfl Tryz.underlying62 rfl sz62cf <| .nil) ?_
   clear Hz Az; intro Az Hz
   refine wpList_plain rfl (fun K hK => ?_)
   refine e_alloc Hz m26 101 zc62cf rfl ?_
   clear Hz Az m26; intro g34 Az w35 Hz m35 hB35 hg35
   clear hB35 hg35
   refine hK _ _ ?_; clear hK K
   refine wpList_plain rfl (fun K hK => ?_)
   refine e_storeW Hz m35 101 rfl rfl rfl rfl rfl sz62cf ?_
   clear m35; intro w36 m36 hB36
   clear hB36
   refine hK _ _ ?_; clear hK K
   refine wpList_nil ?_
   refine hK4 _ _ ?_; clear hK4; try clear K4
   refine wp_seq_k (fun K5 hK5 => ?_)
   refine regS Hz (.fieldAddr (off := 0) rfl Tryz.underlying62 rfl (s := 0) (by kernel_rfl) rfl <| .loadB1 m36 (i := 101) rfl rfl rfl Tryz.underlying3 rfl <| .move rfl <| .gtr rfl rfl <| .nil) ?_
   clear Hz Az; intro Az Hz
   refine bool_cases Hz (t := 28) rfl ?_ ?_
   ·
    clear Hz; intro hb41 Hz
    try simp only [Q1x, Q2x, Q3x, Q4x, Q5x, Q6x, Q7x, Q8x, Q9x, Q0x, Qax, Qbx] at hb41
    refine wp_cond_true (Hz.ev (x := .tmp 28) rfl) ?_
    refine wp_exit ?_
    refine hK1 _ _ ?_; clear hK1; try clear K1
    replace Hz : Has 42 [(1, _), (5, _), (19, _), (20, _), (21, _), (28, _)] Az := Hz.only [1, 5, 19, 20, 21, 28]
    refine regS Hz (.move rfl <| .assign rfl <| .nil) ?_
    clear Hz Az; intro Az Hz
    refine wp_ret ?_
    try dsimp only [Exit.then, Exit.inBlock]
    refine (ret1 (fn := Tryz.f74) Hz rfl rfl ?_)
    rw [conf_end hle (.inr ⟨hk, by rw [List.getD, hes]; show ¬ ei ≤ i; omega⟩)] at hms
    subst hms
    exact ⟨_, _, rfl, m36.outF (i := 6) rfl, m36.below⟩
   ·
    clear Hz; intro hb41 Hz
    try simp only [Q1x, Q2x, Q3x, Q4x, Q5x, Q6x, Q7x, Q8x, Q9x, Q0x, Qax, Qbx] at hb41
    refine wp_cond_false (Hz.ev (x := .tmp 28) rfl) ?_
    refine wp_skip ?_
    refine hK5 _ _ ?_; clear hK5; try clear K5
    replace Hz : Has 42 [(1, _), (5, _), (19, _), (20, _), (21, _), (7, _), (28, _)] Az := Hz.only [1, 5, 19, 20, 21, 7, 28]
    refine wp_seq_k (fun K6 hK6 => ?_)
    refine wp_region_lit ?_
    refine goCh Hz (.fieldAddr (off := 2) rfl Tryz.underlying62 rfl (s := 0) (by kernel_rfl) rfl <| .loadB1 m36 (i := 101) rfl rfl rfl Tryz.underlying3 rfl <| .eql rfl rfl <| .move rfl <| .nil) ?_
    clear Hz Az; intro Az Hz
    refine bool_cases Hz (t := 32) rfl ?_ ?_
    ·
     clear Hz; intro hb54 Hz
     try simp only [Q1x, Q2x, Q3x, Q4x, Q5x, Q6x, Q7x, Q8x, Q9x, Q0x, Qax, Qbx] at hb54
     refine goCh Hz (.loadBRZ m36 (i := 101) rfl rfl Tryz.underlying62 rfl sz62cf (by simp) (by dsimp only [List.drop, List.take] <;> rfl) .nil) ?_
     clear Hz Az; intro Az Hz
     refine st_ge Hz rfl rfl rfl rfl (fun K hK => ?_)
     refine e_call Hz Tryz.func114 rfl rfl rfl rfl (entRight_any ei et ek _ ed _ ((hd30_3.now' m36 rfl).any).ns_out.nums) ?_
     rintro e w56 ⟨rfl, hb56⟩
     have m57 := m36.later hb56
     clear m36
     clear hb56
     refine ⟨_, rfl, ?_⟩; clear Hz Az; intro Az Hz
     refine hK _ _ ?_; clear hK K
     refine goCh Hz (.pickT rfl rfl .nil) ?_
     clear Hz Az; intro Az Hz
     refine wpList_nil ?_
     refine hK6 _ _ ?_; clear hK6; try clear K6
     refine bool_cases Hz (t := 35) rfl ?_ ?_
     ·
      clear Hz; intro hb60 Hz
      try simp only [Q1x, Q2x, Q3x, Q4x, Q5x, Q6x, Q7x, Q8x, Q9x, Q0x, Qax, Qbx] at hb60
      refine wp_cond_true (Hz.ev (x := .tmp 35) rfl) ?_
      refine wp_region_lit ?_
      refine goCh Hz (.move rfl <| .fieldAddr (off := 3) rfl Tryz.underlying62 rfl (s := 0) (by kernel_rfl) rfl <| .loadB1 m57 (i := 101) rfl rfl rfl Tryz.underlying27 rfl <| .nil) ?_
      clear Hz Az; intro Az Hz
      refine wpList_plain rfl (fun K hK => ?_)
      refine e_call Hz Tryz.func122 rfl rfl rfl rfl (change_any ms ed _ _ _ _ _ ((m57.rd (i := 6) rfl).any) ((hd30_3.now' m57 rfl).any) (entOk_two hb54 hb60) hml hedb) ?_
      rintro e w64 ⟨p64, c64, rfl, hd64, hb64⟩
      have m65 := m57.callF 102 rfl hb64 hd64
      clear m57
      clear hb64 hd64
      refine ⟨_, rfl, ?_⟩; clear Hz Az; intro Az Hz
      refine hK _ _ ?_; clear hK K
      refine goCh Hz (.assign rfl .nil) ?_
      clear Hz Az; intro Az Hz
      refine wpList_nil ?_
      refine hK3 _ _ ?_; clear hK3; try clear K3
      replace Hz : Has 42 [(1, _), (5, _), (19, _), (20, _), (21, _), (28, _), (32, _), (35, _)] Az := Hz.only [1, 5, 19, 20, 21, 28, 32, 35]
      refine wp_region_lit ?_
      refine goCh Hz (.add rfl rfl (r := ((k + 1 : Nat) : Int)) (by rw [IntWalk.i64_in _ (by omega)]; omega) <| .move rfl <| .nil) ?_
      clear Hz Az; intro Az Hz
      refine wpList_nil ?_
      show ∃ n', n' < _ ∧ _
      exact ⟨es.length - (k + 1), by omega, k + 1, (chgL ms ed), _, _, by omega, rfl, (conf_yes hms hes hb54 hb60), (Nat.le_trans (chgL_len _ _) (by decide)), le_snoc hle hes (by omega), Hz.only [1, 5, 19, 20, 21], m65.ren [(6, 102)] (by decide)⟩
     ·
      clear Hz; intro hb60 Hz
      try simp only [Q1x, Q2x, Q3x, Q4x, Q5x, Q6x, Q7x, Q8x, Q9x, Q0x, Qax, Qbx] at hb60
      refine wp_cond_false (Hz.ev (x := .tmp 35) rfl) ?_
      refine wp_skip ?_
      refine hK3 _ _ ?_; clear hK3; try clear K3
      replace Hz : Has 42 [(1, _), (5, _), (19, _), (20, _), (21, _), (28, _), (32, _), (35, _)] Az := Hz.only [1, 5, 19, 20, 21, 28, 32, 35]
      refine wp_region_lit ?_
      refine goCh Hz (.add rfl rfl (r := ((k + 1 : Nat) : Int)) (by rw [IntWalk.i64_in _ (by omega)]; omega) <| .move rfl <| .nil) ?_
      clear Hz Az; intro Az Hz
      refine wpList_nil ?_
      show ∃ n', n' < _ ∧ _
      exact ⟨es.length - (k + 1), by omega, k + 1, ms, _, _, by omega, rfl, (conf_no hms hes (.inr hb60)), hml, le_snoc hle hes (by omega), Hz.only [1, 5, 19, 20, 21], m57.ren [(6, 6)] (by decide)⟩
    ·
     clear Hz; intro hb54 Hz
     try simp only [Q1x, Q2x, Q3x, Q4x, Q5x, Q6x, Q7x, Q8x, Q9x, Q0x, Qax, Qbx] at hb54
     refine goCh Hz (.sk <| .sk <| .pickF rfl rfl <| .nil) ?_
     clear Hz Az; intro Az Hz
     refine wpList_nil ?_
     refine hK6 _ _ ?_; clear hK6; try clear K6
     refine wp_cond_false (Hz.ev (x := .tmp 35) rfl) ?_
     refine wp_skip ?_
     refine hK3 _ _ ?_; clear hK3; try clear K3
     replace Hz : Has 42 [(1, _), (5, _), (19, _), (20, _), (21, _), (28, _), (32, _), (35, _)] Az := Hz.only [1, 5, 19, 20, 21, 28, 32, 35]
     refine wp_region_lit ?_
     refine goCh Hz (.add rfl rfl (r := ((k + 1 : Nat) : Int)) (by rw [IntWalk.i64_in _ (by omega)]; omega) <| .move rfl <| .nil) ?_
     clear Hz Az; intro Az Hz
     refine wpList_nil ?_
     show ∃ n', n' < _ ∧ _
     exact ⟨es.length - (k + 1), by omega, k + 1, ms, _, _, by omega, rfl, (conf_no hms hes (.inl hb54)), hml, le_snoc hle hes (by omega), Hz.only [1, 5, 19, 20, 21], m36.ren [(6, 6)] (by decide)⟩
  ·
   clear Hz; intro hb28 Hz
   try simp only [Q1x, Q2x, Q3x, Q4x, Q5x, Q6x, Q7x, Q8x, Q9x, Q0x, Qax, Qbx] at hb28
   obtain rfl : k = es.length := by rw [List.length_map] at hb28; omega
   refine wp_cond_false (Hz.ev (x := .tmp 22) rfl) ?_
   refine wp_exit ?_
   refine hK1 _ _ ?_; clear hK1; try clear K1
   refine regS Hz (.move rfl <| .assign rfl <| .nil) ?_
   clear Hz Az; intro Az Hz
   refine wp_ret ?_
   try dsimp only [Exit.then, Exit.inBlock]
   refine (ret1 (fn := Tryz.f74) Hz rfl rfl ?_)
   rw [conf_end hle (.inl rfl)] at hms
   subst hms
   exact ⟨_, _, rfl, m26.outF (i := 6) rfl, m26.below⟩
end
section
theorem fl62ad : flatS Tryz.prog 62 [.int .i64 0, .int .i64 0, .int .i64 0, .slice none 0 0] = true := by kernel_rfl
theorem inf62ad : (Tryz.prog.info? 62).map (fun i => (i.zero, i.size, i.bytes)) = some (some (.agg #[.int .i64 0, .int .i64 0, .int .i64 0, .slice none 0 0]), 4, 48) := by kernel_rfl
theorem sz30ad : (Tryz.prog.info? 30).map (·.size) = some 1 := by kernel_rfl
theorem sz62ad : (Tryz.prog.info? 62).map (·.size) = some 4 := by kernel_rfl
theorem zc62ad : ((Tryz.prog.info? 62).bind (·.zero)).map (·.cells.toList) = some [.int .i64 0, .int .i64 0, .int .i64 0, .slice none 0 0] := by kernel_rfl
theorem fl29co : flatS Tryz.prog 29 [.int .i64 0, .int .i64 0, .slice none 0 0, .slice none 0 0] = true := by kernel_rfl
theorem sz29co : (Tryz.prog.info? 29).map (·.size) = some 4 := by kernel_rfl
theorem sz30co : (Tryz.prog.info? 30).map (·.size) = some 1 := by kernel_rfl
theorem sz62co : (Tryz.prog.info? 62).map (·.size) = some 4 := by kernel_rfl
theorem zc29co : ((Tryz.prog.info? 29).bind (·.zero)).map (·.cells.toList) = some [.int .i64 0, .int .i64 0, .slice none 0 0, .slice none 0 0] := by kernel_rfl

def skipB (bi : Int) (es : List (Int × Int × Int × List Int)) (e : Int × Int × Int × List Int) : Bool := decide (e.1 ≤ bi) || hasB bi es e.1 e.2.1
set_option maxRecDepth 100000
set_option maxHeartbeats 4000000
theorem add_fr (X : Cx) (B : Nat) (bi bt : Int) (cf d : List Int) (es : List (Int × Int × Int × List Int)) (pc pd pl : Option Addr) (cc cd cl : Nat) (tm kd : Int) (dd : List Int) (pa : Option Addr) (ca : Nat) (w0 : World) (hbi : -1000000000000000000 ≤ bi ∧ bi ≤ 1000000000000000000) (hn : es.length ≤ 1000000) (hdd : dd.length ≤ 140737488351232) (m0 : MemOk X w0 [(1, .box B 123 [.int .i64 bi, .int .i64 bt, .slice pc cf.length cc, .slice pd d.length cd, .slice pl (es.map entD).length cl]), (2, .seg (.slice pl (es.map entD).length cl) 62 4 (es.map entD)), (3, .dat (.slice pc cf.length cc) (.ns .i64 cf)), (4, .dat (.slice pd d.length cd) (.ns .u8 d)), (5, .dat (.slice pa dd.length ca) (.ns .u8 dd))] w0) :
   Calls Tryz.prog 115 #[.pointer (some ⟨B, 0, none⟩), .int .i64 tm, .int .i64 kd, .slice pa dd.length ca] w0 fun e w' => ∃ (pl' : Option Addr) (cl' : Nat) (pr : Option Addr) (cr : Nat), e = .returned (.agg #[.int .i64 (bi + es.length + 1), .int .i64 tm, .int .i64 kd, .slice pr dd.length cr]) ∧ MemOk X w0 [(1, .box B 123 [.int .i64 bi, .int .i64 bt, .slice pc cf.length cc, .slice pd d.length cd, .slice pl' ((es ++ [(bi + es.length + 1, tm, kd, dd)]).map entD).length cl']), (2, .seg (.slice pl' ((es ++ [(bi + es.length + 1, tm, kd, dd)]).map entD).length cl') 62 4 ((es ++ [(bi + es.length + 1, tm, kd, dd)]).map entD)), (3, .dat (.slice pc cf.length cc) (.ns .i64 cf)), (4, .dat (.slice pd d.length cd) (.ns .u8 d)), (5, .dat (.slice pr dd.length cr) (.ns .u8 dd))] w' := by
 refine enter (fn := Tryz.f115) Tryz.func115 rfl Tryz.ntmps115 rfl (fun Az Hz => ?_)
 simp only [List.zipIdx_cons, List.zipIdx_nil, List.map_cons, List.map_nil, Nat.reduceAdd, Nat.zero_add] at Hz
 refine wp_seq_k (fun K0 hK0 => ?_)
 refine wp_region_lit ?_
 refine wpList_plain rfl (fun K hK => ?_)
 refine e_alloc Hz m0 6 zc62ad rfl ?_
 clear Hz Az m0; intro g1 Az w2 Hz m2 hB2 hg2
 clear hB2 hg2
 refine hK _ _ ?_; clear hK K
 refine wpList_nil ?_
 refine hK0 _ _ ?_; clear hK0; try clear K0
 refine wp_seq_k (fun K1 hK1 => ?_)
 refine wp_region_lit ?_
 refine goCh Hz (.move rfl <| .nilCheck rfl <| .fieldAddr (off := 0) rfl Tryz.underlying123 rfl (s := 4) (by kernel_rfl) rfl <| .nil) ?_
 clear Hz Az; intro Az Hz
 refine wpList_plain rfl (fun K hK => ?_)
 refine e_call Hz Tryz.func75 rfl rfl rfl rfl (last_any _ _ _ _ _ _ _ _ _ (m2.ok 1 _ rfl : Res.ok _ _ _ _ (.box _ _ _)).1 (by omega) (by first | omega | (simp; omega) | simp)) ?_
 rintro e w9 ⟨rfl, hb9⟩
 have m10 := m2.later hb9
 clear m2
 clear hb9
 refine ⟨_, rfl, ?_⟩; clear Hz Az; intro Az Hz
 refine hK _ _ ?_; clear hK K
 refine goCh Hz (.add rfl rfl (r := bi + es.length + 1) (by rw [List.length_map]; exact IntWalk.i64_in _ (by omega)) <| .move rfl <| .move rfl <| .move rfl <| .nil) ?_
 clear Hz Az; intro Az Hz
 refine wpList_plain rfl (fun K hK => ?_)
 refine e_call Hz Tryz.func120 rfl rfl rfl rfl (plainB_any dd _ _ _ ((m10.rd (i := 5) rfl).any) hdd) ?_
 rintro e w16 ⟨p16, c16, rfl, hd16, hb16⟩
 have m17 := m10.callF 7 rfl hb16 hd16
 clear m10
 clear hb16 hd16
 refine ⟨_, rfl, ?_⟩; clear Hz Az; intro Az Hz
 refine hK _ _ ?_; clear hK K
 refine goCh Hz (.build rfl zc62ad fl62ad rfl (by dsimp only [setL, List.set] <;> rfl) .nil) ?_
 clear Hz Az; intro Az Hz
 refine wpList_plain rfl (fun K hK => ?_)
 refine e_alloc Hz m17 8 zc62ad rfl ?_
 clear Hz Az m17; intro g20 Az w21 Hz m21 hB21 hg21
 clear hB21 hg21
 refine hK _ _ ?_; clear hK K
 refine wpList_plain rfl (fun K hK => ?_)
 refine e_storeW Hz m21 8 rfl rfl rfl rfl rfl sz62ad ?_
 clear m21; intro w22 m22 hB22
 clear hB22
 refine hK _ _ ?_; clear hK K
 refine wpList_nil ?_
 refine hK1 _ _ ?_; clear hK1; try clear K1
 refine wp_seq_k (fun K2 hK2 => ?_)
 replace Hz : Has 34 [(0, _), (8, _), (9, _)] Az := Hz.only [0, 8, 9]
 have m24 : MemOk _ _ [(1, _), (2, _), (3, _), (4, _), (5, _), (6, _), (7, _), (8, _)] _ := m22.only [1, 2, 3, 4, 5, 6, 7, 8]; clear m22
 refine region_p 8 (B := [(1, _), (2, _), (3, _), (4, _), (5, _), (6, _), (7, _), (8, _)]) (m24.to ⟨il, il, il, il, il, il, il, il, trivial⟩) m24 (by kernel_rfl) (fun w25 hP25 m25 => ?_); clear m24
 refine goR hP25 [0, 1, 2, 3, 4, 5, 6] [5, 6] 7 0 127 Hz (m25.to ⟨il, il, il, il, il, il, il, il, trivial⟩) (.move rfl <| .move rfl <| .nilCheck rfl <| .fieldAddr (off := 0) rfl Tryz.underlying123 rfl (s := 4) (by kernel_rfl) rfl <| .fieldAddr (off := 4) rfl Tryz.underlying121 rfl (s := 0) (by kernel_rfl) rfl <| .loadB1 hh (i := 1) rfl rfl rfl Tryz.underlying30 rfl <| .loadBR hh (i := 8) rfl rfl Tryz.underlying62 rfl sz62ad (by simp) (by dsimp only [List.drop, List.take] <;> rfl) <| .nil) ?_
 clear Hz Az; intro Az Hz
 refine stepE_only 7 rfl (by kernel_rfl) rfl (fun K hK => ?_)
 refine e_litR Hz m25 9 (mm := 4) rfl (.cons rfl rfl (.cons (.v _) (.cons (.v _) (.cons (.v _) (.cons (m25.rd (i := 7) rfl) .nil)))) <| .nil) Tryz.underlying30 inf62ad rfl rfl rfl rfl rfl ?_
 clear Hz Az m25; intro g33 Az w34 Hz m34
 refine hK _ _ (m34.to ⟨il, il, il, il, il, il, il, il, trivial⟩) ?_; clear hK K
 have m36 := m34.freezeR 9 rfl; clear m34
 refine stepE_end 8 rfl (by kernel_rfl) rfl (by rfl) (fun K hK => ?_)
 refine e_appSA Hz m36 2 rfl rfl rfl (m36.rd (i := 9) rfl).cells Tryz.underlying30 inf62ad rfl rfl (by decide) (by simp; omega) rfl ?_
 clear Hz Az m36; intro p35 c35 Az w37 Hz m37
 refine hK _ _ ?_; clear hK K
 refine goB hP25 [9, 10, 11] 3 511 4095 Hz (.nilCheck rfl <| .fieldAddr (off := 0) rfl Tryz.underlying123 rfl (s := 4) (by kernel_rfl) rfl <| .fieldAddr (off := 4) rfl Tryz.underlying121 rfl (s := 0) (by kernel_rfl) rfl <| .nil) ?_
 clear Hz Az; intro Az Hz
 refine stepE_end 12 rfl (by kernel_rfl) rfl (by rfl) (fun K hK => ?_)
 refine e_store1 Hz m37 1 rfl rfl rfl rfl rfl sz30ad (by dsimp only [List.set] <;> rfl) ?_
 clear m37; intro w41 m41 hB41
 clear hB41
 refine hK _ _ ?_; clear hK K
 refine wpAnyE_done (by kernel_rfl) ?_ _
 refine hK2 _ _ ?_; clear hK2; try clear K2
 replace Hz : Has 34 [(8, _), (9, _)] Az := Hz.only [8, 9]
 refine wp_seq_k (fun K3 hK3 => ?_)
 refine wp_region_lit ?_
 refine goCh Hz (.loadBR m41 (i := 8) rfl rfl Tryz.underlying62 rfl sz62ad (by simp) (by dsimp only [List.drop, List.take] <;> rfl) .nil) ?_
 clear Hz Az; intro Az Hz
 refine wpList_plain rfl (fun K hK => ?_)
 refine e_call Hz Tryz.func119 rfl rfl rfl rfl (entry_any _ _ _ dd _ _ _ ((m41.rd (i := 7) rfl).any) hdd) ?_
 rintro e w45 ⟨p45, c45, rfl, hd45, hb45⟩
 have m46 := m41.callF 10 rfl hb45 hd45
 clear m41
 clear hb45 hd45
 refine ⟨_, rfl, ?_⟩; clear Hz Az; intro Az Hz
 refine hK _ _ ?_; clear hK K
 refine wpList_plain rfl (fun K hK => ?_)
 refine e_storeW Hz m46 6 rfl rfl rfl rfl rfl sz62ad ?_
 clear m46; intro w48 m48 hB48
 clear hB48
 refine hK _ _ ?_; clear hK K
 refine wpList_nil ?_
 refine hK3 _ _ ?_; clear hK3; try clear K3
 refine wp_ret ?_
 try dsimp only [Exit.then, Exit.inBlock]
 refine (retC (fn := Tryz.f115) Hz m48 (i := 6) rfl rfl rfl Tryz.underlying62 rfl sz62ad ?_)
 have hE : es.map entD ++ [[D.v (.int .i64 (bi + es.length + 1)), .v (.int .i64 tm), .v (.int .i64 kd), .ns .u8 dd]] = (es ++ [(bi + es.length + 1, tm, kd, dd)]).map entD := by rw [List.map_append]; rfl
 rw [hE] at m48
 exact ⟨_, _, _, _, rfl, m48.ren [(1, 1), (2, 2), (3, 3), (4, 4), (5, 10)] (by decide)⟩
theorem compact_yes (X : Cx) (B : Nat) (bi bt : Int) (cf d : List Int) (es : List (Int × Int × Int × List Int)) (pc pd pl : Option Addr) (cc cd cl : Nat) (k : Nat) (i : Int) (dd : List Int) (pa : Option Addr) (ca : Nat) (w0 : World) {ei et ek : Int} {ed : List Int} (hbi : -1000000000000000000 ≤ bi ∧ bi ≤ 1000000000000000000) (hn : es.length ≤ 1000000) (hdd : dd.length ≤ 140737488351232) (hcf : cf.length ≤ 900) (heb : EntsB es) (hes : es[k]? = some (ei, et, ek, ed)) (hi : i = bi + 1 + k) (m0 : MemOk X w0 [(1, .box B 123 [.int .i64 bi, .int .i64 bt, .slice pc cf.length cc, .slice pd d.length cd, .slice pl (es.map entD).length cl]), (2, .seg (.slice pl (es.map entD).length cl) 62 4 (es.map entD)), (3, .dat (.slice pc cf.length cc) (.ns .i64 cf)), (4, .dat (.slice pd d.length cd) (.ns .u8 d)), (5, .dat (.slice pa dd.length ca) (.ns .u8 dd))] w0) :
   Calls Tryz.prog 72 #[.pointer (some ⟨B, 0, none⟩), .int .i64 i, .slice pa dd.length ca] w0 fun e w' => ∃ (pc' : Option Addr) (cc' : Nat) (pd' : Option Addr) (cd' : Nat) (pl' : Option Addr) (cl' : Nat), e = .returned (.bool true) ∧ MemOk X w0 [(1, .box B 123 [.int .i64 i, .int .i64 et, .slice pc' (confL cf es i).length cc', .slice pd' dd.length cd', .slice pl' ((es.drop (k + 1)).map entD).length cl']), (2, .seg (.slice pl' ((es.drop (k + 1)).map entD).length cl') 62 4 ((es.drop (k + 1)).map entD)), (3, .dat (.slice pc' (confL cf es i).length cc') (.ns .i64 (confL cf es i))), (4, .dat (.slice pd' dd.length cd') (.ns .u8 dd))] w' := by
 have hk := (List.getElem?_eq_some_iff.1 hes).1
 refine enter (fn := Tryz.f72) Tryz.func72 rfl Tryz.ntmps72 rfl (fun Az Hz => ?_)
 simp only [List.zipIdx_cons, List.zipIdx_nil, List.map_cons, List.map_nil, Nat.reduceAdd, Nat.zero_add] at Hz
 refine regS Hz (.assign rfl <| .nil) ?_
 clear Hz Az; intro Az Hz
 refine wp_seq_k (fun K0 hK0 => ?_)
 refine wp_region_lit ?_
 refine goCh Hz (.move rfl <| .nilCheck rfl <| .fieldAddr (off := 0) rfl Tryz.underlying123 rfl (s := 4) (by kernel_rfl) rfl <| .move rfl <| .nil) ?_
 clear Hz Az; intro Az Hz
 refine wpList_plain rfl (fun K hK => ?_)
 refine e_call Hz Tryz.func117 rfl rfl rfl rfl (place_yes _ _ _ _ _ _ _ _ _ k _ (m0.ok 1 _ rfl : Res.ok _ _ _ _ (.box _ _ _)).1 (by omega) (by first | omega | (simp; omega) | simp) (by simp; omega) (by omega)) ?_
 rintro e w10 ⟨rfl, hb10⟩
 have m11 := m0.later hb10
 clear m0
 clear hb10
 refine ⟨_, rfl, ?_⟩; clear Hz Az; intro Az Hz
 refine hK _ _ ?_; clear hK K
 refine goCh Hz (.move rfl <| .extract rfl rfl <| .extract rfl rfl <| .assign rfl <| .assign rfl <| .nil) ?_
 clear Hz Az; intro Az Hz
 refine wpList_nil ?_
 refine hK0 _ _ ?_; clear hK0; try clear K0
 refine wp_seq_k (fun K1 hK1 => ?_)
 replace Hz : Has 54 [(0, _), (1, _), (2, _), (6, _), (7, _), (8, _)] Az := Hz.only [0, 1, 2, 6, 7, 8]
 refine regS Hz (.move rfl <| .not rfl <| .nil) ?_
 clear Hz Az; intro Az Hz
 refine wp_cond_false (Hz.ev (x := .tmp 19) rfl) ?_
 refine wp_skip ?_
 refine hK1 _ _ ?_; clear hK1; try clear K1
 refine wp_seq_k (fun K2 hK2 => ?_)
 obtain ⟨gs21, os21, vs21, hp21, hl21, hR21, hrg21⟩ := m11.openS (i := 2) rfl (k) (r := [.v (.int .i64 ei), .v (.int .i64 et), .v (.int .i64 ek), .ns .u8 ed]) (ent_get hes)
 cases hp21; clear hl21 hR21 hrg21 vs21
 have m22 : MemOk _ _ [(1, _), (2, _), (3, _), (4, _), (5, _)] _ := m11.only [1, 2, 3, 4, 5]; clear m11
 refine region_p 17 (B := [(1, _), (2, _), (3, _), (4, _), (5, _)]) (m22.to ⟨il, il, il, il, il, trivial⟩) m22 (by kernel_rfl) (fun w23 hP23 m23 => ?_); clear m22
 refine goR hP23 [0, 1, 2, 3, 4, 5, 6, 7, 8, 9, 10, 11, 13] [5, 9] 13 0 12287 Hz (m23.to ⟨il, il, il, il, il, trivial⟩) (.move rfl <| .move rfl <| .nilCheck rfl <| .fieldAddr (off := 0) rfl Tryz.underlying123 rfl (s := 4) (by kernel_rfl) rfl <| .fieldAddr (off := 4) rfl Tryz.underlying121 rfl (s := 0) (by kernel_rfl) rfl <| .loadB1 hh (i := 1) rfl rfl rfl Tryz.underlying30 rfl <| .move rfl <| .p (fun _ _ h_ => y_idx h_ rfl rfl Tryz.underlying30 sz62co (k) rfl (by rw [List.length_map]; exact hk)) <| .fieldAddrQ 1 rfl Tryz.underlying62 rfl (s := 0) (by kernel_rfl) rfl <| .loadSV hh (i := 2) rfl (k) (r := [.v (.int .i64 ei), .v (.int .i64 et), .v (.int .i64 ek), .ns .u8 ed]) (ent_get hes) (q := 1) rfl rfl rfl Tryz.underlying3 rfl <| .move rfl <| .move rfl <| .move rfl <| .nil) ?_
 clear Hz Az; intro Az Hz
 refine d_two 12 16 rfl rfl (by kernel_rfl) rfl rfl (fun K hK => ?_) (fun K hK => ?_)
 ·
  refine e_call Hz Tryz.func74 rfl rfl rfl rfl (conf_any _ _ _ cf d es _ _ _ _ _ _ _ _ (m23.ok 1 _ rfl : Res.ok _ _ _ _ (.box _ _ _)).1 ((m23.ok 2 _ rfl : Res.ok _ _ _ _ (.seg _ _ _ _)).1.rd (S' := fun _ => True) (fun _ _ _ => trivial) (fun _ _ => trivial)) (by omega) (m23.rd (i := 3) rfl).any hcf heb) ?_
  rintro e w37 ⟨p37, c37, rfl, hd37, hb37⟩
  have m38 := m23.callF 6 rfl hb37 hd37
  clear m23
  clear hb37 hd37
  refine ⟨_, rfl, ?_⟩; clear Hz Az; intro Az Hz
  refine hK _ _ (fun _ => (m38.to ⟨il, il, il, il, il, trivial⟩)) ?_; clear hK K
  refine d_two 14 16 rfl rfl (by kernel_rfl) rfl rfl (fun K hK => ?_) (fun K hK => ?_)
  ·
   refine e_call Hz Tryz.func120 rfl rfl rfl rfl (plainB_any dd _ _ _ ((m38.rd (i := 5) rfl).any) hdd) ?_
   rintro e w40 ⟨p40, c40, rfl, hd40, hb40⟩
   have m41 := m38.callF 7 rfl hb40 hd40
   clear m38
   clear hb40 hd40
   refine ⟨_, rfl, ?_⟩; clear Hz Az; intro Az Hz
   refine hK _ _ (fun _ => (m41.to ⟨il, il, il, il, il, trivial⟩)) ?_; clear hK K
   refine goA hP23 [15] 1 32767 65535 Hz (m41.to ⟨il, il, il, il, il, trivial⟩) (.build rfl zc29co fl29co rfl (by dsimp only [setL, List.set] <;> rfl) <| .nil) ?_
   clear Hz Az; intro Az Hz
   refine stepE_only 16 rfl (by kernel_rfl) rfl (fun K hK => ?_)
   refine e_alloc Hz m41 8 zc29co rfl ?_
   clear Hz Az m41; intro g44 Az w45 Hz m45 hB45 hg45
   clear hB45 hg45
   refine hK _ _ (m45.to ⟨il, il, il, il, il, trivial⟩) ?_; clear hK K
   refine stepE_end 17 rfl (by kernel_rfl) rfl (by rfl) (fun K hK => ?_)
   refine e_storeW Hz m45 8 rfl rfl rfl rfl rfl sz29co ?_
   clear m45; intro w46 m46 hB46
   clear hB46
   refine hK _ _ ?_; clear hK K
   refine wpAnyE_done (by kernel_rfl) ?_ _
   refine hK2 _ _ ?_; clear hK2; try clear K2
   refine wp_seq_k (fun K3 hK3 => ?_)
   replace Hz : Has 54 [(0, _), (6, _), (7, _), (9, _)] Az := Hz.only [0, 6, 7, 9]
   have m48 : MemOk _ _ [(1, _), (2, _), (3, _), (4, _), (5, _), (6, _), (7, _), (8, _)] _ := m46.only [1, 2, 3, 4, 5, 6, 7, 8]; clear m46
   refine region_p 15 (B := [(1, _), (8, _)]) (m48.to ⟨il, il, trivial⟩) m48 (by kernel_rfl) (fun w49 hP49 m49 => ?_); clear m48
   refine goR hP49 [0, 1, 2, 3, 4, 5, 6, 7, 8, 9] [2, 7] 10 0 1023 Hz (m49.to ⟨il, il, trivial⟩) (.move rfl <| .move rfl <| .loadBR hh (i := 8) rfl rfl Tryz.underlying29 rfl sz29co (by simp) (by dsimp only [List.drop, List.take] <;> rfl) <| .move rfl <| .nilCheck rfl <| .fieldAddr (off := 0) rfl Tryz.underlying123 rfl (s := 4) (by kernel_rfl) rfl <| .fieldAddr (off := 4) rfl Tryz.underlying121 rfl (s := 0) (by kernel_rfl) rfl <| .loadB1 hh (i := 1) rfl rfl rfl Tryz.underlying30 rfl <| .move rfl <| .add rfl rfl (r := ((k + 1 : Nat) : Int)) (by rw [IntWalk.i64_in _ (by omega)]; omega) <| .nil) ?_
   clear Hz Az; intro Az Hz
   have m60 := m49.dropS 2 rfl (k + 1) (by rw [List.length_map]; omega) (by rw [List.length_map]; omega); clear m49
   refine goA hP49 [10] 1 1023 2047 Hz (m60.to ⟨il, il, trivial⟩) (.p (fun _ _ h_ => y_sliceLn h_ (k + 1) rfl rfl Tryz.underlying30 sz62co rfl (by rw [List.length_map]; omega)) <| .nil) ?_
   clear Hz Az; intro Az Hz
   refine stepE_only 11 rfl (by kernel_rfl) rfl (fun K hK => ?_)
   refine e_call Hz Tryz.func121 rfl rfl rfl rfl (plainE_fr _ ((es.map entD).drop (k + 1)) _ _ (by simp; omega) (m60.into [(1, 2)] (by decide) rfl)) ?_
   rintro e w62 ⟨pl62, cl62, rfl, hm62⟩
   have mx62 := m60.back hm62 [(2, 1), (60, 2)] (by decide); clear hm62 m60
   have m62 : MemOk _ _ [(2, _), (60, _), (1, _), (3, _), (4, _), (5, _), (6, _), (7, _), (8, _)] _ := mx62.only [2, 60, 1, 3, 4, 5, 6, 7, 8]; clear mx62
   refine ⟨_, rfl, ?_⟩; clear Hz Az; intro Az Hz
   refine hK _ _ (m62.to ⟨il, il, trivial⟩) ?_; clear hK K
   refine goA hP49 [12, 13, 14] 3 4095 32767 Hz (m62.to ⟨il, il, trivial⟩) (.nilCheck rfl <| .fieldAddr (off := 0) rfl Tryz.underlying123 rfl (s := 4) (by kernel_rfl) rfl <| .fieldAddr (off := 0) rfl Tryz.underlying121 rfl (s := 3) (by kernel_rfl) rfl <| .nil) ?_
   clear Hz Az; intro Az Hz
   refine stepE_end 15 rfl (by kernel_rfl) rfl (by rfl) (fun K hK => ?_)
   refine e_storeR Hz m62 1 rfl rfl rfl rfl rfl sz29co (by dsimp only [List.take, List.drop, List.append_eq, List.append] <;> rfl) ?_
   clear m62; intro w67 m67 hB67
   clear hB67
   refine hK _ _ ?_; clear hK K
   refine goB hP49 [16, 17, 18] 3 65535 524287 Hz (.nilCheck rfl <| .fieldAddr (off := 0) rfl Tryz.underlying123 rfl (s := 4) (by kernel_rfl) rfl <| .fieldAddr (off := 4) rfl Tryz.underlying121 rfl (s := 0) (by kernel_rfl) rfl <| .nil) ?_
   clear Hz Az; intro Az Hz
   refine stepE_end 19 rfl (by kernel_rfl) rfl (by rfl) (fun K hK => ?_)
   refine e_store1 Hz m67 1 rfl rfl rfl rfl rfl sz30co (by dsimp only [List.set] <;> rfl) ?_
   clear m67; intro w71 m71 hB71
   clear hB71
   refine hK _ _ ?_; clear hK K
   refine wpAnyE_done (by kernel_rfl) ?_ _
   refine hK3 _ _ ?_; clear hK3; try clear K3
   replace Hz : Has 54 [(6, _)] Az := Hz.only [6]
   refine regS Hz (.assign rfl <| .nil) ?_
   clear Hz Az; intro Az Hz
   refine wp_ret ?_
   try dsimp only [Exit.then, Exit.inBlock]
   refine (ret1 (fn := Tryz.f72) Hz rfl rfl ?_)
   rw [← List.map_drop] at m71
   exact ⟨_, _, _, _, _, _, rfl, m71.ren [(1, 1), (2, 60), (3, 6), (4, 7)] (by decide)⟩
  ·
   refine e_alloc Hz m38 7 zc29co rfl ?_
   clear Hz Az m38; intro g74 Az w75 Hz m75 hB75 hg75
   clear hB75 hg75
   refine hK _ _ (fun _ => (m75.to ⟨il, il, il, il, il, trivial⟩)) ?_; clear hK K
   refine stepE_only 14 rfl (by kernel_rfl) rfl (fun K hK => ?_)
   refine e_call Hz Tryz.func120 rfl rfl rfl rfl (plainB_any dd _ _ _ ((m75.rd (i := 5) rfl).any) hdd) ?_
   rintro e w76 ⟨p76, c76, rfl, hd76, hb76⟩
   have m77 := m75.callF 8 rfl hb76 hd76
   clear m75
   clear hb76 hd76
   refine ⟨_, rfl, ?_⟩; clear Hz Az; intro Az Hz
   refine hK _ _ (m77.to ⟨il, il, il, il, il, trivial⟩) ?_; clear hK K
   refine goA hP23 [15] 1 98303 131071 Hz (m77.to ⟨il, il, il, il, il, trivial⟩) (.build rfl zc29co fl29co rfl (by dsimp only [setL, List.set] <;> rfl) <| .nil) ?_
   clear Hz Az; intro Az Hz
   refine stepE_end 17 rfl (by kernel_rfl) rfl (by rfl) (fun K hK => ?_)
   refine e_storeW Hz m77 7 rfl rfl rfl rfl rfl sz29co ?_
   clear m77; intro w80 m80 hB80
   clear hB80
   refine hK _ _ ?_; clear hK K
   refine wpAnyE_done (by kernel_rfl) ?_ _
   refine hK2 _ _ ?_; clear hK2; try clear K2
   refine wp_seq_k (fun K4 hK4 => ?_)
   replace Hz : Has 54 [(0, _), (6, _), (7, _), (9, _)] Az := Hz.only [0, 6, 7, 9]
   have m82 : MemOk _ _ [(1, _), (2, _), (3, _), (4, _), (5, _), (6, _), (7, _), (8, _)] _ := m80.only [1, 2, 3, 4, 5, 6, 7, 8]; clear m80
   refine region_p 15 (B := [(1, _), (7, _)]) (m82.to ⟨il, il, trivial⟩) m82 (by kernel_rfl) (fun w83 hP83 m83 => ?_); clear m82
   refine goR hP83 [0, 1, 2, 3, 4, 5, 6, 7, 8, 9] [2, 7] 10 0 1023 Hz (m83.to ⟨il, il, trivial⟩) (.move rfl <| .move rfl <| .loadBR hh (i := 7) rfl rfl Tryz.underlying29 rfl sz29co (by simp) (by dsimp only [List.drop, List.take] <;> rfl) <| .move rfl <| .nilCheck rfl <| .fieldAddr (off := 0) rfl Tryz.underlying123 rfl (s := 4) (by kernel_rfl) rfl <| .fieldAddr (off := 4) rfl Tryz.underlying121 rfl (s := 0) (by kernel_rfl) rfl <| .loadB1 hh (i := 1) rfl rfl rfl Tryz.underlying30 rfl <| .move rfl <| .add rfl rfl (r := ((k + 1 : Nat) : Int)) (by rw [IntWalk.i64_in _ (by omega)]; omega) <| .nil) ?_
   clear Hz Az; intro Az Hz
   have m94 := m83.dropS 2 rfl (k + 1) (by rw [List.length_map]; omega) (by rw [List.length_map]; omega); clear m83
   refine goA hP83 [10] 1 1023 2047 Hz (m94.to ⟨il, il, trivial⟩) (.p (fun _ _ h_ => y_sliceLn h_ (k + 1) rfl rfl Tryz.underlying30 sz62co rfl (by rw [List.length_map]; omega)) <| .nil) ?_
   clear Hz Az; intro Az Hz
   refine stepE_only 11 rfl (by kernel_rfl) rfl (fun K hK => ?_)
   refine e_call Hz Tryz.func121 rfl rfl rfl rfl (plainE_fr _ ((es.map entD).drop (k + 1)) _ _ (by simp; omega) (m94.into [(1, 2)] (by decide) rfl)) ?_
   rintro e w96 ⟨pl96, cl96, rfl, hm96⟩
   have mx96 := m94.back hm96 [(2, 1), (60, 2)] (by decide); clear hm96 m94
   have m96 : MemOk _ _ [(2, _), (60, _), (1, _), (3, _), (4, _), (5, _), (6, _), (7, _), (8, _)] _ := mx96.only [2, 60, 1, 3, 4, 5, 6, 7, 8]; clear mx96
   refine ⟨_, rfl, ?_⟩; clear Hz Az; intro Az Hz
   refine hK _ _ (m96.to ⟨il, il, trivial⟩) ?_; clear hK K
   refine goA hP83 [12, 13, 14] 3 4095 32767 Hz (m96.to ⟨il, il, trivial⟩) (.nilCheck rfl <| .fieldAddr (off := 0) rfl Tryz.underlying123 rfl (s := 4) (by kernel_rfl) rfl <| .fieldAddr (off := 0) rfl Tryz.underlying121 rfl (s := 3) (by kernel_rfl) rfl <| .nil) ?_
   clear Hz Az; intro Az Hz
   refine stepE_end 15 rfl (by kernel_rfl) rfl (by rfl) (fun K hK => ?_)
   refine e_storeR Hz m96 1 rfl rfl rfl rfl rfl sz29co (by dsimp only [List.take, List.drop, List.append_eq, List.append] <;> rfl) ?_
   clear m96; intro w101 m101 hB101
   clear hB101
   refine hK _ _ ?_; clear hK K
   refine goB hP83 [16, 17, 18] 3 65535 524287 Hz (.nilCheck rfl <| .fieldAddr (off := 0) rfl Tryz.underlying123 rfl (s := 4) (by kernel_rfl) rfl <| .fieldAddr (off := 4) rfl Tryz.underlying121 rfl (s := 0) (by kernel_rfl) rfl <| .nil) ?_
   clear Hz Az; intro Az Hz
   refine stepE_end 19 rfl (by kernel_rfl) rfl (by rfl) (fun K hK => ?_)
   refine e_store1 Hz m101 1 rfl rfl rfl rfl rfl sz30co (by dsimp only [List.set] <;> rfl) ?_
   clear m101; intro w105 m105 hB105
   clear hB105
   refine hK _ _ ?_; clear hK K
   refine wpAnyE_done (by kernel_rfl) ?_ _
   refine hK4 _ _ ?_; clear hK4; try clear K4
   replace Hz : Has 54 [(6, _)] Az := Hz.only [6]
   refine regS Hz (.assign rfl <| .nil) ?_
   clear Hz Az; intro Az Hz
   refine wp_ret ?_
   try dsimp only [Exit.then, Exit.inBlock]
   refine (ret1 (fn := Tryz.f72) Hz rfl rfl ?_)
   rw [← List.map_drop] at m105
   exact ⟨_, _, _, _, _, _, rfl, m105.ren [(1, 1), (2, 60), (3, 6), (4, 8)] (by decide)⟩
 ·
  refine e_alloc Hz m23 6 zc29co rfl ?_
  clear Hz Az m23; intro g108 Az w109 Hz m109 hB109 hg109
  clear hB109 hg109
  refine hK _ _ (fun _ => (m109.to ⟨il, il, il, il, il, trivial⟩)) ?_; clear hK K
  refine stepE_only 12 rfl (by kernel_rfl) rfl (fun K hK => ?_)
  refine e_call Hz Tryz.func74 rfl rfl rfl rfl (conf_any _ _ _ cf d es _ _ _ _ _ _ _ _ (m109.ok 1 _ rfl : Res.ok _ _ _ _ (.box _ _ _)).1 ((m109.ok 2 _ rfl : Res.ok _ _ _ _ (.seg _ _ _ _)).1.rd (S' := fun _ => True) (fun _ _ _ => trivial) (fun _ _ => trivial)) (by omega) (m109.rd (i := 3) rfl).any hcf heb) ?_
  rintro e w110 ⟨p110, c110, rfl, hd110, hb110⟩
  have m111 := m109.callF 7 rfl hb110 hd110
  clear m109
  clear hb110 hd110
  refine ⟨_, rfl, ?_⟩; clear Hz Az; intro Az Hz
  refine hK _ _ (m111.to ⟨il, il, il, il, il, trivial⟩) ?_; clear hK K
  refine stepE_only 14 rfl (by kernel_rfl) rfl (fun K hK => ?_)
  refine e_call Hz Tryz.func120 rfl rfl rfl rfl (plainB_any dd _ _ _ ((m111.rd (i := 5) rfl).any) hdd) ?_
  rintro e w113 ⟨p113, c113, rfl, hd113, hb113⟩
  have m114 := m111.callF 8 rfl hb113 hd113
  clear m111
  clear hb113 hd113
  refine ⟨_, rfl, ?_⟩; clear Hz Az; intro Az Hz
  refine hK _ _ (m114.to ⟨il, il, il, il, il, trivial⟩) ?_; clear hK K
  refine goA hP23 [15] 1 98303 131071 Hz (m114.to ⟨il, il, il, il, il, trivial⟩) (.build rfl zc29co fl29co rfl (by dsimp only [setL, List.set] <;> rfl) <| .nil) ?_
  clear Hz Az; intro Az Hz
  refine stepE_end 17 rfl (by kernel_rfl) rfl (by rfl) (fun K hK => ?_)
  refine e_storeW Hz m114 6 rfl rfl rfl rfl rfl sz29co ?_
  clear m114; intro w117 m117 hB117
  clear hB117
  refine hK _ _ ?_; clear hK K
  refine wpAnyE_done (by kernel_rfl) ?_ _
  refine hK2 _ _ ?_; clear hK2; try clear K2
  refine wp_seq_k (fun K5 hK5 => ?_)
  replace Hz : Has 54 [(0, _), (6, _), (7, _), (9, _)] Az := Hz.only [0, 6, 7, 9]
  have m119 : MemOk _ _ [(1, _), (2, _), (3, _), (4, _), (5, _), (6, _), (7, _), (8, _)] _ := m117.only [1, 2, 3, 4, 5, 6, 7, 8]; clear m117
  refine region_p 15 (B := [(1, _), (6, _)]) (m119.to ⟨il, il, trivial⟩) m119 (by kernel_rfl) (fun w120 hP120 m120 => ?_); clear m119
  refine goR hP120 [0, 1, 2, 3, 4, 5, 6, 7, 8, 9] [2, 7] 10 0 1023 Hz (m120.to ⟨il, il, trivial⟩) (.move rfl <| .move rfl <| .loadBR hh (i := 6) rfl rfl Tryz.underlying29 rfl sz29co (by simp) (by dsimp only [List.drop, List.take] <;> rfl) <| .move rfl <| .nilCheck rfl <| .fieldAddr (off := 0) rfl Tryz.underlying123 rfl (s := 4) (by kernel_rfl) rfl <| .fieldAddr (off := 4) rfl Tryz.underlying121 rfl (s := 0) (by kernel_rfl) rfl <| .loadB1 hh (i := 1) rfl rfl rfl Tryz.underlying30 rfl <| .move rfl <| .add rfl rfl (r := ((k + 1 : Nat) : Int)) (by rw [IntWalk.i64_in _ (by omega)]; omega) <| .nil) ?_
  clear Hz Az; intro Az Hz
  have m131 := m120.dropS 2 rfl (k + 1) (by rw [List.length_map]; omega) (by rw [List.length_map]; omega); clear m120
  refine goA hP120 [10] 1 1023 2047 Hz (m131.to ⟨il, il, trivial⟩) (.p (fun _ _ h_ => y_sliceLn h_ (k + 1) rfl rfl Tryz.underlying30 sz62co rfl (by rw [List.length_map]; omega)) <| .nil) ?_
  clear Hz Az; intro Az Hz
  refine stepE_only 11 rfl (by kernel_rfl) rfl (fun K hK => ?_)
  refine e_call Hz Tryz.func121 rfl rfl rfl rfl (plainE_fr _ ((es.map entD).drop (k + 1)) _ _ (by simp; omega) (m131.into [(1, 2)] (by decide) rfl)) ?_
  rintro e w133 ⟨pl133, cl133, rfl, hm133⟩
  have mx133 := m131.back hm133 [(2, 1), (60, 2)] (by decide); clear hm133 m131
  have m133 : MemOk _ _ [(2, _), (60, _), (1, _), (3, _), (4, _), (5, _), (6, _), (7, _), (8, _)] _ := mx133.only [2, 60, 1, 3, 4, 5, 6, 7, 8]; clear mx133
  refine ⟨_, rfl, ?_⟩; clear Hz Az; intro Az Hz
  refine hK _ _ (m133.to ⟨il, il, trivial⟩) ?_; clear hK K
  refine goA hP120 [12, 13, 14] 3 4095 32767 Hz (m133.to ⟨il, il, trivial⟩) (.nilCheck rfl <| .fieldAddr (off := 0) rfl Tryz.underlying123 rfl (s := 4) (by kernel_rfl) rfl <| .fieldAddr (off := 0) rfl Tryz.underlying121 rfl (s := 3) (by kernel_rfl) rfl <| .nil) ?_
  clear Hz Az; intro Az Hz
  refine stepE_end 15 rfl (by kernel_rfl) rfl (by rfl) (fun K hK => ?_)
  refine e_storeR Hz m133 1 rfl rfl rfl rfl rfl sz29co (by dsimp only [List.take, List.drop, List.append_eq, List.append] <;> rfl) ?_
  clear m133; intro w138 m138 hB138
  clear hB138
  refine hK _ _ ?_; clear hK K
  refine goB hP120 [16, 17, 18] 3 65535 524287 Hz (.nilCheck rfl <| .fieldAddr (off := 0) rfl Tryz.underlying123 rfl (s := 4) (by kernel_rfl) rfl <| .fieldAddr (off := 4) rfl Tryz.underlying121 rfl (s := 0) (by kernel_rfl) rfl <| .nil) ?_
  clear Hz Az; intro Az Hz
  refine stepE_end 19 rfl (by kernel_rfl) rfl (by rfl) (fun K hK => ?_)
  refine e_store1 Hz m138 1 rfl rfl rfl rfl rfl sz30co (by dsimp only [List.set] <;> rfl) ?_
  clear m138; intro w142 m142 hB142
  clear hB142
  refine hK _ _ ?_; clear hK K
  refine wpAnyE_done (by kernel_rfl) ?_ _
  refine hK5 _ _ ?_; clear hK5; try clear K5
  replace Hz : Has 54 [(6, _)] Az := Hz.only [6]
  refine regS Hz (.assign rfl <| .nil) ?_
  clear Hz Az; intro Az Hz
  refine wp_ret ?_
  try dsimp only [Exit.then, Exit.inBlock]
  refine (ret1 (fn := Tryz.f72) Hz rfl rfl ?_)
  rw [← List.map_drop] at m142
  exact ⟨_, _, _, _, _, _, rfl, m142.ren [(1, 1), (2, 60), (3, 7), (4, 8)] (by decide)⟩
end
end Go.Proofs.YtndnnlbdnjndiaaGreat.K
