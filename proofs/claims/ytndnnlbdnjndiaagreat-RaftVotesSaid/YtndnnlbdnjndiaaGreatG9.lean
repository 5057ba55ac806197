/- General laws of walks. -/
import Derived.Test.YtndnnlbdnjndiaaGreatG8
import Derived.Test.YtndnnlbdnjndiaaGreatG1
import Derived.Sort.OwnSortedInts
import Derived.Handy
import Derived.LoopTactic
import Derived.Lib.Hide
import Derived.Test.YtndnnlbdnjndiaaGreatG7
namespace Go.Proofs.YtndnnlbdnjndiaaGreat.K
open Go.ChangeShapes Go.WideShapes Go.ChangeAt Go.RowKit
set_option linter.unusedVariables false
set_option linter.unusedSimpArgs false
section
def entOf (F tm x i : Int) : Int × Int × Int × List Int :=
 (F + i, tm, if 230 < x then 2 else x / 5 % 2, if 230 < x then [x % 5, x / 5 % 2] else if x / 5 % 2 = 1 then [x, i] else [])
def termN (l : List Int) : Nat → Int
 | 0 => 1
 | k + 1 => termN l k + l.getD k 0 % 5 / 4
def entsN (F : Int) (l : List Int) : Nat → List (Int × Int × Int × List Int)
 | 0 => []
 | k + 1 => entsN F l k ++ [entOf F (termN l (k + 1)) (l.getD k 0) k]
def runN (pv : Int) : List (Int × Int × Int × List Int) → Nat
 | [] => 0
 | e :: r => if e.1 = pv + 1 then runN (pv + 1) r + 1 else 0
theorem Run.eq : ∀ {ls : List (Int × Int × Int × List Int)} {pv : Int} {k : Nat}, Run pv ls k → k = runN pv ls
 | [], pv, k, h => by have := h.1; simp at this; rw [this]; rfl
 | e :: r, pv, 0, h => by
   rcases h.2.2 with h1 | ⟨_, h1⟩
   · simp at h1
   · rw [runN, if_neg]; intro h2; exact h1 (by show e.1 = pv + 1 + ((0 : Nat) : Int); rw [h2]; simp)
 | e :: r, pv, k + 1, h => by
   have h0 : e.1 = pv + 1 := by have := h.2.1 0 (by omega); simpa using this
   rw [runN, if_pos h0]
   have := Run.eq (ls := r) (pv := pv + 1) (k := k) ⟨by simpa using h.1, fun j hj => by have := h.2.1 (j + 1) (by omega); simp at this ⊢; omega, by
     rcases h.2.2 with h1 | ⟨h2, h1⟩
     · left; simpa using h1
     · right; refine ⟨by simpa using h2, ?_⟩; simp at h1 ⊢; omega⟩
   omega
def skipN (bi : Int) (es l : List (Int × Int × Int × List Int)) : Nat := (l.takeWhile (skipB bi es)).length
def folL (bi : Int) (es : List (Int × Int × Int × List Int)) : List (Int × Int × Int × List Int) → List (Int × Int × Int × List Int)
 | [] => es
 | e :: r => cutL bi es e.1 ++ (e :: r).take (runN (bi + (cutL bi es e.1).length) (e :: r))
def folR (prev bi : Int) (es ls : List (Int × Int × Int × List Int)) : List (Int × Int × Int × List Int) × List (Int × Int × Int × List Int) × Int :=
 let l1 := ls.take (runN prev ls)
 let l2 := l1.drop (skipN bi es l1)
 (l2, folL bi es l2, max (prev + l1.length) bi)
set_option maxRecDepth 100000
set_option maxHeartbeats 4000000
theorem new_is (X : Cx) (bi bt : Int) (cf d : List Int) (ls : List (Int × Int × Int × List Int)) (pc pd pa : Option Addr) (cc cd ca nn : Nat) (w0 : World) {es' : List (Int × Int × Int × List Int)} (hbi : -1000000000000000000 ≤ bi ∧ bi ≤ 1000000000000000000) (hcf : cf.length ≤ 1000000) (hdl : d.length ≤ 140737488351232) (hn : ls.length ≤ 1000000) (hok : EntsOk ls) (hR : ls.take (runN bi ls) = es') (m0 : MemOk X w0 [(5, .dat (.slice pc cf.length cc) (.ns .i64 cf)), (6, .dat (.slice pd d.length cd) (.ns .u8 d)), (7, .dat (.slice pa nn ca) (.l 4 (ls.map entD)))] w0) :
   Calls Tryz.prog 36 #[.agg #[.int .i64 bi, .int .i64 bt, .slice pc cf.length cc, .slice pd d.length cd], .slice pa nn ca] w0 fun e w' => ∃ (B : Nat) (pc' : Option Addr) (cc' : Nat) (pd' : Option Addr) (cd' : Nat) (pl' : Option Addr) (cl' : Nat), e = .returned (.pointer (some ⟨B, 0, none⟩)) ∧ MemOk X w0 [(1, .box B 123 [.int .i64 bi, .int .i64 bt, .slice pc' cf.length cc', .slice pd' d.length cd', .slice pl' (es'.map entD).length cl']), (2, .seg (.slice pl' (es'.map entD).length cl') 62 4 (es'.map entD)), (3, .dat (.slice pc' cf.length cc') (.ns .i64 cf)), (4, .dat (.slice pd' d.length cd') (.ns .u8 d))] w' := by
 refine (new_fr X bi bt cf d ls pc pd pa cc cd ca nn w0 hbi hcf hdl hn hok m0).mono ?_
 rintro e w' ⟨B, k, pc', cc', pd', cd', pl', cl', rfl, hrun, hm⟩
 rw [hrun.eq, hR] at hm
 exact ⟨B, pc', cc', pd', cd', pl', cl', rfl, hm⟩
end
section
def fromL (bi : Int) (es : List (Int × Int × Int × List Int)) (i q : Int) : List (Int × Int × Int × List Int) := (es.drop (i - bi - 1).toNat).take q.toNat
theorem from_is (B : Nat) (bi bt : Int) (cf d : List Int) (es : List (Int × Int × Int × List Int)) (pc pd pl : Option Addr) (cc cd cl : Nat) (w0 : World) (i q : Int) (hB : Blk w0 B 123 [.int .i64 bi, .int .i64 bt, .slice pc cf.length cc, .slice pd d.length cd, .slice pl (es.map entD).length cl]) (hl : Rd (fun _ => True) w0 (.slice pl (es.map entD).length cl) (.l 4 (es.map entD))) (hbi : -1000000000000000000 ≤ bi ∧ bi ≤ 1000000000000000000) (hn : es.length ≤ 1000000) (hok : EntsOk es) {part : List (Int × Int × Int × List Int)} (hp : fromL bi es i q = part) :
   Calls Tryz.prog 71 #[.pointer (some ⟨B, 0, none⟩), .int .i64 i, .int .i64 q] w0 fun e w' => ∃ p c, e = .returned (.slice p (part.map entD).length c) ∧ Rd (New w0) w' (.slice p (part.map entD).length c) (.l 4 (part.map entD)) ∧ Below w0.heap.size w0 w' := by
 subst hp
 by_cases h : q ≤ 0 ∨ bi + es.length < i
 · have e : fromL bi es i q = [] := by
     unfold fromL
     rcases h with h | h
     · rw [show q.toNat = 0 from by omega, List.take_zero]
     · rw [List.drop_of_length_le (by omega), List.take_nil]
   rw [e]
   refine (from_none B bi bt cf d es pc pd pl cc cd cl w0 i q hB hl hbi hn h).mono ?_
   rintro e w' ⟨rfl, hb⟩
   exact ⟨none, 0, rfl, .l0 none 0 4, hb⟩
 · have e : fromL bi es i q = (es.drop (i - bi - 1).toNat).take (min q.toNat (es.length - (i - bi - 1).toNat)) := by
     unfold fromL
     have hd : (es.drop (i - bi - 1).toNat).length = es.length - (i - bi - 1).toNat := List.length_drop
     by_cases hq : q.toNat ≤ es.length - (i - bi - 1).toNat
     · rw [Nat.min_eq_left hq]
     · rw [Nat.min_eq_right (by omega), List.take_of_length_le (by omega), List.take_of_length_le (by omega)]
   rw [e]
   exact from_some B bi bt cf d es pc pd pl cc cd cl w0 (i - bi - 1).toNat _ i q hB hl hbi hn hok (by omega) (by omega) (by omega) (by omega)
theorem compact_is (X : Cx) (B : Nat) (bi bt : Int) (cf d : List Int) (es : List (Int × Int × Int × List Int)) (pc pd pl : Option Addr) (cc cd cl : Nat) (k : Nat) (i : Int) (dd : List Int) (pa : Option Addr) (ca : Nat) (w0 : World) {ei et ek : Int} {ed : List Int} (hbi : -1000000000000000000 ≤ bi ∧ bi ≤ 1000000000000000000) (hn : es.length ≤ 1000000) (hdd : dd.length ≤ 140737488351232) (hcf : cf.length ≤ 900) (heb : EntsB es) (hes : es[k]? = some (ei, et, ek, ed)) (hi : i = bi + 1 + k) {ms : List Int} (hms : confL cf es i = ms) (m0 : MemOk X w0 [(1, .box B 123 [.int .i64 bi, .int .i64 bt, .slice pc cf.length cc, .slice pd d.length cd, .slice pl (es.map entD).length cl]), (2, .seg (.slice pl (es.map entD).length cl) 62 4 (es.map entD)), (3, .dat (.slice pc cf.length cc) (.ns .i64 cf)), (4, .dat (.slice pd d.length cd) (.ns .u8 d)), (5, .dat (.slice pa dd.length ca) (.ns .u8 dd))] w0) :
   Calls Tryz.prog 72 #[.pointer (some ⟨B, 0, none⟩), .int .i64 i, .slice pa dd.length ca] w0 fun e w' => ∃ (pc' : Option Addr) (cc' : Nat) (pd' : Option Addr) (cd' : Nat) (pl' : Option Addr) (cl' : Nat), e = .returned (.bool true) ∧ MemOk X w0 [(1, .box B 123 [.int .i64 i, .int .i64 et, .slice pc' ms.length cc', .slice pd' dd.length cd', .slice pl' ((es.drop (k + 1)).map entD).length cl']), (2, .seg (.slice pl' ((es.drop (k + 1)).map entD).length cl') 62 4 ((es.drop (k + 1)).map entD)), (3, .dat (.slice pc' ms.length cc') (.ns .i64 ms)), (4, .dat (.slice pd' dd.length cd') (.ns .u8 dd))] w' := by
 subst hms; exact compact_yes X B bi bt cf d es pc pd pl cc cd cl k i dd pa ca w0 hbi hn hdd hcf heb hes hi m0
set_option maxRecDepth 100000
set_option maxHeartbeats 4000000
end
end Go.Proofs.YtndnnlbdnjndiaaGreat.K
section
namespace Go.Proofs.YtndnnlbdnjndiaaGreat.K
open Go.ChangeShapes Go.WideShapes Go.ChangeAt Go.RowKit Go.Sort
set_option linter.unusedVariables false
set_option linter.unusedSimpArgs false


def tmo (n t : Int) : Int := 10 + (7 * (max n 0 % 10) + 3 * (max t 0 % 10)) % 10

set_option maxHeartbeats 1000000 in
theorem timeout_any (n t : Int) (w : World) (n0 : -9223372036854775808 ≤ n) (n1 : n ≤ 9223372036854775807) (t0 : -9223372036854775808 ≤ t) (t1 : t ≤ 9223372036854775807) :
   Calls Tryz.prog 50 #[.int .i64 n, .int .i64 t] w fun e w' => e = .returned (.int .i64 (tmo n t)) ∧ w = w' := by
 go_enter Tryz.func50, Tryz.ntmps50
 go_wp2
 all_goals (go_ret; exact ⟨ret_int (by unfold tmo; omega), rfl⟩)

def newer (a b c d : Int) : Bool := decide (c < a ∨ (a = c ∧ d ≤ b))

set_option maxHeartbeats 1000000 in
theorem newer_any (a b c d : Int) (w : World) :
   Calls Tryz.prog 153 #[.int .i64 a, .int .i64 b, .int .i64 c, .int .i64 d] w fun e w' => e = .returned (.bool (newer a b c d)) ∧ w = w' := by
 by_cases h1 : c < a
 · go_enter Tryz.func153, Tryz.ntmps153
   go_wp2
   go_ret
   exact ⟨ret_bool (by simp [newer, h1]), rfl⟩
 · by_cases h2 : a = c
   · subst h2
     go_enter Tryz.func153, Tryz.ntmps153
     go_wp2
     go_ret
     exact ⟨ret_bool (by simp [newer]), rfl⟩
   · go_enter Tryz.func153, Tryz.ntmps153
     go_wp2
     go_ret
     exact ⟨ret_bool (by simp [newer, h1, h2]), rfl⟩


def IsInts (w : World) (v : Value) (zs : List Int) : Prop :=
 (∃ a c, v = .slice a 0 c ∧ zs = []) ∨
 ∃ b off c, v = .slice (some ⟨b, off, none⟩) zs.length c ∧ 0 < zs.length ∧ b < w.heap.size ∧ ∀ j, j < zs.length → w.cell? ⟨b, off + j, none⟩ = some (.int .i64 (zs.getD j 0))

def scanF (t c most : Int) (ts : List Int) : Nat → Int
 | 0 => c
 | k + 1 => if c + 1 + k ≤ most ∧ ts.getD k 0 = t then c + 1 + k else scanF t c most ts k

def mostOf (m : List Int) : Int := (m.mergeSort fun x y => decide (x ≤ y)).getD ((m.length - 1) / 2) 0

def commitF (t c : Int) (m ts : List Int) : Int := if m = [] then c else scanF t c (mostOf m) ts ts.length

set_option maxHeartbeats 2000000 in
theorem commit_any (t c : Int) (m ts : List Int) (v3 v4 : Value) (w : World) (hm : IsInts w v3 m) (ht : IsInts w v4 ts) (hc0 : -2199023255552 ≤ c) (hc1 : c ≤ 2199023255552) (ml : m.length ≤ 1000) (tl : ts.length ≤ 1000) :
   Calls Tryz.prog 147 #[.int .i64 t, .int .i64 c, v3, v4] w fun e w' => e = .returned (.int .i64 (commitF t c m ts)) ∧ Below w.heap.size w w' := by
 rcases hm with ⟨a, k, rfl, rfl⟩ | ⟨b, off, k, rfl, hpos, hblk, hcell⟩
 · obtain ⟨a', n', k', rfl⟩ : ∃ a n k, v4 = .slice a n k := by
     rcases ht with ⟨a, k, rfl, _⟩ | ⟨b, off, k, rfl, _⟩ <;> exact ⟨_, _, _, rfl⟩
   go_enter Tryz.func147, Tryz.ntmps147
   go_wp2
   go_ret
   exact ⟨rfl, by go_grown⟩
 · have hcl := Tryz.slices_Clone_int b off m.length k m w (Nat.le_refl _) (by omega) hcell
   have hp : ((m.length : Int) == 0) = false := by rw [beq_eq_false_iff_ne]; omega
   have HC := Lib.hid hcell
   have hne : m ≠ [] := by intro h; rw [h] at hpos; exact absurd hpos (by simp)
   clear hcell
   rcases ht with ⟨a', k', rfl, rfl⟩ | ⟨b', off', k', rfl, hpos', hblk', hcell'⟩
   · go_enter Tryz.func147, Tryz.ntmps147
     go_wp2_with fail
     refine hcl.mono ?_
     rintro e w1 ⟨v', rfl, hown, hnn, hb1⟩
     rw [List.take_length] at hown
     rcases hown.2 with ⟨hnil, _⟩ | ⟨g, cap, cur, rfl, hbase, hb, h1, h2, h3, h4⟩
     · exact absurd hnil hnn
     have hg : g < w1.heap.size := (Array.getElem?_eq_some_iff.1 hb).1
     have hsort := Tryz.slices_Sort_int g 0 cap m w1 (holds_of_blockI hb (by simpa using h4)) hg (by omega)
     clear h4
     go_wp2_with fail
     refine hsort.mono ?_
     rintro e w2 ⟨rfl, nn, os, rfl⟩
     have hown2 := ownsRow_sortedI (w := w1) (n := nn) (os := os) (ss := m) (ts := m.mergeSort fun x y => decide (x ≤ y)) (by simp) hbase hb h1 h2 h3
     have hb2 := hb1.grown (grownBy_sortedI (w := w1) (n := nn) (os := os) (g := g) (m.mergeSort fun x y => decide (x ≤ y)).toArray) hb1.size (fun j hj => by cases hj; exact hbase)
     generalize grow (putRow (Value.int .i64) (Sort.ahead w1 nn) g 0 (m.mergeSort fun x y => decide (x ≤ y)).toArray) os = w2 at hown2 hb2 ⊢
     have hq : (m.length - 1) / 2 < m.length := by omega
     have hcell2 : w2.cell? ⟨g, (m.length - 1) / 2, none⟩ = some (.int .i64 (mostOf m)) := by
       rw [hown2.cellAt _ (by omega)]
       unfold mostOf
       simp [List.getD, hq]
     clear hown hsort hcl hb h1 h2 h3
     go_wp2_with fail
     go_rounds 1
     go_ret
     exact ⟨ret_int (by simp [commitF, scanF, hne]), hb2⟩
   · have HC' := Lib.hid hcell'
     clear hcell'
     go_enter Tryz.func147, Tryz.ntmps147
     go_wp2_with fail
     refine hcl.mono ?_
     rintro e w1 ⟨v', rfl, hown, hnn, hb1⟩
     rw [List.take_length] at hown
     rcases hown.2 with ⟨hnil, _⟩ | ⟨g, cap, cur, rfl, hbase, hb, h1, h2, h3, h4⟩
     · exact absurd hnil hnn
     have hg : g < w1.heap.size := (Array.getElem?_eq_some_iff.1 hb).1
     have hsort := Tryz.slices_Sort_int g 0 cap m w1 (holds_of_blockI hb (by simpa using h4)) hg (by omega)
     clear h4
     go_wp2_with fail
     refine hsort.mono ?_
     rintro e w2 ⟨rfl, nn, os, rfl⟩
     have hown2 := ownsRow_sortedI (w := w1) (n := nn) (os := os) (ss := m) (ts := m.mergeSort fun x y => decide (x ≤ y)) (by simp) hbase hb h1 h2 h3
     have hb2 := hb1.grown (grownBy_sortedI (w := w1) (n := nn) (os := os) (g := g) (m.mergeSort fun x y => decide (x ≤ y)).toArray) hb1.size (fun j hj => by cases hj; exact hbase)
     generalize grow (putRow (Value.int .i64) (Sort.ahead w1 nn) g 0 (m.mergeSort fun x y => decide (x ≤ y)).toArray) os = w2 at hown2 hb2 ⊢
     have hq : (m.length - 1) / 2 < m.length := by omega
     have hcell2 : w2.cell? ⟨g, (m.length - 1) / 2, none⟩ = some (.int .i64 (mostOf m)) := by
       rw [hown2.cellAt _ (by omega)]
       unfold mostOf
       simp [List.getD, hq]
     clear hown hsort hcl hb h1 h2 h3
     go_wp2_with fail
     go_loop [11] (fun i => ∃ k : Nat, k ≤ ts.length ∧ i = .int .i64 ((k : Int) - 1) ∧ scanF t c (mostOf m) ts k = scanF t c (mostOf m) ts ts.length) (fun i => (intOf i + 1).toNat)
     case atStart => exact ⟨ts.length, Nat.le_refl _, rfl, rfl⟩
     case round =>
       obtain ⟨j, hj, rfl, hs⟩ := hrel
       rcases j with _ | j
       · rw [show (((0 : Nat) : Int) - 1) = -1 by rfl]
         have HS := Lib.hid hs
         clear hs
         go_wp2
         go_ret
         exact ⟨ret_int (by rw [commitF, if_neg hne, ← HS.out]; rfl), hb2⟩
       · rw [show (((j + 1 : Nat) : Int) - 1) = (j : Int) by omega]
         have hc4 : w2.cell? ⟨b', off' + j, none⟩ = some (.int .i64 (ts.getD j 0)) := by rw [hb2.cell hblk']; exact HC'.out j (by omega)
         obtain ⟨x, hx⟩ : ∃ x, ts.getD j 0 = x := ⟨_, rfl⟩
         rw [hx] at hc4
         have HX := Lib.hid hx
         have HS := Lib.hid hs
         clear hs hx
         by_cases h5 : c + 1 + j ≤ mostOf m
         · by_cases h6 : x = t
           · have h7 : (x == t) = true := by simpa using h6
             have H6 := Lib.hid h6
             clear h6
             go_wp2
             go_ret
             exact ⟨ret_int (by rw [commitF, if_neg hne, ← HS.out, scanF, if_pos ⟨h5, by rw [HX.out]; exact H6.out⟩]), hb2⟩
           · have h7 : (x == t) = false := by simpa using h6
             have H6 := Lib.hid h6
             clear h6
             go_wp2
             go_round
             case rel => exact ⟨j, by omega, rfl, by rw [← HS.out, scanF, if_neg (by rw [HX.out]; exact fun h => H6.out h.2)]⟩
             case measure => simp [intOf]
         · go_wp2
           go_round
           case rel => exact ⟨j, by omega, rfl, by rw [← HS.out, scanF, if_neg (fun h => h5 h.1)]⟩
           case measure => simp [intOf]


theorem IsInts.ofNums {w : World} {v : Value} {zs : List Int} (h : IsNums .i64 w v zs) : IsInts w v zs := by
 obtain ⟨a, c, rfl, h | ⟨b, off, rfl, h1, h2⟩⟩ := h
 · exact .inl ⟨a, c, by rw [h], List.eq_nil_of_length_eq_zero h⟩
 · rcases Nat.eq_zero_or_pos zs.length with h0 | h0
   · exact .inl ⟨_, c, by rw [h0], List.eq_nil_of_length_eq_zero h0⟩
   · exact .inr ⟨b, off, c, rfl, h0, h1, h2⟩
def cnt (i : Int) (l : List Int) : Nat := l.countP fun x => decide (i ≤ x)
theorem cnt_snoc (i : Int) (l : List Int) (x : Int) : cnt i (l ++ [x]) = cnt i l + if i ≤ x then 1 else 0 := by
 unfold cnt; rw [List.countP_append]; simp [List.countP_cons]
theorem cnt_le (i : Int) (l : List Int) : cnt i l ≤ l.length := List.countP_le_length

theorem sorted_mid (S : List Int) (hs : S.Pairwise (· ≤ ·)) (hp : 0 < S.length) (i : Int) : i ≤ S.getD ((S.length - 1) / 2) 0 ↔ S.length < 2 * cnt i S := by
 have hq : (S.length - 1) / 2 < S.length := by omega
 have hget : S.getD ((S.length - 1) / 2) 0 = S[(S.length - 1) / 2] := by simp [List.getD, hq]
 rw [hget]
 generalize hqq : (S.length - 1) / 2 = q at hq ⊢
 have hsplit : cnt i S = cnt i (S.take q) + cnt i (S.drop q) := by
   unfold cnt; rw [← List.countP_append, List.take_append_drop]
 have hsplit2 : cnt i S = cnt i (S.take (q + 1)) + cnt i (S.drop (q + 1)) := by
   unfold cnt; rw [← List.countP_append, List.take_append_drop]
 have hidx := List.pairwise_iff_getElem.1 hs
 constructor
 · intro h
   have : cnt i (S.drop q) = (S.drop q).length := by
     unfold cnt
     rw [List.countP_eq_length]
     intro x hx
     obtain ⟨j, hj, rfl⟩ := List.getElem_of_mem hx
     rw [List.getElem_drop]
     simp only [List.length_drop] at hj
     by_cases e : j = 0
     · subst e; simpa using h
     · have := hidx q (q + j) hq (by omega) (by omega)
       simp; omega
   have h2 : (S.drop q).length = S.length - q := by simp
   omega
 · intro h
   by_cases c : i ≤ S[q]
   · exact c
   · exfalso
     have : cnt i (S.take (q + 1)) = 0 := by
       unfold cnt
       rw [List.countP_eq_zero]
       intro x hx
       obtain ⟨j, hj, rfl⟩ := List.getElem_of_mem hx
       simp only [List.length_take] at hj
       rw [List.getElem_take]
       by_cases e : j = q
       · subst e; simpa using c
       · have := hidx j q (by omega) hq (by omega)
         simp; omega
     have h2 := cnt_le i (S.drop (q + 1))
     simp at h2
     omega

theorem most_iff (m : List Int) (hm : m ≠ []) (i : Int) : i ≤ mostOf m ↔ m.length < 2 * cnt i m := by
 have hl : 0 < m.length := List.length_pos_iff.2 hm
 have hlen : (m.mergeSort fun x y => decide (x ≤ y)).length = m.length := by simp
 have hs : (m.mergeSort fun x y => decide (x ≤ y)).Pairwise (· ≤ ·) := by
   have := List.pairwise_mergeSort (le := fun x y : Int => decide (x ≤ y)) (by intro a b c h1 h2; simp at *; omega) (by intro a b; simp; omega) m
   exact this.imp (by intro a b h; simpa using h)
 have h := sorted_mid _ hs (by omega) i
 rw [hlen] at h
 unfold mostOf
 rw [h]
 have : cnt i (m.mergeSort fun x y => decide (x ≤ y)) = cnt i m := (List.mergeSort_perm m _).countP_eq _
 rw [this]


def scanC (t c : Int) (m ts : List Int) : Nat → Int
 | 0 => c
 | k + 1 => if m.length < 2 * cnt (c + 1 + k) m ∧ ts.getD k 0 = t then c + 1 + k else scanC t c m ts k
def commitC (t c : Int) (m ts : List Int) : Int := if m.length = 0 then c else scanC t c m ts ts.length
theorem commitF_eq (t c : Int) (m ts : List Int) : commitF t c m ts = commitC t c m ts := by
 unfold commitF commitC
 by_cases h : m = []
 · subst h; rfl
 · rw [if_neg h, if_neg (fun h9 => h (List.eq_nil_of_length_eq_zero h9))]
   generalize ts.length = n
   induction n with
   | zero => rfl
   | succ n ih =>
     unfold scanF scanC
     rw [ih]
     have := most_iff m h (c + 1 + n)
     by_cases h2 : c + 1 + (n : Int) ≤ mostOf m ∧ ts.getD n 0 = t
     · rw [if_pos h2, if_pos ⟨this.1 h2.1, h2.2⟩]
     · rw [if_neg h2, if_neg fun h3 => h2 ⟨this.2 h3.1, h3.2⟩]
theorem commitC_any (t c : Int) (m ts : List Int) (v3 v4 : Value) (w : World) (hm : IsInts w v3 m) (ht : IsInts w v4 ts) (hc0 : -2199023255552 ≤ c) (hc1 : c ≤ 2199023255552) (ml : m.length ≤ 1000) (tl : ts.length ≤ 1000) :
   Calls Tryz.prog 147 #[.int .i64 t, .int .i64 c, v3, v4] w fun e w' => e = .returned (.int .i64 (commitC t c m ts)) ∧ Below w.heap.size w w' := by
 rw [← commitF_eq]; exact commit_any t c m ts v3 v4 w hm ht hc0 hc1 ml tl
end Go.Proofs.YtndnnlbdnjndiaaGreat.K
end
section
namespace Go.Proofs.YtndnnlbdnjndiaaGreat.K
open Go.ChangeShapes Go.WideShapes Go.ChangeAt Go.RowKit Go.Sort
set_option linter.unusedVariables false
set_option linter.unusedSimpArgs false

theorem chas_any (v : Value) (l : List Int) (n : Int) (w : World) (hv : IsNums .i64 w v l) (hl : l.length ≤ 1000) :
   Calls Tryz.prog 48 #[v, .int .i64 n] w fun e w' => e = .returned (.bool (l.contains n)) ∧ w = w' := by
 obtain ⟨p, c, rfl, h⟩ := hv
 by_cases h0 : l.length = 0
 · obtain rfl := List.length_eq_zero_iff.1 h0
   have hc := Tryz.slices_Contains_int_empty p c n w
   clear h
   go_enter Tryz.func48, Tryz.ntmps48
   go_wp2_with (go_at_call 87; ((with_reducible refine hc.mono ?_); rintro e w' ⟨rfl, rfl⟩))
   go_ret
   exact ⟨rfl, rfl⟩
 · obtain h | ⟨b, off, rfl, hblk, hcell⟩ := h
   · exact absurd h h0
   have hc := Tryz.slices_Contains_int b off l.length c l n w (Nat.le_refl _) (by omega) hcell
   rw [List.take_length] at hc
   have HC := Lib.hid hcell
   clear hcell
   go_enter Tryz.func48, Tryz.ntmps48
   go_wp2_with (go_at_call 87; ((with_reducible refine hc.mono ?_); rintro e w' ⟨rfl, rfl⟩))
   go_ret
   exact ⟨ret_bool (by simp), rfl⟩
def votes (l yes : List Int) : Nat := (l.filter fun x => yes.contains x).length
theorem votes_snoc (l yes : List Int) (k : Nat) (h : k < l.length) : votes (l.take (k + 1)) yes = votes (l.take k) yes + if yes.contains (l.getD k 0) = true then 1 else 0 := by
 unfold votes
 rw [List.take_succ_eq_append_getElem h, List.filter_append, List.length_append]
 congr 1
 simp only [List.getD, List.getElem?_eq_getElem h, Option.getD_some, List.filter_cons, List.filter_nil]
 split <;> rfl
def mostB (l yes : List Int) : Bool := decide ((ofL l).length < 2 * votes (ofL l) yes)
set_option maxRecDepth 100000 in
set_option maxHeartbeats 2000000 in
theorem cmost_any (v v1 : Value) (l yes : List Int) (w : World) (hv : IsNums .i64 w v l) (hy : IsNums .i64 w v1 yes) (hl : l.length ≤ 900) (hyl : yes.length ≤ 900) :
   Calls Tryz.prog 134 #[v, v1] w fun e w' => e = .returned (.bool (mostB l yes)) ∧ Below w.heap.size w w' := by
 obtain ⟨p, c, rfl, -⟩ := id hv
 obtain ⟨p1, c1, rfl, -⟩ := id hy
 have H := Lib.hid hv
 have HY0 := Lib.hid hy
 clear hv hy
 have hdef : mostB l yes = decide ((ofL l).length < 2 * votes (ofL l) yes) := rfl
 go_enter Tryz.func134, Tryz.ntmps134
 go_wp2_with fail
 refine (of_any _ l _ H.out (by omega)).mono ?_
 rintro e w1 ⟨u, rfl, hown, hb⟩
 have hn := ofL_len l
 have hz := hb.size
 obtain ⟨O, hOO⟩ : ∃ O, ofL l = O := ⟨_, rfl⟩
 rw [hOO] at hown hn hdef
 have HY := Lib.hid (HY0.out.below hb (Nat.le_refl _))
 have hO := IsNums.ofOwn hown
 obtain ⟨pu, cu, rfl, hO⟩ := hO
 have HO := Lib.hid hO
 have HDf := Lib.hid hdef
 clear hown hO hOO hdef
 go_wp2
 go_loop [6, 13] (fun s i => ∃ k : Nat, k ≤ O.length ∧ i = .int .i64 k ∧ s = .int .i64 (votes (O.take k) yes : Nat)) (fun _ i => O.length - (intOf i).toNat)
 case atStart => exact ⟨0, Nat.zero_le _, rfl, rfl⟩
 case round =>
   obtain ⟨k, hk, rfl, rfl⟩ := hrel
   have hvl : votes (O.take k) yes ≤ k := Nat.le_trans (List.length_filter_le _ _) (List.length_take_le _ _)
   by_cases hlt : k < O.length
   · obtain h0 | ⟨b, off, rfl, hblk, hcell⟩ := HO.out
     · omega
     have hc := hcell k hlt
     have hsn := votes_snoc O yes k hlt
     obtain ⟨x, hx⟩ : ∃ x, O.getD k 0 = x := ⟨_, rfl⟩
     rw [hx] at hc hsn
     obtain ⟨V, hV⟩ : ∃ V, votes (O.take k) yes = V := ⟨_, rfl⟩
     rw [hV] at hsn hvl ⊢
     have hhas := chas_any _ yes x w1 HY.out (by omega)
     cases hq : yes.contains x with
     | true =>
       rw [hq] at hsn hhas
       have HS := Lib.hid hsn
       clear hcell hx hV hsn hq
       go_wp2_with (go_at_call 48; ((with_reducible refine hhas.mono ?_); rintro e w' ⟨rfl, rfl⟩))
       go_round
       case rel => exact ⟨k + 1, by omega, by go_num, by rw [HS.out, if_pos trivial]; go_num⟩
       case measure => simp [intOf]; omega
     | false =>
       rw [hq] at hsn hhas
       have HS := Lib.hid hsn
       clear hcell hx hV hsn hq
       go_wp2_with (go_at_call 48; ((with_reducible refine hhas.mono ?_); rintro e w' ⟨rfl, rfl⟩))
       go_round
       case rel => exact ⟨k + 1, by omega, by go_num, by rw [HS.out]; simp⟩
       case measure => simp [intOf]; omega
   · obtain rfl : k = O.length := by omega
     rw [List.take_length] at hvl ⊢
     go_wp2
     go_ret
     refine ⟨ret_bool ?_, hb⟩
     rw [HDf.out]
     simp; omega

theorem ofc_any (v : Value) (l : List Int) (w : World) (hv : IsNums .i64 w v l) (hl : l.length ≤ 1000) :
   Calls Tryz.prog 88 #[v] w (ListPost w (canon l)) := by rw [← ofL_canon]; exact of_any v l w hv hl
theorem withc_any (v : Value) (l : List Int) (n : Int) (w : World) (hv : IsNums .i64 w v l) (hl : l.length ≤ 900) :
   Calls Tryz.prog 141 #[v, .int .i64 n] w (ListPost w (canon (canon l ++ [n]))) := by rw [← ofL_canon, ← ofL_canon]; exact with_any v l n w hv hl
theorem woutc_any (v : Value) (l : List Int) (n : Int) (w : World) (hv : IsNums .i64 w v l) (hl : l.length ≤ 900) :
   Calls Tryz.prog 128 #[v, .int .i64 n] w (ListPost w ((canon l).filter fun x => decide (x ≠ n))) := by rw [← ofL_canon]; exact without_any v l n w hv hl
def mostC (l yes : List Int) : Bool := decide ((canon l).length < 2 * votes (canon l) yes)
theorem cmostc_any (v v1 : Value) (l yes : List Int) (w : World) (hv : IsNums .i64 w v l) (hy : IsNums .i64 w v1 yes) (hl : l.length ≤ 900) (hyl : yes.length ≤ 900) :
   Calls Tryz.prog 134 #[v, v1] w fun e w' => e = .returned (.bool (mostC l yes)) ∧ Below w.heap.size w w' := by
 have := cmost_any v v1 l yes w hv hy hl hyl
 unfold mostB at this
 rw [ofL_canon] at this
 exact this

end Go.Proofs.YtndnnlbdnjndiaaGreat.K
end
namespace Go.Proofs.YtndnnlbdnjndiaaGreat.K
open Go.ChangeShapes Go.WideShapes Go.ChangeAt Go.RowKit
set_option linter.unusedVariables false
set_option linter.unusedSimpArgs false
section
theorem ret0r {P : Program} {n : Nat} {T : List (Tmp × Value)} {a : Act} {w : World} (ha : Has n T a) {fn : Func} {R : Ending → World → Prop} (hr : fn.results = #[]) (h : R (.returned (.tuple #[])) w) : bodyPost P fn R .ret a w :=
 ⟨ha.d, _, results_none hr _ _ _, h⟩
theorem retCTT {P : Program} {n : Nat} {T : List (Nat × Value)} {a : Act} {w w0 : World} {X : Cx} {M : Mm} (ha : Has n T a) (m : MemOk X w0 M w) {fn : Func} {t s r : Tmp} {ty : TypeId} {td : TypeDesc} {i g : Nat} {e : TypeId} {cs : List Value} {u v : Value} {R : Ending → World → Prop} (hr : fn.results = #[.cell t ty, .tmp s, .tmp r]) (hv : lk T t = some (.pointer (some ⟨g, 0, none⟩))) (hu2 : lk T s = some u) (hu3 : lk T r = some v) (hm : lk M i = some (.box g e cs)) (hu : P.underlying ty = some td) (hd : td.isRow = true) (hs : (P.info? ty).map (·.size) = some cs.length) (h : R (.returned (.tuple #[.agg cs.toArray, u, v])) w) : bodyPost P fn R .ret a w :=
 ⟨ha.d, _, by
   have h1 := ha.h t _ hv
   have h2 := ha.h s _ hu2
   have h3 := ha.h r _ hu3
   rw [Array.getD_eq_getD_getElem?] at h1 h2 h3
   simp [results, hr, h1, h2, h3, asAddr, run_loadBox m hm hu hd hs], h⟩
structure RS where
 x : RV
 bi : Int
 bt : Int
 cf : List Int
 bd : List Int
 es : List En
 ys : List Int
 ms : List RM
 rs : List RR
 re : Bool
structure RP where
 L : Nat
 pc : Option Addr
 pd : Option Addr
 pl : Option Addr
 py : Option Addr
 pm : Option Addr
 pq : Option Addr
 cc : Nat
 cd : Nat
 cl : Nat
 cy : Nat
 cm : Nat
 cq : Nat
abbrev rfM (R : Nat) (s : RS) (p : RP) : Mm :=
 [(1, .box R 86 (raC s.x p.L (.slice p.py s.ys.length p.cy) (.slice p.pm (s.ms.map rmD).length p.cm) (.slice p.pq (s.rs.map rrD).length p.cq) s.re)),
  (2, .box p.L 123 [.int .i64 s.bi, .int .i64 s.bt, .slice p.pc s.cf.length p.cc, .slice p.pd s.bd.length p.cd, .slice p.pl (s.es.map entD).length p.cl]),
  (3, .seg (.slice p.pl (s.es.map entD).length p.cl) 62 4 (s.es.map entD)),
  (4, .dat (.slice p.pc s.cf.length p.cc) (.ns .i64 s.cf)),
  (5, .dat (.slice p.pd s.bd.length p.cd) (.ns .u8 s.bd)),
  (6, .dat (.slice p.py s.ys.length p.cy) (.ns .i64 s.ys)),
  (7, .seg (.slice p.pm (s.ms.map rmD).length p.cm) 55 19 (s.ms.map rmD)),
  (8, .seg (.slice p.pq (s.rs.map rrD).length p.cq) 118 12 (s.rs.map rrD))]
structure RLB (bi : Int) (cf bd : List Int) (es : List En) : Prop where
 b : -1000000000000000 ≤ bi ∧ bi ≤ 1000000000000000
 c : cf.length ≤ 900
 d : bd.length ≤ 100000
 n : es.length ≤ 100000
 e : ∀ e ∈ es, e.2.2.2.length ≤ 100000 ∧ ByteL e.2.2.2
theorem RLB.snoc {bi : Int} {cf bd : List Int} {es : List En} (h : RLB bi cf bd es) (hn : es.length < 100000) {i t k : Int} {d : List Int} (hd : d.length ≤ 100000) (hb : ByteL d) : RLB bi cf bd (es ++ [(i, t, k, d)]) := by
 refine ⟨h.b, h.c, h.d, by rw [List.length_append]; simp; omega, fun e he => ?_⟩
 rcases List.mem_append.1 he with he | he
 · exact h.e e he
 · rw [List.mem_singleton] at he; subst he; exact ⟨hd, hb⟩
abbrev RLS (s : RS) : Prop := RLB s.bi s.cf s.bd s.es
def nx (x : RV) (n : Int) : Int := if n = 0 then x.n0 else if n = 1 then x.n1 else if n = 2 then x.n2 else if n = 3 then x.n3 else if n = 4 then x.n4 else if n = 5 then x.n5 else x.n6
def mx (x : RV) (n : Int) : Int := if n = 0 then x.m0 else if n = 1 then x.m1 else if n = 2 then x.m2 else if n = 3 then x.m3 else if n = 4 then x.m4 else if n = 5 then x.m5 else x.m6
def setN (x : RV) (n v : Int) : RV := if n = 0 then { x with n0 := v } else if n = 1 then { x with n1 := v } else if n = 2 then { x with n2 := v } else if n = 3 then { x with n3 := v } else if n = 4 then { x with n4 := v } else if n = 5 then { x with n5 := v } else { x with n6 := v }
def setM (x : RV) (n v : Int) : RV := if n = 0 then { x with m0 := v } else if n = 1 then { x with m1 := v } else if n = 2 then { x with m2 := v } else if n = 3 then { x with m3 := v } else if n = 4 then { x with m4 := v } else if n = 5 then { x with m5 := v } else { x with m6 := v }
def lastS (s : RS) : Int := s.bi + s.es.length
def memS (s : RS) : List Int := canon (confL s.cf s.es (lastS s))
def othS (s : RS) : List Int := (canon (memS s)).filter fun x => decide (x ≠ s.x.id)
def favS (s : RS) : Bool := mostC (memS s) s.ys
def termS (s : RS) (i : Int) : Int := termL s.bi s.bt s.es i
abbrev toM (s : RS) (n : Int) (m : RM) : RM := { m with g := s.x.gr, f := s.x.id, t := n }
abbrev addM (s : RS) (l : List RM) : RS := { s with ms := s.ms ++ l }
abbrev addR (s : RS) (r : RR) : RS := { s with rs := s.rs ++ [{ r with g := s.x.gr }] }
abbrev withX (s : RS) (x : RV) : RS := { s with x := x }
abbrev runS (s : RS) (ro : Int) : RS := { s with x := { s.x with ro := ro, le := -1 }, ys := [s.x.id] }
def canvM (s : RS) (kd te : Int) : RM := ⟨kd, 0, 0, 0, te, lastS s, termS s (lastS s), 0, false, [], 0, 0, [], [], [], 0, 0, 0, 0⟩
def canvS (s : RS) (kd te : Int) : RS := addM s ((othS s).map fun n => toM s n (canvM s kd te))
def wordM (s : RS) (n : Int) : RM := ⟨5, 0, 0, 0, s.x.te, nx s.x n - 1, termS s (nx s.x n - 1), s.x.co, false, fromL s.bi s.es (nx s.x n) 4, 0, 0, [], [], [], 0, 0, 0, 0⟩
def wordS (s : RS) (n : Int) : RS := addM s [toM s n (wordM s n)]
def tellS (s : RS) : RS := addM s ((othS s).map fun n => toM s n (wordM s n))
def matchL (s : RS) : List Int := (memS s).map fun n => if n = s.x.id then lastS s else mx s.x n
def termsL (s : RS) : List Int := (List.range (lastS s - s.x.co).toNat).map fun (i : Nat) => termS s (s.x.co + 1 + (i : Int))
def commS (s : RS) : Int := commitC s.x.te s.x.co (matchL s) (termsL s)
def countS (s : RS) : RS := withX s { s.x with co := commS s }
def entR (e : En) : RR := ⟨0, 2, 0, 0, e.1, e.2.1, e.2.2.1, e.2.2.2, 0, 0, [], []⟩
def newE (s : RS) (kd : Int) (d : List Int) : En := (lastS s + 1, s.x.te, kd, d)
def addE (s : RS) (kd : Int) (d : List Int) : RS := addR { s with es := s.es ++ [newE s kd d] } (entR (newE s kd d))
def addS (s : RS) (kd : Int) (d : List Int) : RS := countS (addE s kd d)
abbrev begX (x : RV) (last : Int) : RV := { x with be := 0, n0 := last + 1, n1 := last + 1, n2 := last + 1, n3 := last + 1, n4 := last + 1, n5 := last + 1, n6 := last + 1, m0 := 0, m1 := 0, m2 := 0, m3 := 0, m4 := 0, m5 := 0, m6 := 0 }
def winS (s : RS) : RS := tellS (addS (withX s (begX { s.x with ro := 3, le := s.x.id } (lastS s))) 0 [])
def hardS (s : RS) : RS := addR s (hardR s.x)
def standS (s : RS) : RS :=
 let s1 := runS (hardS (withX s { s.x with te := s.x.te + 1, vo := s.x.id })) 2
 if favS s1 then winS s1 else canvS s1 3 s1.x.te
def askS (s : RS) : RS := let s1 := runS s 1; if favS s1 then standS s1 else canvS s1 1 (s1.x.te + 1)
def tickS (s : RS) : RS :=
 if s.x.ro = 3 then
   let s1 := withX s { s.x with be := s.x.be + 1 }
   if s1.x.be.tmod 2 = 0 then tellS s1 else s1
 else
   let s1 := withX s { s.x with si := s.x.si + 1 }
   if (memS s1).contains s.x.id = true ∧ tmo s.x.id s.x.te ≤ s1.x.si then askS (withX s1 { s1.x with si := 0 }) else s1
end
section
set_option maxRecDepth 100000
set_option maxHeartbeats 4000000
structure RIs (w : World) (R : Nat) (s : RS) (p : RP) : Prop where
 r : Blk w R 86 (raC s.x p.L (.slice p.py s.ys.length p.cy) (.slice p.pm (s.ms.map rmD).length p.cm) (.slice p.pq (s.rs.map rrD).length p.cq) s.re)
 b : Blk w p.L 123 [.int .i64 s.bi, .int .i64 s.bt, .slice p.pc s.cf.length p.cc, .slice p.pd s.bd.length p.cd, .slice p.pl (s.es.map entD).length p.cl]
 l : Rd (fun _ => True) w (.slice p.pl (s.es.map entD).length p.cl) (.l 4 (s.es.map entD))
 c : Rd (fun _ => True) w (.slice p.pc s.cf.length p.cc) (.ns .i64 s.cf)
 d : Rd (fun _ => True) w (.slice p.pd s.bd.length p.cd) (.ns .u8 s.bd)
 y : Rd (fun _ => True) w (.slice p.py s.ys.length p.cy) (.ns .i64 s.ys)
theorem rfM_is {X : Cx} {w0 w : World} {R : Nat} (s : RS) (p : RP) (m : MemOk X w0 (rfM R s p) w) : RIs w R s p :=
 ⟨(m.ok 1 _ rfl : Res.ok _ _ _ _ (.box _ _ _)).1, (m.ok 2 _ rfl : Res.ok _ _ _ _ (.box _ _ _)).1,
  (m.ok 3 _ rfl : Res.ok _ _ _ _ (.seg _ _ _ _)).1.rd (S' := fun _ => True) (fun _ _ _ => trivial) (fun _ _ => trivial),
  (m.rd (i := 4) rfl).any, (m.rd (i := 5) rfl).any, (m.rd (i := 6) rfl).any⟩
theorem rRole (X : Cx) (R : Nat) (s : RS) (p : RP) (w0 : World) (m0 : MemOk X w0 (rfM R s p) w0) :
   Calls Tryz.prog 29 #[.pointer (some ⟨R, 0, none⟩)] w0 fun e w' => e = .returned (.int .i64 s.x.ro) ∧ MemOk X w0 (rfM R s p) w' := by
 refine (rrole_x _ R p.L s.x _ _ _ _ _ _ _ _ _ s.re _ (m0.into [(1, 1)] (by decide) rfl)).mono ?_
 rintro e w' ⟨rfl, hm⟩
 have mb := m0.back hm [(1, 1)] (by decide)
 exact ⟨rfl, mb.only [1, 2, 3, 4, 5, 6, 7, 8]⟩
theorem rTerm (X : Cx) (R : Nat) (s : RS) (p : RP) (w0 : World) (m0 : MemOk X w0 (rfM R s p) w0) :
   Calls Tryz.prog 30 #[.pointer (some ⟨R, 0, none⟩)] w0 fun e w' => e = .returned (.int .i64 s.x.te) ∧ MemOk X w0 (rfM R s p) w' := by
 refine (rterm_x _ R p.L s.x _ _ _ _ _ _ _ _ _ s.re _ (m0.into [(1, 1)] (by decide) rfl)).mono ?_
 rintro e w' ⟨rfl, hm⟩
 have mb := m0.back hm [(1, 1)] (by decide)
 exact ⟨rfl, mb.only [1, 2, 3, 4, 5, 6, 7, 8]⟩
theorem rLead (X : Cx) (R : Nat) (s : RS) (p : RP) (w0 : World) (m0 : MemOk X w0 (rfM R s p) w0) :
   Calls Tryz.prog 33 #[.pointer (some ⟨R, 0, none⟩)] w0 fun e w' => e = .returned (.int .i64 s.x.le) ∧ MemOk X w0 (rfM R s p) w' := by
 refine (rlead_x _ R p.L s.x _ _ _ _ _ _ _ _ _ s.re _ (m0.into [(1, 1)] (by decide) rfl)).mono ?_
 rintro e w' ⟨rfl, hm⟩
 have mb := m0.back hm [(1, 1)] (by decide)
 exact ⟨rfl, mb.only [1, 2, 3, 4, 5, 6, 7, 8]⟩
theorem rCommit (X : Cx) (R : Nat) (s : RS) (p : RP) (w0 : World) (m0 : MemOk X w0 (rfM R s p) w0) :
   Calls Tryz.prog 26 #[.pointer (some ⟨R, 0, none⟩)] w0 fun e w' => e = .returned (.int .i64 s.x.co) ∧ MemOk X w0 (rfM R s p) w' := by
 refine (rcommit_x _ R p.L s.x _ _ _ _ _ _ _ _ _ s.re _ (m0.into [(1, 1)] (by decide) rfl)).mono ?_
 rintro e w' ⟨rfl, hm⟩
 have mb := m0.back hm [(1, 1)] (by decide)
 exact ⟨rfl, mb.only [1, 2, 3, 4, 5, 6, 7, 8]⟩
theorem rsaveHard_s (X : Cx) (R : Nat) (s : RS) (p : RP) (w0 : World) (hQ : s.rs.length ≤ 1000000) (m0 : MemOk X w0 (rfM R s p) w0) :
   Calls Tryz.prog 135 #[.pointer (some ⟨R, 0, none⟩)] w0 fun e w' => ∃ p', e = .returned (.tuple #[]) ∧ MemOk X w0 (rfM R (hardS s) p') w' := by
 refine (rsaveHard_x _ R p.L s.x _ _ s.re s.rs _ _ _ hQ (m0.into [(1, 1), (8, 8)] (by decide) rfl)).mono ?_
 rintro e w' ⟨q, c, rfl, hm⟩
 have mb := m0.back hm [(1, 1), (8, 8)] (by decide)
 exact ⟨{ p with pq := q, cq := c }, rfl, mb.only [1, 2, 3, 4, 5, 6, 7, 8]⟩
theorem rdown_s (X : Cx) (R : Nat) (s : RS) (p : RP) (tm : Int) (w0 : World) (hQ : s.rs.length ≤ 1000000) (m0 : MemOk X w0 (rfM R s p) w0) :
   Calls Tryz.prog 140 #[.pointer (some ⟨R, 0, none⟩), .int .i64 tm] w0 fun e w' => ∃ p', e = .returned (.tuple #[]) ∧ MemOk X w0 (rfM R (hardS (withX s { s.x with ro := 0, le := -1, te := tm, vo := -1 })) p') w' := by
 refine (rdown_x _ R p.L s.x _ _ s.re s.rs tm _ _ _ hQ (m0.into [(1, 1), (8, 8)] (by decide) rfl)).mono ?_
 rintro e w' ⟨q, c, rfl, hm⟩
 have mb := m0.back hm [(1, 1), (8, 8)] (by decide)
 exact ⟨{ p with pq := q, cq := c }, rfl, mb.only [1, 2, 3, 4, 5, 6, 7, 8]⟩
theorem rrun_s (X : Cx) (R : Nat) (s : RS) (p : RP) (ro : Int) (w0 : World) (m0 : MemOk X w0 (rfM R s p) w0) :
   Calls Tryz.prog 89 #[.pointer (some ⟨R, 0, none⟩), .int .i64 ro] w0 fun e w' => ∃ p', e = .returned (.tuple #[]) ∧ MemOk X w0 (rfM R (runS s ro) p') w' := by
 refine (rrun_x _ R p.L s.x _ _ _ _ _ _ _ _ _ s.re _ ro (m0.into [(1, 1)] (by decide) rfl)).mono ?_
 rintro e w' ⟨q, c, rfl, hm⟩
 have mb := m0.back hm [(1, 1), (6, 6)] (by decide)
 have mc := mb.freezeN 6 rfl
 exact ⟨{ p with py := q, cy := c }, rfl, mc.only [1, 2, 3, 4, 5, 6, 7, 8]⟩
end
section
theorem RIs.now {w0 w : World} {S : Nat → Prop} {M : Mm} {R : Nat} {s : RS} {p : RP} (h : RIs w0 R s p) (m : MemOk (cx S w0) w0 M w) : RIs w R s p :=
 ⟨h.r.now m rfl, h.b.now m rfl, (h.l.now' m rfl).any, (h.c.now' m rfl).any, (h.d.now' m rfl).any, (h.y.now' m rfl).any⟩
theorem confTo_len (cf : List Int) : ∀ l : List En, cf.length ≤ 900 → (confTo cf l).length ≤ 900 := by
 intro l; induction l generalizing cf with
 | nil => exact fun h => h
 | cons e l ih =>
   intro h
   show (confTo (confStep cf e) l).length ≤ 900
   refine ih _ ?_
   unfold confStep; split
   · exact Nat.le_trans (chgL_len _ _) (by decide)
   · exact h
theorem confL_len (cf : List Int) (es : List En) (i : Int) (h : cf.length ≤ 900) : (confL cf es i).length ≤ 900 := confTo_len _ _ h
theorem memS_len (s : RS) : (memS s).length ≤ 900 := Nat.le_trans (canon_len _) (by decide)
theorem othS_len (s : RS) : (othS s).length ≤ 7 := Nat.le_trans (List.length_filter_le _ _) (canon_len _)
theorem RLB.ents {bi : Int} {cf bd : List Int} {es : List En} (hb : RLB bi cf bd es) : EntsOk es := fun e he => Nat.le_trans (hb.e e he).1 (by decide)
theorem RLB.bytes {bi : Int} {cf bd : List Int} {es : List En} (hb : RLB bi cf bd es) : EntsB es := fun e he => (hb.e e he).2
theorem rlast_s (R : Nat) (s : RS) (p : RP) (w0 : World) (h : RIs w0 R s p) (hb : RLS s) : Calls Tryz.prog 75 #[.pointer (some ⟨p.L, 0, none⟩)] w0 fun e w' => e = .returned (.int .i64 (lastS s)) ∧ Below w0.heap.size w0 w' := by
 have h1 := hb.b; have h2 := hb.n
 have := last_any p.L s.bi (s.es.map entD).length _ _ _ _ _ w0 h.b (by omega) (by rw [List.length_map]; omega)
 rw [List.length_map] at this; exact this
theorem rterm_s (R : Nat) (s : RS) (p : RP) (w0 : World) (h : RIs w0 R s p) (hb : RLS s) (i : Int) : Calls Tryz.prog 113 #[.pointer (some ⟨p.L, 0, none⟩), .int .i64 i] w0 fun e w' => e = .returned (.int .i64 (termS s i)) ∧ Below w0.heap.size w0 w' := by
 have h1 := hb.b; have h2 := hb.n
 exact term_any p.L s.bi s.bt s.cf s.bd s.es _ _ _ _ _ _ w0 i h.b h.l (by omega) (by omega)
theorem rconf_s (R : Nat) (s : RS) (p : RP) (w0 : World) (h : RIs w0 R s p) (hb : RLS s) (i : Int) : Calls Tryz.prog 74 #[.pointer (some ⟨p.L, 0, none⟩), .int .i64 i] w0 fun e w' => ∃ q c, e = .returned (.slice q (confL s.cf s.es i).length c) ∧ Rd (New w0) w' (.slice q (confL s.cf s.es i).length c) (.ns .i64 (confL s.cf s.es i)) ∧ Below w0.heap.size w0 w' := by
 have h1 := hb.b; have h2 := hb.n
 exact conf_any p.L s.bi s.bt s.cf s.bd s.es _ _ _ _ _ _ w0 i h.b h.l (by omega) h.c hb.c hb.bytes
theorem rfrom_s (R : Nat) (s : RS) (p : RP) (w0 : World) (h : RIs w0 R s p) (hb : RLS s) (i q : Int) : Calls Tryz.prog 71 #[.pointer (some ⟨p.L, 0, none⟩), .int .i64 i, .int .i64 q] w0 fun e w' => ∃ u c, e = .returned (.slice u ((fromL s.bi s.es i q).map entD).length c) ∧ Rd (New w0) w' (.slice u ((fromL s.bi s.es i q).map entD).length c) (.l 4 ((fromL s.bi s.es i q).map entD)) ∧ Below w0.heap.size w0 w' := by
 have h1 := hb.b; have h2 := hb.n
 exact from_is p.L s.bi s.bt s.cf s.bd s.es _ _ _ _ _ _ w0 i q h.b h.l (by omega) (by omega) hb.ents rfl
theorem rbase_s (R : Nat) (s : RS) (p : RP) (w0 : World) (h : RIs w0 R s p) (hb : RLS s) : Calls Tryz.prog 39 #[.pointer (some ⟨p.L, 0, none⟩)] w0 fun e w' => ∃ p1 c1 p2 c2, e = .returned (.agg #[.int .i64 s.bi, .int .i64 s.bt, .slice p1 s.cf.length c1, .slice p2 s.bd.length c2]) ∧ Rd (New w0) w' (.slice p1 s.cf.length c1) (.ns .i64 s.cf) ∧ Rd (New w0) w' (.slice p2 s.bd.length c2) (.ns .u8 s.bd) ∧ Below w0.heap.size w0 w' := by
 have h1 := hb.b; have h2 := hb.n; have h3 := hb.c; have h4 := hb.d
 exact lbase_any p.L s.bi s.bt s.cf s.bd s.es _ _ _ _ _ _ w0 h.b h.l (by omega) (by omega) h.c h.d (by omega) (by omega)
set_option maxRecDepth 100000
set_option maxHeartbeats 4000000
theorem rmembers_s (R : Nat) (s : RS) (p : RP) (w0 : World) (h : RIs w0 R s p) (hb : RLS s) :
   Calls Tryz.prog 49 #[.pointer (some ⟨R, 0, none⟩)] w0 fun e w' => ∃ q c, e = .returned (.slice q (memS s).length c) ∧ Rd (New w0) w' (.slice q (memS s).length c) (.ns .i64 (memS s)) ∧ Below w0.heap.size w0 w' := by
 refine enter (fn := Tryz.f49) Tryz.func49 rfl Tryz.ntmps49 rfl (fun Az Hz => ?_)
 simp only [List.zipIdx_cons, List.zipIdx_nil, List.map_cons, List.map_nil, Nat.reduceAdd, Nat.zero_add] at Hz
 have m0 := MemOk.start (fun _ => False) w0
 have hR := h.r
 have hY := h.y
 have hB := h.b
 refine regS Hz (.assign rfl <| .nil) ?_
 clear Hz Az; intro Az Hz
 refine wp_seq_k (fun K0 hK0 => ?_)
 have m2 : MemOk _ _ [] _ := m0.only []; clear m0
 refine region_p 14 (B := []) (m2.to trivial) m2 (by kernel_rfl) (fun w3 hP3 m3 => ?_); clear m2
 refine goR hP3 [0, 1, 2, 3, 4, 5, 6, 7, 8, 9] [3, 7] 10 0 1023 Hz (m3.to trivial) (.move rfl <| .nilCheck rfl <| .fieldAddr (off := 4) rfl Tryz.underlying81 rfl (s := 0) (by kernel_rfl) rfl <| .loadX1 (fun _ h_ => (hR.now h_ rfl)) rfl rfl Tryz.underlying79 rfl <| .move rfl <| .nilCheck rfl <| .fieldAddr (off := 4) rfl Tryz.underlying81 rfl (s := 0) (by kernel_rfl) rfl <| .loadX1 (fun _ h_ => (hR.now h_ rfl)) rfl rfl Tryz.underlying79 rfl <| .nilCheck rfl <| .fieldAddr (off := 0) rfl Tryz.underlying123 rfl (s := 4) (by kernel_rfl) rfl <| .nil) ?_
 clear Hz Az; intro Az Hz
 refine stepE_only 10 rfl (by kernel_rfl) rfl (fun K hK => ?_)
 refine e_call Hz Tryz.func75 rfl rfl rfl rfl (rlast_s R s p _ (h.now m3) hb) ?_
 rintro e w14 ⟨rfl, hb14⟩
 have m15 := m3.later hb14
 clear m3
 clear hb14
 refine ⟨_, rfl, ?_⟩; clear Hz Az; intro Az Hz
 refine hK _ _ (m15.to trivial) ?_; clear hK K
 refine stepE_only 11 rfl (by kernel_rfl) rfl (fun K hK => ?_)
 refine e_call Hz Tryz.func74 rfl rfl rfl rfl (rconf_s R s p _ (h.now m15) hb _) ?_
 rintro e w17 ⟨p17, c17, rfl, hd17, hb17⟩
 have m18 := m15.callF 20 rfl hb17 hd17
 clear m15
 clear hb17 hd17
 refine ⟨_, rfl, ?_⟩; clear Hz Az; intro Az Hz
 refine hK _ _ (m18.to trivial) ?_; clear hK K
 refine stepE_only 12 rfl (by kernel_rfl) rfl (fun K hK => ?_)
 refine e_call Hz Tryz.func88 rfl rfl rfl rfl (ofc_any _ (confL s.cf s.es (lastS s)) _ (m18.nums (i := 20) rfl) (Nat.le_trans (confL_len _ _ _ hb.c) (by decide))) ?_
 rintro e w20 ⟨u20, rfl, ho20, hb20⟩
 obtain ⟨p20, c20, hu20⟩ := ownsRow_shape ho20
 subst hu20
 have m21 := m18.newN 21 hb20 ho20
 clear m18
 clear hb20 ho20
 refine ⟨_, rfl, ?_⟩; clear Hz Az; intro Az Hz
 refine hK _ _ (m21.to trivial) ?_; clear hK K
 refine goA hP3 [13] 1 8191 16383 Hz (m21.to trivial) (.assign rfl <| .nil) ?_
 clear Hz Az; intro Az Hz
 refine wpAnyE_done (by kernel_rfl) ?_ _
 refine hK0 _ _ ?_; clear hK0; try clear K0
 refine wp_ret ?_
 try dsimp only [Exit.then, Exit.inBlock]
 refine (ret1 (fn := Tryz.f49) Hz rfl rfl ?_)
 have m24 := m21.freezeN 21 rfl; clear m21
 exact ⟨_, _, rfl, m24.outF (i := 21) rfl, m24.below⟩
theorem rothers_s (R : Nat) (s : RS) (p : RP) (w0 : World) (h : RIs w0 R s p) (hb : RLS s) :
   Calls Tryz.prog 85 #[.pointer (some ⟨R, 0, none⟩)] w0 fun e w' => ∃ q c, e = .returned (.slice q (othS s).length c) ∧ Rd (New w0) w' (.slice q (othS s).length c) (.ns .i64 (othS s)) ∧ Below w0.heap.size w0 w' := by
 refine enter (fn := Tryz.f85) Tryz.func85 rfl Tryz.ntmps85 rfl (fun Az Hz => ?_)
 simp only [List.zipIdx_cons, List.zipIdx_nil, List.map_cons, List.map_nil, Nat.reduceAdd, Nat.zero_add] at Hz
 have m0 := MemOk.start (fun _ => False) w0
 have hR := h.r
 have hY := h.y
 have hB := h.b
 refine regS Hz (.assign rfl <| .nil) ?_
 clear Hz Az; intro Az Hz
 refine wp_seq_k (fun K0 hK0 => ?_)
 have m2 : MemOk _ _ [] _ := m0.only []; clear m0
 refine region_p 8 (B := []) (m2.to trivial) m2 (by kernel_rfl) (fun w3 hP3 m3 => ?_); clear m2
 refine goR hP3 [0, 2, 3, 4, 5] [5] 5 0 61 Hz (m3.to trivial) (.move rfl <| .move rfl <| .nilCheck rfl <| .fieldAddr (off := 0) rfl Tryz.underlying81 rfl (s := 0) (by kernel_rfl) rfl <| .loadX1 (fun _ h_ => (hR.now h_ rfl)) rfl rfl Tryz.underlying3 rfl <| .nil) ?_
 clear Hz Az; intro Az Hz
 refine stepE_only 1 rfl (by kernel_rfl) rfl (fun K hK => ?_)
 refine e_call Hz Tryz.func49 rfl rfl rfl rfl (rmembers_s R s p _ (h.now m3) hb) ?_
 rintro e w9 ⟨p9, c9, rfl, hd9, hb9⟩
 have m10 := m3.callF 20 rfl hb9 hd9
 clear m3
 clear hb9 hd9
 refine ⟨_, rfl, ?_⟩; clear Hz Az; intro Az Hz
 refine hK _ _ (m10.to trivial) ?_; clear hK K
 refine stepE_only 6 rfl (by kernel_rfl) rfl (fun K hK => ?_)
 refine e_call Hz Tryz.func128 rfl rfl rfl rfl (woutc_any _ (memS s) s.x.id _ (m10.nums (i := 20) rfl) (memS_len s)) ?_
 rintro e w12 ⟨u12, rfl, ho12, hb12⟩
 obtain ⟨p12, c12, hu12⟩ := ownsRow_shape ho12
 subst hu12
 have m13 := m10.newN 21 hb12 ho12
 clear m10
 clear hb12 ho12
 refine ⟨_, rfl, ?_⟩; clear Hz Az; intro Az Hz
 refine hK _ _ (m13.to trivial) ?_; clear hK K
 refine goA hP3 [7] 1 127 255 Hz (m13.to trivial) (.assign rfl <| .nil) ?_
 clear Hz Az; intro Az Hz
 refine wpAnyE_done (by kernel_rfl) ?_ _
 refine hK0 _ _ ?_; clear hK0; try clear K0
 refine wp_ret ?_
 try dsimp only [Exit.then, Exit.inBlock]
 refine (ret1 (fn := Tryz.f85) Hz rfl rfl ?_)
 have m16 := m13.freezeN 21 rfl; clear m13
 exact ⟨_, _, rfl, m16.outF (i := 21) rfl, m16.below⟩
theorem rfav_s (R : Nat) (s : RS) (p : RP) (w0 : World) (h : RIs w0 R s p) (hb : RLS s) (hys : s.ys.length ≤ 900) :
   Calls Tryz.prog 90 #[.pointer (some ⟨R, 0, none⟩)] w0 fun e w' => e = .returned (.bool (favS s)) ∧ Below w0.heap.size w0 w' := by
 refine enter (fn := Tryz.f90) Tryz.func90 rfl Tryz.ntmps90 rfl (fun Az Hz => ?_)
 simp only [List.zipIdx_cons, List.zipIdx_nil, List.map_cons, List.map_nil, Nat.reduceAdd, Nat.zero_add] at Hz
 have m0 := MemOk.start (fun _ => False) w0
 have hR := h.r
 have hY := h.y
 have hB := h.b
 refine regS Hz (.assign rfl <| .nil) ?_
 clear Hz Az; intro Az Hz
 refine wp_seq_k (fun K0 hK0 => ?_)
 have m2 : MemOk _ _ [] _ := m0.only []; clear m0
 refine region_p 10 (B := []) (m2.to trivial) m2 (by kernel_rfl) (fun w3 hP3 m3 => ?_); clear m2
 refine goR hP3 [0, 1, 2, 4, 5, 6, 7] [7] 7 0 247 Hz (m3.to trivial) (.move rfl <| .nilCheck rfl <| .fieldAddr (off := 0) rfl Tryz.underlying86 rfl (s := 4) (by kernel_rfl) rfl <| .move rfl <| .nilCheck rfl <| .fieldAddr (off := 25) rfl Tryz.underlying86 rfl (s := 0) (by kernel_rfl) rfl <| .loadX1 (fun _ h_ => (hR.now h_ rfl)) rfl rfl Tryz.underlying26 rfl <| .nil) ?_
 clear Hz Az; intro Az Hz
 refine stepE_only 3 rfl (by kernel_rfl) rfl (fun K hK => ?_)
 refine e_call Hz Tryz.func49 rfl rfl rfl rfl (rmembers_s R s p _ (h.now m3) hb) ?_
 rintro e w11 ⟨p11, c11, rfl, hd11, hb11⟩
 have m12 := m3.callF 20 rfl hb11 hd11
 clear m3
 clear hb11 hd11
 refine ⟨_, rfl, ?_⟩; clear Hz Az; intro Az Hz
 refine hK _ _ (m12.to trivial) ?_; clear hK K
 refine stepE_only 8 rfl (by kernel_rfl) rfl (fun K hK => ?_)
 refine e_call Hz Tryz.func134 rfl rfl rfl rfl (cmostc_any _ _ (memS s) s.ys _ (m12.nums (i := 20) rfl) (hY.now' m12 rfl).ns_out.nums (memS_len s) hys) ?_
 rintro e w14 ⟨rfl, hb14⟩
 have m15 := m12.later hb14
 clear m12
 clear hb14
 refine ⟨_, rfl, ?_⟩; clear Hz Az; intro Az Hz
 refine hK _ _ (m15.to trivial) ?_; clear hK K
 refine goA hP3 [9] 1 511 1023 Hz (m15.to trivial) (.assign rfl <| .nil) ?_
 clear Hz Az; intro Az Hz
 refine wpAnyE_done (by kernel_rfl) ?_ _
 refine hK0 _ _ ?_; clear hK0; try clear K0
 refine wp_ret ?_
 try dsimp only [Exit.then, Exit.inBlock]
 refine (ret1 (fn := Tryz.f90) Hz rfl rfl ?_)
 exact ⟨rfl, m15.below⟩
end
end Go.Proofs.YtndnnlbdnjndiaaGreat.K
