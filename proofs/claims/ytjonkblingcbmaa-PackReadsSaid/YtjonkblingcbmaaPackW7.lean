/- The walk of PackReads: it returns true, and writes nothing that was there. -/
import Derived.Test.YtjonkblingcbmaaPackR2
import Derived.Test.YtjonkblingcbmaaTwo
import Derived.Test.YtjonkblingcbmaaRegionK
namespace Go.Proofs.Ytjonkblingcbmaa.K
open Go.ChangeShapes Go.WideShapes Go.ChangeAt Go.RowKit
set_option linter.unusedVariables false

def lumpsB (ls : List (List Int)) : List (List Int) := ls.map fun l => enc l.length ++ l
theorem lumpsB_len (ls : List (List Int)) : (lumpsB ls).length = ls.length := by simp [lumpsB]
theorem lumpsB_at (ls : List (List Int)) (j : Nat) (h : j < ls.length) : (lumpsB ls).getD j [] = enc (ls.getD j []).length ++ ls.getD j [] := by simp [lumpsB, List.getD, h]
theorem rflump_is (v : Value) (bs : List Int) (w : World) (h : IsNums .u8 w v bs) (hl : bs.length ≤ 100000) (S : List Int) (n : Nat) (hS : enc bs.length ++ bs = S) (hn : S.length = n) :
    Calls Try.prog 10 #[v] w fun e w' => ∃ p c, e = .returned (.slice p n c) ∧ IsNums .u8 w' (.slice p n c) S ∧ Below w.heap.size w w' := by
  subst hS; subst hn
  refine (rflump_any v bs w h hl).mono fun e w' h => ?_
  obtain ⟨u, rfl, hown, hbel⟩ := h
  have hN := IsNums.ofOwn hown
  obtain ⟨p, c, rfl, -⟩ := id hN
  exact ⟨p, c, rfl, hN, hbel⟩
theorem rput_is (v : Value) (ns : List Int) (w : World) (hv : IsNums .u64 w v ns) (hb : ∀ j, j < ns.length → 0 ≤ ns.getD j 0 ∧ ns.getD j 0 ≤ 18446744073709551615) (hl : ns.length ≤ 1000) (S : List Int) (n : Nat) (hS : encs ns = S) (hn : S.length = n) :
    Calls Try.prog 13 #[v] w fun e w' => ∃ p c, e = .returned (.slice p n c) ∧ IsNums .u8 w' (.slice p n c) S ∧ Below w.heap.size w w' := by
  subst hS; subst hn
  refine (rput_any v ns w hv hb hl).mono fun e w' h => ?_
  obtain ⟨u, rfl, hown, hbel⟩ := h
  have hN := IsNums.ofOwn hown
  obtain ⟨p, c, rfl, -⟩ := id hN
  exact ⟨p, c, rfl, hN, hbel⟩
theorem own_below {w w' : World} {base B : Nat} {e : TypeId} {size : Nat} {v : Value} {n : Nat} {xs : List Value} (h : w.ownsRow base e size v n xs) (hb : Below B w w') (hB : w.heap.size ≤ B) : w'.ownsRow base e size v n xs := by
  refine ⟨h.1, ?_⟩
  rcases h.2 with h0 | ⟨g, cap, cur, hv, hg, hc, h1, h2, h3, h4⟩
  · exact .inl h0
  · refine .inr ⟨g, cap, cur, hv, hg, ?_, h1, h2, h3, h4⟩
    rw [hb.block g (by have := (Array.getElem?_eq_some_iff.1 hc).1; omega)]
    exact hc

theorem one_ok (X : Int) (h : 0 ≤ X ∧ X ≤ 18446744073709551615) : ∀ j, j < [X].length → 0 ≤ [X].getD j 0 ∧ [X].getD j 0 ≤ 18446744073709551615 := by
  intro j hj
  obtain rfl : j = 0 := by simpa using hj
  exact h
def edgesB (zs : List Int) (k : Int) : List (List Int) := (List.range zs.length).map fun (j : Nat) => enc (edgeF (zs.getD j 0) ((k + j) % 256))
theorem edgesB_len (zs : List Int) (k : Int) : (edgesB zs k).length = zs.length := by simp [edgesB]
theorem edgesB_at (zs : List Int) (k : Int) (j : Nat) (h : j < zs.length) : (edgesB zs k).getD j [] = enc (edgeF (zs.getD j 0) ((k + j) % 256)) := by simp [edgesB, List.getD, h]

theorem lumpsB_bytes (ls : List (List Int)) (h : ∀ j, j < ls.length → (∀ y ∈ ls.getD j [], 0 ≤ y ∧ y ≤ 255) ∧ (ls.getD j []).length ≤ 100000) : ∀ y ∈ (lumpsB ls).flatten, 0 ≤ y ∧ y ≤ 255 := by
  intro y hy
  obtain ⟨l, hl, hyl⟩ := List.mem_flatten.1 hy
  obtain ⟨l', hl', rfl⟩ := List.mem_map.1 hl
  obtain ⟨j, hj, rfl⟩ := List.getElem_of_mem hl'
  have := h j hj
  simp only [List.getD, List.getElem?_eq_getElem hj, Option.getD_some] at this
  rcases List.mem_append.1 hyl with h1 | h1
  · exact enc_bytes _ (by omega) y h1
  · exact this.1 y h1
theorem edgesB_bytes (zs : List Int) (k : Int) (h : ∀ j, j < zs.length → 0 ≤ zs.getD j 0 ∧ zs.getD j 0 ≤ 18446744073709551615) : ∀ y ∈ (edgesB zs k).flatten, 0 ≤ y ∧ y ≤ 255 := by
  intro y hy
  obtain ⟨l, hl, hyl⟩ := List.mem_flatten.1 hy
  obtain ⟨j, hj, rfl⟩ := List.mem_map.1 hl
  have hjl : j < zs.length := by simpa using hj
  have := h j hjl
  exact enc_bytes _ (edge_bd _ _ this.1 this.2).2 y hyl
theorem nums_out {w : World} {B : Nat} {v : Value} {n : Nat} {cs : List Int} {zs : List Int} (h : w.ownsRow B 5 1 v n (cs.map (Value.int .u8) ++ zs.map (Value.int .u8))) : ∃ p c, v = .slice p n c ∧ NumsLt w.heap.size .u8 w v (cs ++ zs) := by
  rw [← List.map_append] at h
  have hN := NumsLt.ofOwn h
  obtain ⟨p, c, rfl, -⟩ := id hN
  have hn : n = (cs ++ zs).length := by have := h.1; simpa using this.symm
  subst hn
  exact ⟨p, c, rfl, hN⟩
theorem nums_out2 {w : World} {B : Nat} {v : Value} {n : Nat} {cs : List Int} {zs : List Int} (h : w.ownsRow B 5 1 v n ([] ++ cs.map (Value.int .u8) ++ zs.map (Value.int .u8))) : ∃ p c, v = .slice p n c ∧ NumsLt w.heap.size .u8 w v (cs ++ zs) := nums_out (by simpa using h)
def tenB (k : Int) : List Int := [128, 128, 128, 128, 128, 128, 128, 128, 128, k]
theorem lit10 (w : World) (k : Int) : (w.alloc (.cells #[.int .u8 128, .int .u8 128, .int .u8 128, .int .u8 128, .int .u8 128, .int .u8 128, .int .u8 128, .int .u8 128, .int .u8 128, .int .u8 k] 5)).ownsRow w.heap.size 5 1 (.slice (some ⟨w.heap.size, 0, none⟩) 10 10) 10 ((tenB k).map (Value.int .u8)) :=
  World.ownsRow_lit w #[.int .u8 128, .int .u8 128, .int .u8 128, .int .u8 128, .int .u8 128, .int .u8 128, .int .u8 128, .int .u8 128, .int .u8 128, .int .u8 k] 10 (Nat.le_refl _) (by unfold maxLen; omega) rfl

theorem tenB_bytes (k : Int) (h0 : 0 ≤ k) (h1 : k ≤ 255) : ∀ y ∈ tenB k, 0 ≤ y ∧ y ≤ 255 := by
  intro y hy
  simp only [tenB, List.mem_cons, List.not_mem_nil, or_false] at hy
  omega
theorem NumsLt.mono {N N' : Nat} {k : IntKind} {w : World} {v : Value} {zs : List Int} (h : NumsLt N k w v zs) (hN : N ≤ N') : NumsLt N' k w v zs := by
  obtain ⟨a, c, rfl, h1, h2, h | ⟨b, off, rfl, h3, h4⟩⟩ := h
  · exact ⟨a, c, rfl, h1, h2, .inl h⟩
  · exact ⟨_, c, rfl, h1, h2, .inr ⟨b, off, rfl, by omega, h4⟩⟩
theorem NumsLt.ofNums {k : IntKind} {w : World} {p : Option Addr} {m c : Nat} {zs : List Int} (h : IsNums k w (.slice p m c) zs) (h1 : m ≤ c) (h2 : c ≤ 9223372036854775807) : NumsLt w.heap.size k w (.slice p m c) zs := by
  obtain ⟨a, c', hv, h⟩ := h
  simp only [Value.slice.injEq] at hv
  obtain ⟨rfl, rfl, rfl⟩ := hv
  rcases h with h | ⟨b, off, rfl, h3, h4⟩
  · exact ⟨p, c, rfl, h1, h2, .inl h⟩
  · exact ⟨_, c, rfl, h1, h2, .inr ⟨b, off, rfl, h3, h4⟩⟩
/-- Bytes that a reader may be made of. -/
def GoodB (w : World) (u : Value) (xs : List Int) : Prop := ∃ p m c, u = .slice p m c ∧ xs.length = m ∧ m ≤ 1000 ∧ NumsLt w.heap.size .u8 w u xs ∧ ∀ y ∈ xs, 0 ≤ y ∧ y ≤ 255
theorem GoodB.below {w w' : World} {u : Value} {xs : List Int} (h : GoodB w u xs) (hb : Below w.heap.size w w') : GoodB w' u xs := by
  obtain ⟨p, m, c, h1, h2, h3, h4, h5⟩ := h
  exact ⟨p, m, c, h1, h2, h3, (h4.below hb).mono hb.size, h5⟩
theorem list4B (W : World) (u0 u1 u2 u3 : Value) (y0 y1 y2 y3 : List Int) (T : TypeId) (h0 : GoodB W u0 y0) (h1 : GoodB W u1 y1) (h2 : GoodB W u2 y2) (h3 : GoodB W u3 y3) :
    ∀ j, j < 4 → ∃ u ys, (W.alloc (.cells #[u0, u1, u2, u3] T)).cell? ⟨W.heap.size, j, none⟩ = some u ∧ GoodB (W.alloc (.cells #[u0, u1, u2, u3] T)) u ys := by
  have hb := (Below.refl W.heap.size W).alloc (Nat.le_refl _) (.cells #[u0, u1, u2, u3] T)
  intro j hj
  obtain rfl | rfl | rfl | rfl : j = 0 ∨ j = 1 ∨ j = 2 ∨ j = 3 := by omega
  · exact ⟨u0, y0, by unfold World.cell? World.alloc; simp, h0.below hb⟩
  · exact ⟨u1, y1, by unfold World.cell? World.alloc; simp, h1.below hb⟩
  · exact ⟨u2, y2, by unfold World.cell? World.alloc; simp, h2.below hb⟩
  · exact ⟨u3, y3, by unfold World.cell? World.alloc; simp, h3.below hb⟩
theorem reader_box (w : World) (p : Option Addr) (m c : Nat) (xs : List Int) (T : TypeId) (h : NumsLt w.heap.size .u8 w (.slice p m c) xs) (hl : xs.length = m) (hb : ∀ y ∈ xs, 0 ≤ y ∧ y ≤ 255) :
    IsReader (w.alloc (.cells #[.slice p m c, .int .i64 0] T)) w.heap.size (.slice p m c) xs 0 := by
  refine ⟨by unfold World.cell? World.alloc; simp, by unfold World.cell? World.alloc; simp, by unfold World.frozen? World.alloc; simp, by unfold World.frozen? World.alloc; simp, h.below ((Below.refl _ w).alloc (Nat.le_refl _) _), hb⟩

theorem own_lt {N : Nat} {k : IntKind} {w : World} {v : Value} {zs : List Int} (h : NumsLt N k w v zs) : zs.length ≠ 0 → ∀ g, v.ownBlock = some g → g < N := by
  obtain ⟨a, c, rfl, h1, h2, h | ⟨b, off, rfl, h3, h4⟩⟩ := h
  · intro hn; omega
  · intro _ g hg
    simp [Value.ownBlock] at hg
    omega
theorem act1 (w : World) (q : Bool) (m : Int) (T : TypeId) : ∃ W, w.alloc (.cells #[.bool q, .int .u64 m] T) = W ∧ Below w.heap.size w W ∧ W.cell? ⟨w.heap.size, 1, none⟩ = some (.int .u64 m) ∧ w.heap.size < W.heap.size :=
  ⟨_, rfl, (Below.refl _ w).alloc (Nat.le_refl _) _, by unfold World.cell? World.alloc; simp, by simp⟩
theorem act2 (w : World) (q : Bool) (v : Int) (T T2 : TypeId) (cs : Array Value) : ∃ W, (w.alloc (.cells #[.bool q, .int .u64 v] T)).alloc (.cells cs T2) = W ∧ Below w.heap.size w W ∧ W.cell? ⟨w.heap.size, 1, none⟩ = some (.int .u64 v) ∧ w.heap.size < W.heap.size := by
  refine ⟨_, rfl, ((Below.refl _ w).alloc (Nat.le_refl _) _).alloc (by simp) _, ?_, by simp; omega⟩
  rw [World.cell?_alloc_lt _ _ _ (by simp)]; unfold World.cell? World.alloc; simp
theorem and4095 (m : Int) (h0 : 0 ≤ m) (h1 : m ≤ 18446744073709551615) : 0 ≤ bits .and .u64 m 4095 ∧ bits .and .u64 m 4095 ≤ 4095 := by
  obtain ⟨n, rfl⟩ := Int.eq_ofNat_of_zero_le h0
  rw [show (4095 : Int) = ((4095 : Nat) : Int) by rfl, u64_and_nat n 4095 (by omega) (by decide), show (4095 : Nat) = 2 ^ 12 - 1 by rfl, Nat.and_two_pow_sub_one_eq_mod]
  omega
theorem lit3 (w : World) (Q : Nat) (hQ : Q < 3) : ∃ m : Int, (∀ (q : Bool) (mm : Int) (T T2 : TypeId), ((w.alloc (.cells #[.bool q, .int .u64 mm] T)).alloc (.cells #[.int .u64 31, .int .u64 18446744073709551615, .int .u64 127] T2)).cell? ⟨w.heap.size + 1, Q, none⟩ = some (.int .u64 m)) ∧ 0 ≤ m ∧ m ≤ 18446744073709551615 := by
  have key : ∀ (q : Bool) (mm : Int) (T T2 : TypeId), ((w.alloc (.cells #[.bool q, .int .u64 mm] T)).alloc (.cells #[.int .u64 31, .int .u64 18446744073709551615, .int .u64 127] T2)).cell? ⟨w.heap.size + 1, Q, none⟩ = (#[.int .u64 31, .int .u64 18446744073709551615, .int .u64 127] : Array Value)[Q]? := by
    intro q mm T T2
    have hs : w.heap.size + 1 = (w.alloc (.cells #[.bool q, .int .u64 mm] T)).heap.size := by simp
    rw [hs]
    generalize w.alloc (.cells #[.bool q, .int .u64 mm] T) = w2
    unfold World.cell? World.alloc
    simp
  obtain rfl | rfl | rfl : Q = 0 ∨ Q = 1 ∨ Q = 2 := by omega
  · exact ⟨31, fun q mm T T2 => (key q mm T T2).trans rfl, by omega, by omega⟩
  · exact ⟨18446744073709551615, fun q mm T T2 => (key q mm T T2).trans rfl, by omega, by omega⟩
  · exact ⟨127, fun q mm T T2 => (key q mm T T2).trans rfl, by omega, by omega⟩
theorem own_keep {bad : Nat → Prop} {w W : World} {base : Nat} {e : TypeId} {size : Nat} {v : Value} {n : Nat} {xs : List Value} (h : w.ownsRow base e size v n xs) (hk : Keep bad w W) (hb : ∀ g, bad g → g < base) : W.ownsRow base e size v n xs := by
  refine ⟨h.1, ?_⟩
  rcases h.2 with h0 | ⟨g, cap, cur, hv, hg, hc, h1, h2, h3, h4⟩
  · exact .inl h0
  · refine .inr ⟨g, cap, cur, hv, hg, ?_, h1, h2, h3, h4⟩
    rw [hk.2.2.2.2 g (Array.getElem?_eq_some_iff.1 hc).1 (fun hbg => by have := hb g hbg; omega)]
    exact hc
theorem pnum_is (B : Nat) (v : Value) (bs : List Int) (e most : Int) (w : World) (h : IsReader w B v bs e) (m0 : 0 ≤ most) (X : Int) (R : List Int) (e1 : Int) (hq : numR bs e most = (X, R, e1)) :
    Calls Try.prog 18 #[.pointer (some ⟨B, 0, none⟩), .int .u64 most] w fun en w' => en = .returned (.int .u64 X) ∧ ∃ v', IsReader w' B v' R e1 ∧ Only B w w' := by
  have := num_any B v bs e most w h m0
  rw [hq] at this
  exact this
theorem rlump_own (B : Nat) (v : Value) (bs : List Int) (e most : Int) (w : World) (h : IsReader w B v bs e) (m0 : -9223372036854775808 ≤ most) (m1 : most ≤ 9223372036854775807) (hl : bs.length ≤ 100000) (S R : List Int) (e1 : Int) (hq : lumpR bs e most = (S, R, e1)) :
    Calls Try.prog 16 #[.pointer (some ⟨B, 0, none⟩), .int .i64 most] w fun en w' => ∃ p c, en = .returned (.slice p S.length c) ∧ w'.ownsRow w.heap.size 5 1 (.slice p S.length c) S.length (S.map (Value.int .u8)) ∧ ∃ v', IsReader w' B v' R e1 ∧ Only B w w' := by
  refine (rlump_any B v bs e most w h m0 m1 hl).mono fun en w' hp => ?_
  rw [hq] at hp
  obtain ⟨u, rfl, hown, v', hr, ho⟩ := hp
  obtain ⟨p, c, rfl, -⟩ := id (IsNums.ofOwn hown)
  exact ⟨p, c, rfl, hown, v', hr, ho⟩
theorem rrlump_is (B : Nat) (v : Value) (bs : List Int) (e most : Int) (w : World) (h : IsReader w B v bs e) (m0 : -9223372036854775808 ≤ most) (m1 : most ≤ 9223372036854775807) (hl : bs.length ≤ 100000) (S R : List Int) (e1 : Int) (hq : lumpR bs e most = (S, R, e1)) :
    Calls Try.prog 17 #[.pointer (some ⟨B, 0, none⟩), .int .i64 most] w fun en w' => ∃ p c, en = .returned (.slice p S.length c) ∧ NumsLt B .u8 w' (.slice p S.length c) S ∧ ∃ v', IsReader w' B v' R e1 ∧ Only B w w' ∧ SameB v v' := by
  have := rrlump_any B v bs e most w h m0 m1 hl
  unfold RLumpPost at this
  rw [hq] at this
  exact this
theorem rnum_is (B : Nat) (v : Value) (bs : List Int) (e most : Int) (w : World) (h : IsReader w B v bs e) (m0 : 0 ≤ most) (X : Int) (R : List Int) (e1 : Int) (hq : numR bs e most = (X, R, e1)) :
    Calls Try.prog 19 #[.pointer (some ⟨B, 0, none⟩), .int .u64 most] w fun en w' => en = .returned (.int .u64 X) ∧ ∃ v', IsReader w' B v' R e1 ∧ Only B w w' ∧ SameB v v' := by
  have := rnum_any B v bs e most w h m0
  rw [hq] at this
  exact this
theorem numR_len (bs : List Int) (e most : Int) : (numR bs e most).2.1.length ≤ bs.length := by
  unfold numR
  split
  · split
    · simp
    · split
      · simp
      · simp
  · exact Nat.le_refl _
theorem lumpR_len (bs : List Int) (e most : Int) : (lumpR bs e most).2.1.length ≤ bs.length ∧ (lumpR bs e most).1.length ≤ bs.length := by
  have h := numR_len bs e (max most 0)
  unfold lumpR
  split
  · split
    · simp
    · simp; omega
  · exact ⟨h, by simp⟩

set_option maxRecDepth 100000 in
set_option maxHeartbeats 16000000 in
theorem reads_walk (p0 : Option Addr) (m0 c0 : Nat) (rb : List Int) (p1 : Option Addr) (m1 c1 : Nat) (zs : List Int) (a : Option Addr) (ln lc : Nat) (ls : List (List Int)) (p3 : Option Addr) (la c3 : Nat) (kk : Int) (w : World)
    (h0 : IsNums .u8 w (.slice p0 m0 c0) rb) (hl0 : rb.length = m0) (hm0 : m0 ≤ maxLen) (hc0 : m0 ≤ c0) (hcc0 : c0 ≤ maxLen) (f0 : ∀ y ∈ rb, 0 ≤ y ∧ y ≤ 255)
    (h1 : IsNums .u64 w (.slice p1 m1 c1) zs) (hl1 : zs.length = m1) (hm1 : m1 ≤ maxLen) (f1 : ∀ j, j < zs.length → 0 ≤ zs.getD j 0 ∧ zs.getD j 0 ≤ 18446744073709551615)
    (h2 : IsLists w (.slice a ln lc) ls) (hl2 : ls.length = ln) (hm2 : ln ≤ maxLen) (f2 : ∀ j, j < ls.length → ∀ y ∈ ls.getD j [], 0 ≤ y ∧ y ≤ 255)
    (h3 : la = 0 ∨ ∃ b off, p3 = some ⟨b, off, none⟩ ∧ ∀ j, j < la → ∃ (q : Bool) (m : Int), w.cell? ⟨b, off + j * 2, none⟩ = some (.bool q) ∧ w.cell? ⟨b, off + j * 2 + 1, none⟩ = some (.int .u64 m) ∧ 0 ≤ m ∧ m ≤ 18446744073709551615) (hm3 : la ≤ maxLen) (k0 : 0 ≤ kk) (k1 : kk ≤ 255) :
    Calls Try.prog 3 #[.slice p0 m0 c0, .slice p1 m1 c1, .slice a ln lc, .slice p3 la c3, .int .u8 kk] w fun e w' => e = .returned (.bool true) ∧ Below w.heap.size w w' := by
  unfold maxLen at hm0 hm1 hm2 hm3 hcc0
  have H0 := Lib.hid h0
  have HNL0 := Lib.hid (NumsLt.ofNums h0 hc0 (by omega))
  have F0 := Lib.hid f0
  have H1 := Lib.hid h1
  have F1 := Lib.hid f1
  have H2 := Lib.hid h2
  have F2 := Lib.hid f2
  have H3 := Lib.hid h3
  clear h0 f0 h1 f1 h2 f2 h3
  by_cases q : 60 < m0 ∨ 12 < m1 ∨ 6 < ln ∨ 30 < la
  · go_enter Try.func3, Try.ntmps3
    go_wp2_with fail
    refine (known_true _).mono ?_
    rintro en w1 ⟨rfl, hb1⟩
    by_cases q1 : 60 < m0
    · go_wp2
      go_ret
      exact ⟨rfl, hb1⟩
    · by_cases q2 : 12 < m1
      · go_wp2
        go_ret
        exact ⟨rfl, hb1⟩
      · by_cases q3 : 6 < ln
        · go_wp2
          go_ret
          exact ⟨rfl, hb1⟩
        · have q4 : 30 < la := by omega
          go_wp2
          go_ret
          exact ⟨rfl, hb1⟩
  have q1 : m0 ≤ 60 := by omega
  have q2 : m1 ≤ 12 := by omega
  have q3 : ln ≤ 6 := by omega
  have q4 : la ≤ 30 := by omega
  clear q
  obtain ⟨N, hN⟩ : ∃ N, w.heap.size = N := ⟨_, rfl⟩
  go_enter Try.func3, Try.ntmps3
  go_wp2_with fail
  refine (known_true _).mono ?_
  rintro en w1 ⟨rfl, hbw1⟩
  rw [hN] at hbw1
  have d1 : decide (60 < m0) = false := by simp; omega
  have d2 : decide (12 < m1) = false := by simp; omega
  have d3 : decide (6 < ln) = false := by simp; omega
  have d4 : decide (30 < la) = false := by simp; omega
  have d5 : decide ((60 : Int) < (m0 : Int)) = false := by simp; omega
  have d6 : decide ((12 : Int) < (m1 : Int)) = false := by simp; omega
  have d7 : decide ((6 : Int) < (ln : Int)) = false := by simp; omega
  have d8 : decide ((30 : Int) < (la : Int)) = false := by simp; omega
  go_wp2_with fail
  obtain ⟨LB, hLB⟩ : ∃ LB, lumpsB ls = LB := ⟨_, rfl⟩
  have hLBl : LB.length = ln := by rw [← hLB, lumpsB_len, hl2]
  have HLB := Lib.hid hLB
  clear hLB
  go_loopw [11, 12, 13] (fun vb va i wr => ∃ k : Nat, k ≤ ln ∧ i = .int .i64 k ∧ (∀ j, j < k → (ls.getD j []).length ≤ 30) ∧ wr.ownsRow N 5 1 vb (LB.take k).flatten.length ((LB.take k).flatten.map (Value.int .u8)) ∧ wr.ownsRow N 5 1 va (ls.take k).flatten.length ((ls.take k).flatten.map (Value.int .u8)) ∧ (LB.take k).flatten.length ≤ 40 * k ∧ (ls.take k).flatten.length ≤ 30 * k ∧ Apart vb va ∧ Below N w wr) (fun _ _ i _ => ln - (intOf i).toNat)
  case atStart => exact ⟨0, by omega, rfl, by intro j hj; omega, by simpa using World.ownsRow_nil _ _ _ _, by simpa using World.ownsRow_nil _ _ _ _, by simp, by simp, by intro g h; simp [Value.ownBlock] at h, hbw1⟩
  case round =>
    obtain ⟨k, hk, rfl, h30, hownb, howna, hlb, hla, hap, hbel⟩ := hrel
    have H30 := Lib.hid h30
    clear h30
    have hsr := hbel.size
    by_cases hlt : k < ln
    ·
      obtain ⟨a', c', hv', hA⟩ := H2.out
      simp only [Value.slice.injEq] at hv'
      obtain ⟨rfl, -, rfl⟩ := hv'
      obtain h00 | ⟨b, off, rfl, hblk, hcells⟩ := hA
      · omega
      obtain ⟨u, hu, hnu⟩ := hcells k (by omega)
      obtain ⟨up, uc, rfl, hup⟩ := id hnu
      have hsb := flatten_snoc LB k (by omega)
      have hsa := flatten_snoc ls k (by omega)
      have hat : LB.getD k [] = enc (ls.getD k []).length ++ ls.getD k [] := by rw [← HLB.out]; exact lumpsB_at ls k (by omega)
      rw [hat] at hsb
      obtain ⟨l, hl'⟩ : ∃ l, ls.getD k [] = l := ⟨_, rfl⟩
      rw [hl'] at hu hnu hsb hsa hup
      have hel := (enc_len (l.length : Int)).1
      obtain ⟨M, hM⟩ : ∃ M, l.length = M := ⟨_, rfl⟩
      have HM := Lib.hid hM
      have HL' := Lib.hid hl'
      rw [hM] at hu hnu hel
      have HC := Lib.hid (fun W (hW : Below N w W) => (show W.cell? ⟨b, off + k, none⟩ = some (.slice up M uc) by rw [hW.cell (by show b < N; omega)]; exact hu))
      have HU := Lib.hid (fun W (hW : Below N w W) => (hnu.below hW (by omega)))
      have hcr := HC.out wr hbel
      obtain ⟨S2, hS2⟩ : ∃ S2, enc l.length ++ l = S2 := ⟨_, rfl⟩
      rw [hS2] at hsb
      have hS2l : S2.length ≤ 10 + M := by rw [← hS2, List.length_append, hM]; omega
      obtain ⟨n2, hn2⟩ : ∃ n2, S2.length = n2 := ⟨_, rfl⟩
      have HS2 := Lib.hid hS2
      have Hn2 := Lib.hid hn2
      rw [hn2] at hS2l
      have HSB := Lib.hid hsb
      have HSA := Lib.hid hsa
      obtain ⟨Bk, hBk⟩ : ∃ Bk, (LB.take k).flatten = Bk := ⟨_, rfl⟩
      obtain ⟨Ak, hAk⟩ : ∃ Ak, (ls.take k).flatten = Ak := ⟨_, rfl⟩
      rw [hBk] at hownb HSB hlb
      rw [hAk] at howna HSA hla
      obtain ⟨nb, hnb⟩ : ∃ nb, Bk.length = nb := ⟨_, rfl⟩
      obtain ⟨na, hna⟩ : ∃ na, Ak.length = na := ⟨_, rfl⟩
      have HNB := Lib.hid hnb
      have HNA := Lib.hid hna
      rw [hnb] at hownb hlb
      rw [hna] at howna hla
      have HOB := Lib.hid hownb
      have HOA := Lib.hid howna
      have HAP := Lib.hid hap
      clear hsb hsa hat hl' hS2 hn2 hBk hAk hnb hna hcells hu hnu hup hM hownb howna hap
      by_cases hbig : 30 < M
      · go_wp2
        go_ret
        exact ⟨rfl, by rw [hN]; exact hbel⟩
      · have hk0 : (0 : Int) ≤ (k : Int) := by omega
        have hk2 : (k : Int) < (ln : Int) := by omega
        have hM30 : ¬ (30 : Int) < (M : Int) := by omega
        go_wp2_with fail
        have hW0 : Below N w wr.drew := hbel.drew
        have hN0 : N ≤ wr.drew.heap.size := by have := hW0.size; omega
        have HOB := Lib.hid HOB.out.drew
        have HOA := Lib.hid HOA.out.drew
        refine regionK_begin (fun _ => False) (by kernel_rfl) ?_
        refine stepK_read 0 (some 54) (v := ?v0) rfl (by rfl) (by kernel_rfl) (by kernel_rfl) (by kernel_rfl) (fun _ _ _ h => h) (by rfl) ?y0 ?n0
        case y0 => intro W hW; go_simp; try with_reducible rfl
        try simp only [Act.put, List.setIfInBounds_toArray, List.set_cons_zero, List.set_cons_succ]
        refine stepK_read 1 (some 55) (v := ?v1) rfl (by rfl) (by kernel_rfl) (by kernel_rfl) (by kernel_rfl) (fun _ _ _ h => h) (by rfl) ?y1 ?n1
        case y1 => intro W hW; go_simp; try with_reducible rfl
        try simp only [Act.put, List.setIfInBounds_toArray, List.set_cons_zero, List.set_cons_succ]
        refine stepK_read 2 (some 56) (v := ?v2) rfl (by rfl) (by kernel_rfl) (by kernel_rfl) (by kernel_rfl) (fun _ _ _ h => h) (by rfl) ?y2 ?n2
        case y2 => intro W hW; go_simp; try with_reducible rfl
        try simp only [Act.put, List.setIfInBounds_toArray, List.set_cons_zero, List.set_cons_succ]
        refine stepK_read 3 (some 57) (v := ?v3) rfl (by rfl) (by kernel_rfl) (by kernel_rfl) (by kernel_rfl) (fun _ _ _ h => h) (by rfl) ?y3 ?n3
        case y3 => intro W hW; have hc := HC.out W (hW0.trans (hW.below (fun k hk => absurd hk (by simp)) hN0)); go_simp; try with_reducible rfl
        try simp only [Act.put, List.setIfInBounds_toArray, List.set_cons_zero, List.set_cons_succ]
        refine stepK_read 6 (some 60) (v := ?v6) rfl (by rfl) (by kernel_rfl) (by kernel_rfl) (by kernel_rfl) (fun _ _ _ h => h) (by rfl) ?y6 ?n6
        case y6 => intro W hW; go_simp; try with_reducible rfl
        try simp only [Act.put, List.setIfInBounds_toArray, List.set_cons_zero, List.set_cons_succ]
        refine stepK_read 7 (some 61) (v := ?v7) rfl (by rfl) (by kernel_rfl) (by kernel_rfl) (by kernel_rfl) (fun _ _ _ h => h) (by rfl) ?y7 ?n7
        case y7 => intro W hW; go_simp; try with_reducible rfl
        try simp only [Act.put, List.setIfInBounds_toArray, List.set_cons_zero, List.set_cons_succ]
        refine stepK_read 8 (some 62) (v := ?v8) rfl (by rfl) (by kernel_rfl) (by kernel_rfl) (by kernel_rfl) (fun _ _ _ h => h) (by rfl) ?y8 ?n8
        case y8 => intro W hW; go_simp; try with_reducible rfl
        try simp only [Act.put, List.setIfInBounds_toArray, List.set_cons_zero, List.set_cons_succ]
        refine stepK_read 9 (some 63) (v := ?v9) rfl (by rfl) (by kernel_rfl) (by kernel_rfl) (by kernel_rfl) (fun _ _ _ h => h) (by rfl) ?y9 ?n9
        case y9 => intro W hW; have hc := HC.out W (hW0.trans (hW.below (fun k hk => absurd hk (by simp)) hN0)); go_simp; try with_reducible rfl
        try simp only [Act.put, List.setIfInBounds_toArray, List.set_cons_zero, List.set_cons_succ]
        -- 4: call:9 -> 58
        refine stepK_only 4 rfl (by kernel_rfl) (by rfl) (fun K' hK => ?_)
        go_simp
        go_at_call 9
        refine (lump_is _ l _ (HU.out _ hW0) (by rw [HM.out]; omega) S2 n2 HS2.out Hn2.out).mono ?_
        rintro e x4 ⟨p4, c4, rfl, hN4, hb4⟩
        have K4 := Lib.hid hN4
        replace HOB := Lib.hid (own_below HOB.out hb4 (Nat.le_refl _))
        replace HOA := Lib.hid (own_below HOA.out hb4 (Nat.le_refl _))
        replace hW0 := hW0.trans (hb4.mono hN0)
        replace hN0 := Nat.le_trans hN0 hb4.size
        refine hK _ _ (Keep.ofBelow hb4) ?_
        clear hN4 hb4
        clear hK K'
        try simp only [Act.put, List.setIfInBounds_toArray, List.set_cons_zero, List.set_cons_succ]
        refine stepK_read 5 (some 59) (v := ?v5) rfl (by rfl) (by kernel_rfl) (by kernel_rfl) (by kernel_rfl) (fun _ _ _ h => h) (by rfl) ?y5 ?n5
        case y5 => intro W hW; have ec := conv_at K4.out (hW.below (fun k hk => absurd hk (by simp)) (Nat.le_refl _)); go_simp; try with_reducible rfl
        try simp only [Act.put, List.setIfInBounds_toArray, List.set_cons_zero, List.set_cons_succ]
        -- 10: call:10 -> 64
        refine stepK_only 10 rfl (by kernel_rfl) (by rfl) (fun K' hK => ?_)
        go_simp
        go_at_call 10
        refine (rflump_is _ l _ (HU.out _ hW0) (by rw [HM.out]; omega) S2 n2 HS2.out Hn2.out).mono ?_
        rintro e x10 ⟨p10, c10, rfl, hN10, hb10⟩
        have K10 := Lib.hid hN10
        replace HOB := Lib.hid (own_below HOB.out hb10 (Nat.le_refl _))
        replace HOA := Lib.hid (own_below HOA.out hb10 (Nat.le_refl _))
        replace hW0 := hW0.trans (hb10.mono hN0)
        replace hN0 := Nat.le_trans hN0 hb10.size
        refine hK _ _ (Keep.ofBelow hb10) ?_
        clear hN10 hb10
        clear hK K'
        try simp only [Act.put, List.setIfInBounds_toArray, List.set_cons_zero, List.set_cons_succ]
        refine stepK_read 11 (some 65) (v := ?v11) rfl (by rfl) (by kernel_rfl) (by kernel_rfl) (by kernel_rfl) (fun _ _ _ h => h) (by rfl) ?y11 ?n11
        case y11 => intro W hW; have ec := conv_at K10.out (hW.below (fun k hk => absurd hk (by simp)) (Nat.le_refl _)); go_simp; try with_reducible rfl
        try simp only [Act.put, List.setIfInBounds_toArray, List.set_cons_zero, List.set_cons_succ]
        refine stepK_read 12 (some 66) (v := ?v12) rfl (by rfl) (by kernel_rfl) (by kernel_rfl) (by kernel_rfl) (fun _ _ _ h => h) (by rfl) ?y12 ?n12
        case y12 => intro W hW; go_simp; try with_reducible rfl
        try simp only [Act.put, List.setIfInBounds_toArray, List.set_cons_zero, List.set_cons_succ]
        refine wpAnyH_done (by kernel_rfl) ?_ _
        go_wp2_with fail
        have HOB := Lib.hid HOB.out.drew
        have HOA := Lib.hid HOA.out.drew
        replace hW0 := hW0.drew
        replace hN0 : N ≤ x10.drew.heap.size := hN0
        refine regionK_begin (fun k => N ≤ k) (by kernel_rfl) ?_
        refine stepK_read 0 (some 67) (v := ?vc0) rfl (by rfl) (by kernel_rfl) (by kernel_rfl) (by kernel_rfl) (fun _ _ _ h => h) (by rfl) ?yc0 ?nc0
        case yc0 => intro W hW; go_simp; try with_reducible rfl
        try simp only [Act.put, List.setIfInBounds_toArray, List.set_cons_zero, List.set_cons_succ]
        refine stepK_read 1 (some 68) (v := ?vc1) rfl (by rfl) (by kernel_rfl) (by kernel_rfl) (by kernel_rfl) (fun _ _ _ h => h) (by rfl) ?yc1 ?nc1
        case yc1 => intro W hW; go_simp; try with_reducible rfl
        try simp only [Act.put, List.setIfInBounds_toArray, List.set_cons_zero, List.set_cons_succ]
        refine stepK_read 2 (some 69) (v := ?vc2) rfl (by rfl) (by kernel_rfl) (by kernel_rfl) (by kernel_rfl) (fun _ _ _ h => h) (by rfl) ?yc2 ?nc2
        case yc2 => intro W hW; go_simp; try with_reducible rfl
        try simp only [Act.put, List.setIfInBounds_toArray, List.set_cons_zero, List.set_cons_succ]
        refine stepK_read 3 (some 70) (v := ?vc3) rfl (by rfl) (by kernel_rfl) (by kernel_rfl) (by kernel_rfl) (fun _ _ _ h => h) (by rfl) ?yc3 ?nc3
        case yc3 => intro W hW; go_simp; try with_reducible rfl
        try simp only [Act.put, List.setIfInBounds_toArray, List.set_cons_zero, List.set_cons_succ]
        refine stepK_read 4 (some 71) (v := ?vc4) rfl (by rfl) (by kernel_rfl) (by kernel_rfl) (by kernel_rfl) (fun _ _ _ h => h) (by rfl) ?yc4 ?nc4
        case yc4 => intro W hW; have hc := HC.out W (hW0.trans (hW.below (fun k hk => hk) hN0)); go_simp; try with_reducible rfl
        try simp only [Act.put, List.setIfInBounds_toArray, List.set_cons_zero, List.set_cons_succ]
        refine stepK_read 7 (some 74) (v := ?vc7) rfl (by rfl) (by kernel_rfl) (by kernel_rfl) (by kernel_rfl) (fun _ _ _ h => h) (by rfl) ?yc7 ?nc7
        case yc7 => intro W hW; go_simp; try with_reducible rfl
        try simp only [Act.put, List.setIfInBounds_toArray, List.set_cons_zero, List.set_cons_succ]
        refine stepK_read 8 (some 75) (v := ?vc8) rfl (by rfl) (by kernel_rfl) (by kernel_rfl) (by kernel_rfl) (fun _ _ _ h => h) (by rfl) ?yc8 ?nc8
        case yc8 => intro W hW; go_simp; try with_reducible rfl
        try simp only [Act.put, List.setIfInBounds_toArray, List.set_cons_zero, List.set_cons_succ]
        refine stepK_read 9 (some 76) (v := ?vc9) rfl (by rfl) (by kernel_rfl) (by kernel_rfl) (by kernel_rfl) (fun _ _ _ h => h) (by rfl) ?yc9 ?nc9
        case yc9 => intro W hW; go_simp; try with_reducible rfl
        try simp only [Act.put, List.setIfInBounds_toArray, List.set_cons_zero, List.set_cons_succ]
        refine stepK_read 10 (some 77) (v := ?vc10) rfl (by rfl) (by kernel_rfl) (by kernel_rfl) (by kernel_rfl) (fun _ _ _ h => h) (by rfl) ?yc10 ?nc10
        case yc10 => intro W hW; go_simp; try with_reducible rfl
        try simp only [Act.put, List.setIfInBounds_toArray, List.set_cons_zero, List.set_cons_succ]
        refine stepK_read 11 (some 78) (v := ?vc11) rfl (by rfl) (by kernel_rfl) (by kernel_rfl) (by kernel_rfl) (fun _ _ _ h => h) (by rfl) ?yc11 ?nc11
        case yc11 => intro W hW; have hc := HC.out W (hW0.trans (hW.below (fun k hk => hk) hN0)); go_simp; try with_reducible rfl
        try simp only [Act.put, List.setIfInBounds_toArray, List.set_cons_zero, List.set_cons_succ]
        -- 5: call:10 -> 72
        refine stepK_only 5 rfl (by kernel_rfl) (by rfl) (fun K' hK => ?_)
        go_simp
        go_at_call 10
        refine (rflump_is _ l _ (HU.out _ hW0) (by rw [HM.out]; omega) S2 n2 HS2.out Hn2.out).mono ?_
        rintro e y5 ⟨q5, d5, rfl, hN5, hb5⟩
        have L5 := Lib.hid hN5
        replace HOB := Lib.hid (own_below HOB.out hb5 (Nat.le_refl _))
        replace HOA := Lib.hid (own_below HOA.out hb5 (Nat.le_refl _))
        replace hW0 := hW0.trans (hb5.mono hN0)
        replace hN0 := Nat.le_trans hN0 hb5.size
        refine hK _ _ (Keep.ofBelow hb5) ?_
        clear hN5 hb5
        clear hK K'
        try simp only [Act.put, List.setIfInBounds_toArray, List.set_cons_zero, List.set_cons_succ]
        -- 6: builtin:append -> 73
        refine stepK_only 6 rfl (by kernel_rfl) (by rfl) (fun K' hK => ?_)
        refine wp_appN2 _ _ 22 rfl N 5 .u8 1 Try.underlying22 info_u8 (by omega) _ _ _ rfl HOB.out _ S2 rfl L5.out (by rw [Hn2.out]; omega) hN0 _ _ _ _ HOA.out HAP.out ?_
        intro vb' y6 hob hoa hap6 hb6
        replace HOB := Lib.hid hob
        replace HOA := Lib.hid hoa
        replace HAP := Lib.hid hap6
        replace hW0 := hW0.trans hb6
        have hKp : Keep (fun k => N ≤ k) y5 y6 := ⟨hb6.os, hb6.tape, hb6.output, hb6.size, fun k hk hn => hb6.block k (by omega)⟩
        replace hN0 := Nat.le_trans hN0 hb6.size
        refine hK _ _ hKp ?_
        clear hob hoa hap6 hb6 hKp L5
        clear hK K'
        try simp only [Act.put, List.setIfInBounds_toArray]
        -- 12: builtin:append -> 79
        refine stepK_only 12 rfl (by kernel_rfl) (by rfl) (fun K' hK => ?_)
        refine wp_appN2 _ _ 22 rfl N 5 .u8 1 Try.underlying22 info_u8 (by omega) _ _ _ rfl HOA.out _ l rfl (HU.out _ hW0) (by rw [HM.out]; omega) hN0 _ _ _ _ HOB.out HAP.out.symm ?_
        intro va' y12 hoa hob hap12 hb12
        replace HOB := Lib.hid hob
        replace HOA := Lib.hid hoa
        replace HAP := Lib.hid hap12.symm
        replace hW0 := hW0.trans hb12
        have hKp : Keep (fun k => N ≤ k) y6 y12 := ⟨hb12.os, hb12.tape, hb12.output, hb12.size, fun k hk hn => hb12.block k (by omega)⟩
        replace hN0 := Nat.le_trans hN0 hb12.size
        refine hK _ _ hKp ?_
        clear hob hoa hap12 hb12 hKp
        clear hK K'
        try simp only [Act.put]
        refine stepK_read 13 (some 11) (v := ?vc13) rfl (by rfl) (by kernel_rfl) (by kernel_rfl) (by kernel_rfl) (fun _ _ _ h => h) (by rfl) ?yc13 ?nc13
        case yc13 => intro W hW; go_simp; try with_reducible rfl
        try simp only [Act.put]
        refine stepK_read 14 (some 12) (v := ?vc14) rfl (by rfl) (by kernel_rfl) (by kernel_rfl) (by kernel_rfl) (fun _ _ _ h => h) (by rfl) ?yc14 ?nc14
        case yc14 => intro W hW; go_simp; try with_reducible rfl
        try simp only [Act.put]
        refine wpAnyH_done (by kernel_rfl) ?_ _
        go_wp2_with fail
        have EB := Lib.hid (show (LB.take (k + 1)).flatten = Bk ++ S2 from HSB.out)
        have EA := Lib.hid (show (ls.take (k + 1)).flatten = Ak ++ l from HSA.out)
        have HLx := Lib.hid hW0
        clear hW0 hbel
        go_roundw
        case rel =>
          refine ⟨k + 1, by omega, by go_num, ?_, ?_, ?_, ?_, ?_, HAP.out, HLx.out⟩
          · intro j hj
            by_cases h : j = k
            · subst h; rw [HL'.out, HM.out]; omega
            · exact H30.out j (by omega)
          · rw [EB.out, List.length_append, List.map_append, HNB.out]; exact HOB.out
          · rw [EA.out, List.length_append, List.map_append, HNA.out]; exact HOA.out
          · rw [EB.out, List.length_append, HNB.out, Hn2.out]; omega
          · rw [EA.out, List.length_append, HNA.out, HM.out]; omega
        case measure => simp [intOf]; omega
    · obtain rfl : k = ln := by omega
      have hallB : LB.take k = LB := by rw [← hLBl, List.take_length]
      have hallA : ls.take k = ls := by rw [← hl2, List.take_length]
      rw [hallB] at hownb hlb
      rw [hallA] at howna hla
      have hNa := IsNums.ofOwn howna
      obtain ⟨pa, ca, rfl, -⟩ := id hNa
      obtain ⟨FA, hFA⟩ : ∃ FA, ls.flatten = FA := ⟨_, rfl⟩
      rw [hFA] at hNa hla
      obtain ⟨na, hna⟩ : ∃ na, FA.length = na := ⟨_, rfl⟩
      rw [hna] at hNa hla
      obtain ⟨FB, hFB⟩ : ∃ FB, LB.flatten = FB := ⟨_, rfl⟩
      rw [hFB] at hownb hlb
      obtain ⟨nb, hnb⟩ : ∃ nb, FB.length = nb := ⟨_, rfl⟩
      rw [hnb] at hownb hlb
      have hlb2 : nb ≤ 240 := by omega
      have hla2 : na ≤ 180 := by omega
      have HNA := Lib.hid hna
      have HNB := Lib.hid hnb
      have HFA := Lib.hid hFA
      have HFB := Lib.hid hFB
      have HOB := Lib.hid hownb
      have HNa := Lib.hid hNa
      obtain ⟨SP, hSP⟩ : ∃ SP, encs zs = SP := ⟨_, rfl⟩
      obtain ⟨np, hnp⟩ : ∃ np, SP.length = np := ⟨_, rfl⟩
      have HSP := Lib.hid hSP
      have Hnp := Lib.hid hnp
      rw [hFA, hna]
      clear hallB hallA howna hNa hFA hna hFB hnb hownb hSP hnp hlb hla hap
      go_wp2_with fail
      have hW0 : Below N w wr.drew := hbel.drew
      have hN0 : N ≤ wr.drew.heap.size := by have := hW0.size; omega
      have HOB := Lib.hid HOB.out.drew
      have HNa := Lib.hid HNa.out.drew
      have hsl : sumLen ls ≤ 180 := by unfold sumLen; rw [HFA.out, HNA.out]; exact hla2
      refine regionK_begin (fun _ => False) (by kernel_rfl) ?_
      refine stepK_read 0 (some 80) (v := ?vd0) rfl (by rfl) (by kernel_rfl) (by kernel_rfl) (by kernel_rfl) (fun _ _ _ h => h) (by rfl) ?yd0 ?nd0
      case yd0 => intro W hW; go_simp; try with_reducible rfl
      try simp only [Act.put, List.setIfInBounds_toArray, List.set_cons_zero, List.set_cons_succ]
      refine stepK_read 3 (some 83) (v := ?vd3) rfl (by rfl) (by kernel_rfl) (by kernel_rfl) (by kernel_rfl) (fun _ _ _ h => h) (by rfl) ?yd3 ?nd3
      case yd3 => intro W hW; go_simp; try with_reducible rfl
      try simp only [Act.put, List.setIfInBounds_toArray, List.set_cons_zero, List.set_cons_succ]
      refine stepK_read 4 (some 84) (v := ?vd4) rfl (by rfl) (by kernel_rfl) (by kernel_rfl) (by kernel_rfl) (fun _ _ _ h => h) (by rfl) ?yd4 ?nd4
      case yd4 => intro W hW; have ec := conv_at HNa.out (hW.below (fun k hk => absurd hk (by simp)) (Nat.le_refl _)); go_simp; try with_reducible rfl
      try simp only [Act.put, List.setIfInBounds_toArray, List.set_cons_zero, List.set_cons_succ]
      -- 1: call:11 -> 81
      refine stepK_only 1 rfl (by kernel_rfl) (by rfl) (fun K' hK => ?_)
      go_simp
      go_at_call 11
      refine (join_is _ ls _ (H2.out.below' hW0 (by omega)) (by omega) (by omega) FA na HFA.out HNA.out).mono ?_
      rintro e z1 ⟨p1, c1, rfl, hN1, hb1⟩
      have K1 := Lib.hid hN1
      replace HOB := Lib.hid (own_below HOB.out hb1 (Nat.le_refl _))
      replace HNa := Lib.hid (HNa.out.below hb1 (Nat.le_refl _))
      replace hW0 := hW0.trans (hb1.mono hN0)
      replace hN0 := Nat.le_trans hN0 hb1.size
      refine hK _ _ (Keep.ofBelow hb1) ?_
      clear hN1 hb1
      clear hK K'
      try simp only [Act.put, List.setIfInBounds_toArray, List.set_cons_zero, List.set_cons_succ]
      refine stepK_read 2 (some 82) (v := ?vd2) rfl (by rfl) (by kernel_rfl) (by kernel_rfl) (by kernel_rfl) (fun _ _ _ h => h) (by rfl) ?yd2 ?nd2
      case yd2 => intro W hW; have ec := conv_at K1.out (hW.below (fun k hk => absurd hk (by simp)) (Nat.le_refl _)); go_simp; try with_reducible rfl
      try simp only [Act.put, List.setIfInBounds_toArray, List.set_cons_zero, List.set_cons_succ]
      refine stepK_read 5 (some 85) (v := ?vd5) rfl (by rfl) (by kernel_rfl) (by kernel_rfl) (by kernel_rfl) (fun _ _ _ h => h) (by rfl) ?yd5 ?nd5
      case yd5 => intro W hW; go_simp; try with_reducible rfl
      try simp only [Act.put, List.setIfInBounds_toArray, List.set_cons_zero, List.set_cons_succ]
      refine stepK_read 6 (some 86) (v := ?vd6) rfl (by rfl) (by kernel_rfl) (by kernel_rfl) (by kernel_rfl) (fun _ _ _ h => h) (by rfl) ?yd6 ?nd6
      case yd6 => intro W hW; go_simp; try with_reducible rfl
      try simp only [Act.put, List.setIfInBounds_toArray, List.set_cons_zero, List.set_cons_succ]
      refine stepK_read 7 (some 87) (v := ?vd7) rfl (by rfl) (by kernel_rfl) (by kernel_rfl) (by kernel_rfl) (fun _ _ _ h => h) (by rfl) ?yd7 ?nd7
      case yd7 => intro W hW; go_simp; try with_reducible rfl
      try simp only [Act.put, List.setIfInBounds_toArray, List.set_cons_zero, List.set_cons_succ]
      refine stepK_read 10 (some 90) (v := ?vd10) rfl (by rfl) (by kernel_rfl) (by kernel_rfl) (by kernel_rfl) (fun _ _ _ h => h) (by rfl) ?yd10 ?nd10
      case yd10 => intro W hW; go_simp; try with_reducible rfl
      try simp only [Act.put, List.setIfInBounds_toArray, List.set_cons_zero, List.set_cons_succ]
      -- 8: call:12 -> 88
      refine stepK_only 8 rfl (by kernel_rfl) (by rfl) (fun K' hK => ?_)
      go_simp
      go_at_call 12
      refine (put_is _ zs _ (H1.out.below hW0 (by omega)) F1.out (by omega) SP np HSP.out Hnp.out).mono ?_
      rintro e z8 ⟨p8, c8, rfl, hN8, hb8⟩
      have K8 := Lib.hid hN8
      replace HOB := Lib.hid (own_below HOB.out hb8 (Nat.le_refl _))
      replace HNa := Lib.hid (HNa.out.below hb8 (Nat.le_refl _))
      replace hW0 := hW0.trans (hb8.mono hN0)
      replace hN0 := Nat.le_trans hN0 hb8.size
      refine hK _ _ (Keep.ofBelow hb8) ?_
      clear hN8 hb8
      clear hK K'
      try simp only [Act.put, List.setIfInBounds_toArray, List.set_cons_zero, List.set_cons_succ]
      refine stepK_read 9 (some 89) (v := ?vd9) rfl (by rfl) (by kernel_rfl) (by kernel_rfl) (by kernel_rfl) (fun _ _ _ h => h) (by rfl) ?yd9 ?nd9
      case yd9 => intro W hW; have ec := conv_at K8.out (hW.below (fun k hk => absurd hk (by simp)) (Nat.le_refl _)); go_simp; try with_reducible rfl
      try simp only [Act.put, List.setIfInBounds_toArray, List.set_cons_zero, List.set_cons_succ]
      -- 11: call:13 -> 91
      refine stepK_only 11 rfl (by kernel_rfl) (by rfl) (fun K' hK => ?_)
      go_simp
      go_at_call 13
      refine (rput_is _ zs _ (H1.out.below hW0 (by omega)) F1.out (by omega) SP np HSP.out Hnp.out).mono ?_
      rintro e z11 ⟨p11, c11, rfl, hN11, hb11⟩
      have K11 := Lib.hid hN11
      replace HOB := Lib.hid (own_below HOB.out hb11 (Nat.le_refl _))
      replace HNa := Lib.hid (HNa.out.below hb11 (Nat.le_refl _))
      replace hW0 := hW0.trans (hb11.mono hN0)
      replace hN0 := Nat.le_trans hN0 hb11.size
      refine hK _ _ (Keep.ofBelow hb11) ?_
      clear hN11 hb11
      clear hK K'
      try simp only [Act.put, List.setIfInBounds_toArray, List.set_cons_zero, List.set_cons_succ]
      refine stepK_read 12 (some 92) (v := ?vd12) rfl (by rfl) (by kernel_rfl) (by kernel_rfl) (by kernel_rfl) (fun _ _ _ h => h) (by rfl) ?yd12 ?nd12
      case yd12 => intro W hW; have ec := conv_at K11.out (hW.below (fun k hk => absurd hk (by simp)) (Nat.le_refl _)); go_simp; try with_reducible rfl
      try simp only [Act.put, List.setIfInBounds_toArray, List.set_cons_zero, List.set_cons_succ]
      refine stepK_read 13 (some 93) (v := ?vd13) rfl (by rfl) (by kernel_rfl) (by kernel_rfl) (by kernel_rfl) (fun _ _ _ h => h) (by rfl) ?yd13 ?nd13
      case yd13 => intro W hW; go_simp; try with_reducible rfl
      try simp only [Act.put, List.setIfInBounds_toArray, List.set_cons_zero, List.set_cons_succ]
      refine stepK_read 14 (some 94) (v := ?vd14) rfl (by rfl) (by kernel_rfl) (by kernel_rfl) (by kernel_rfl) (fun _ _ _ h => h) (by rfl) ?yd14 ?nd14
      case yd14 => intro W hW; go_simp; try with_reducible rfl
      try simp only [Act.put, List.setIfInBounds_toArray, List.set_cons_zero, List.set_cons_succ]
      refine wpAnyH_done (by kernel_rfl) ?_ _
      go_wp2_with fail
      obtain ⟨EB, hEB⟩ : ∃ EB, edgesB zs kk = EB := ⟨_, rfl⟩
      have hEBl : EB.length = m1 := by rw [← hEB, edgesB_len, hl1]
      have HEB := Lib.hid hEB
      clear hEB hsl K11 K8 K1
      go_loopw [11, 14] (fun vb i wr => ∃ j : Nat, j ≤ m1 ∧ i = .int .i64 j ∧ wr.ownsRow N 5 1 vb (nb + (EB.take j).flatten.length) ((FB ++ (EB.take j).flatten).map (Value.int .u8)) ∧ (EB.take j).flatten.length ≤ 10 * j ∧ Below N w wr) (fun _ i _ => m1 - (intOf i).toNat)
      case atStart => exact ⟨0, by omega, rfl, by simpa using HOB.out, by simp, hW0⟩
      case round =>
        obtain ⟨j, hj, rfl, hown, hlj, hbj⟩ := hrel
        have hsj := hbj.size
        by_cases hlt2 : j < m1
        ·
          obtain ⟨pa1, pc1, hpv, hP⟩ := H1.out
          simp only [Value.slice.injEq] at hpv
          obtain ⟨rfl, -, rfl⟩ := hpv
          obtain h00 | ⟨b1, off1, rfl, hblk1, hcells1⟩ := hP
          · omega
          have hz := hcells1 j (by omega)
          have hzb := F1.out j (by omega)
          have hsn := flatten_snoc EB j (by omega)
          have hat : EB.getD j [] = enc (edgeF (zs.getD j 0) ((kk + j) % 256)) := by rw [← HEB.out]; exact edgesB_at zs kk j (by omega)
          rw [hat] at hsn
          obtain ⟨z, hz'⟩ : ∃ z, zs.getD j 0 = z := ⟨_, rfl⟩
          rw [hz'] at hz hzb hsn
          have hzr : wr.cell? ⟨b1, off1 + j, none⟩ = some (.int .u64 z) := by rw [hbj.cell (by show b1 < N; omega)]; exact hz
          obtain ⟨k', hk'⟩ : ∃ k', (kk + (j : Int)) % 256 = k' := ⟨_, rfl⟩
          have hk0 : 0 ≤ k' ∧ k' ≤ 255 := by omega
          have hwr : IntKind.u8.wrap (kk + (j : Int)) = k' := by rw [IntKind.wrap_u8, hk']
          have hwj : IntKind.u8.wrap (j : Int) = (j : Int) := by rw [IntKind.wrap_u8]; omega
          have hwj2 : (j : Int) % 256 = (j : Int) := by omega
          rw [hk'] at hsn
          obtain ⟨X, hX⟩ : ∃ X, edgeF z k' = X := ⟨_, rfl⟩
          have hXb := edge_bd z k' hzb.1 hzb.2
          rw [hX] at hXb hsn
          have HX := Lib.hid hX
          obtain ⟨E1, hE1⟩ : ∃ E1, enc X = E1 := ⟨_, rfl⟩
          have hel := (enc_len X).1
          rw [hE1] at hel hsn
          have HE1 := Lib.hid (show encs [X] = E1 by simp [encs, hE1])
          obtain ⟨n1, hn1⟩ : ∃ n1, E1.length = n1 := ⟨_, rfl⟩
          have Hn1 := Lib.hid hn1
          rw [hn1] at hel
          have HSN := Lib.hid hsn
          obtain ⟨T, hT⟩ : ∃ T, (EB.take j).flatten = T := ⟨_, rfl⟩
          rw [hT] at HSN hown hlj
          obtain ⟨nt, hnt⟩ : ∃ nt, T.length = nt := ⟨_, rfl⟩
          rw [hnt] at hown hlj
          have HNT := Lib.hid hnt
          have HOW := Lib.hid hown
          clear hcells1 hz hat hz' hsn hX hE1 hn1 hT hnt hown
          go_wp2_with fail
          refine (edge_any z k' wr hzb.1 hzb.2 hk0.1 hk0.2).mono ?_
          rw [HX.out]
          rintro e w2 ⟨rfl, hb2⟩
          have HOW2 := Lib.hid (own_below HOW.out hb2 (Nat.le_refl _))
          have hB2 := hbj.trans (hb2.mono (by omega))
          go_wp2_with fail
          refine (rput_is _ [X] _ (IsNums.lit .u64 w2 [X] _ _ _ _ rfl rfl) (one_ok X hXb) (by simp) E1 n1 HE1.out Hn1.out).mono ?_
          rintro e w3 ⟨p4, c4, rfl, hN4, hb3⟩
          have hb3' : Below w2.heap.size w2 w3 := ((Below.refl _ w2).alloc (Nat.le_refl _) _).trans (hb3.mono (by simp))
          have HOW3 := Lib.hid (own_below HOW2.out hb3' (Nat.le_refl _))
          have hs2 := hB2.size
          have hB3 := hB2.trans (hb3'.mono (by omega))
          have hs3 := hB3.size
          have K4 := Lib.hid hN4
          clear hb2 hb3 hb3' hN4 hB2 HOW HOW2
          go_wp2_with (at_builtin; refine wpList_appN rfl _ _ 22 rfl N 5 .u8 1 Try.underlying22 info_u8 (by omega) _ _ _ rfl HOW3.out _ E1 rfl K4.out (by rw [Hn1.out]; omega) (by omega) ?_; intro v5 w5 hown5 hb5)
          have HO5 := Lib.hid hown5
          have HB5 := Lib.hid (hB3.trans hb5)
          clear hown5 hb5 hB3 hbj
          first
            | exact ⟨⟨j + 1, by omega, by go_num, by rw [HSN.out, List.length_append, HNT.out, Hn1.out, ← List.append_assoc, List.map_append, ← Nat.add_assoc]; have h := HO5.out; rw [Hn1.out] at h; exact h, by rw [HSN.out, List.length_append, HNT.out, Hn1.out]; omega, HB5.out⟩, by simp [intOf]; omega⟩
            | (go_roundw
               case rel => exact ⟨j + 1, by omega, by go_num, by rw [HSN.out, List.length_append, HNT.out, Hn1.out, ← List.append_assoc, List.map_append, ← Nat.add_assoc]; have h := HO5.out; rw [Hn1.out] at h; exact h, by rw [HSN.out, List.length_append, HNT.out, Hn1.out]; omega, HB5.out⟩
               case measure => simp [intOf]; omega)
        · obtain rfl : j = m1 := by omega
          have hallE : EB.take j = EB := by rw [← hEBl, List.take_length]
          rw [hallE] at hown hlj
          have hBBn := NumsLt.ofOwn hown
          obtain ⟨pb, cb, rfl, -⟩ := id hBBn
          obtain ⟨BB, hBB⟩ : ∃ BB, FB ++ EB.flatten = BB := ⟨_, rfl⟩
          have hBBl : BB.length ≤ 360 := by rw [← hBB, List.length_append, HNB.out]; omega
          have hBBb : ∀ y ∈ BB, 0 ≤ y ∧ y ≤ 255 := by
            intro y hy
            rw [← hBB] at hy
            rcases List.mem_append.1 hy with h | h
            · rw [← HFB.out, ← HLB.out] at h
              exact lumpsB_bytes ls (fun i hi => ⟨F2.out i hi, Nat.le_trans (H30.out i (by omega)) (by decide)⟩) y h
            · rw [← HEB.out] at h
              exact edgesB_bytes zs kk F1.out y h
          rw [hBB] at hBBn
          obtain ⟨nB, hnB⟩ : ∃ nB, BB.length = nB := ⟨_, rfl⟩
          rw [hBB, hnB]
          rw [hnB] at hBBn hBBl
          have HNBB := Lib.hid hnB
          have HBBb := Lib.hid hBBb
          have HBL := Lib.hid hBBn
          have HBB := Lib.hid (hBBn.nums (Nat.le_refl _))
          have HR := Lib.hid (H0.out.below hbj (by omega))
          clear hown hBBn hBBb hBB hnB hlj hallE HOB HNa
          go_wp2_with (first
            | (at_builtin; refine wpList_appN rfl _ _ 22 rfl w6.heap.size 5 .u8 1 Try.underlying22 info_u8 (by omega) _ 10 _ rfl HLIT.out _ rb rfl HR6.out (by omega) (by simp) ?_; intro v7 w7 hown7 hb7; obtain ⟨p7, c7, rfl, hN7⟩ := nums_out hown7)
            | (at_builtin; refine wpList_appN rfl _ _ 22 rfl wr.heap.size 5 .u8 1 Try.underlying22 info_u8 (by omega) _ _ _ rfl hown5 _ rb rfl (HR.out.below hb5 (Nat.le_refl _)) (by rw [HNBB.out]; omega) hb5.size ?_; intro v6 w6 hown6 hb6; obtain ⟨p6, c6, rfl, hN6⟩ := nums_out2 hown6; have HLIT := Lib.hid (lit10 w6 (kk % 4)); have HR6 := Lib.hid ((HR.out.below (hb5.trans hb6) (Nat.le_refl _)).alloc (.cells #[.int .u8 128, .int .u8 128, .int .u8 128, .int .u8 128, .int .u8 128, .int .u8 128, .int .u8 128, .int .u8 128, .int .u8 128, .int .u8 (kk % 4)] 5)))
            | (at_builtin; refine wpList_appN rfl _ _ 22 rfl wr.heap.size 5 .u8 1 Try.underlying22 info_u8 (by omega) (.slice none 0 0) 0 [] rfl (World.ownsRow_nil _ _ _ _) _ BB rfl HBB.out (by rw [HNBB.out]; omega) (Nat.le_refl _) ?_; intro v5 w5 hown5 hb5))
          have hB5 : Below wr.heap.size wr w6 := hb5.trans hb6
          have hB67 : Below w6.heap.size w6 w7 := ((Below.refl _ w6).alloc (Nat.le_refl _) _).trans hb7
          have hB7 : Below wr.heap.size wr w7 := hB5.trans (hB67.mono hB5.size)
          have hBN : Below N w w7 := hbj.trans (hB7.mono (by omega))
          have hsN := hBN.size
          have hs67 := hB67.size
          have hsr7 := hB7.size
          have g0 : GoodB w7 (.slice p0 m0 c0) rb := ⟨p0, m0, c0, rfl, hl0, by omega, (HNL0.out.below (hBN.mono (by omega))).mono (by omega), F0.out⟩
          have g1 : GoodB w7 (.slice pb nB cb) BB := ⟨pb, nB, cb, rfl, HNBB.out, by omega, (HBL.out.below hB7).mono hsr7, HBBb.out⟩
          have g2 : GoodB w7 (.slice p6 (BB.length + rb.length) c6) (BB ++ rb) := ⟨p6, _, c6, rfl, by simp, by rw [HNBB.out]; omega, ((by simpa using hN6 : NumsLt w6.heap.size .u8 w6 (.slice p6 (BB.length + rb.length) c6) (BB ++ rb)).below hB67).mono hs67, fun y hy => by
            rcases List.mem_append.1 hy with h | h
            · exact HBBb.out y h
            · exact F0.out y h⟩
          have g3 : GoodB w7 (.slice p7 (10 + rb.length) c7) (tenB (kk % 4) ++ rb) := ⟨p7, _, c7, rfl, by simp [tenB]; omega, by omega, hN7, fun y hy => by
            rcases List.mem_append.1 hy with h | h
            · exact tenB_bytes _ (by omega) (by omega) y h
            · exact F0.out y h⟩
          have HG := Lib.hid (list4B w7 _ _ _ _ _ _ _ _ 22 g0 g1 g2 g3)
          rw [hl0] at HG
          obtain ⟨WL, hWL⟩ : ∃ WL, w7.alloc (.cells #[.slice p0 m0 c0, .slice pb nB cb, .slice p6 (BB.length + m0) c6, .slice p7 (10 + m0) c7] 22) = WL := ⟨_, rfl⟩
          have hs6 : WL.heap.size = w7.heap.size + 1 := by rw [← hWL]; simp
          have hB6 : Below N w WL := by rw [← hWL]; exact hBN.alloc (by omega) _
          rw [hWL] at HG ⊢
          have HB6 := Lib.hid hB6
          have hs8 := hB6.size
          clear g0 g1 g2 g3 hWL hB6 hN6 hN7 hown5 hown6 hown7 hb5 hb6 hb7 hB5 hB67 hB7 hBN HBB HBL HBBb HR HR6 HLIT hbj
          go_loopw [127] (fun i wr => ∃ t : Nat, t ≤ 4 ∧ i = .int .i64 t ∧ Below WL.heap.size WL wr) (fun i _ => 4 - (intOf i).toNat)
          case atStart => exact ⟨0, by omega, rfl, Below.refl _ _⟩
          case round =>
            obtain ⟨t, ht, rfl, hbt⟩ := hrel
            have hst := hbt.size
            by_cases hlt3 : t < 4
            · obtain ⟨u, xs, hu, hg⟩ := HG.out t hlt3
              have hu' : wr.cell? ⟨w7.heap.size, t, none⟩ = some u := by rw [hbt.cell (by show w7.heap.size < _; omega)]; exact hu
              obtain ⟨px, mx, cx, rfl, hxl, hx1000, hxn, hxb⟩ := hg.below hbt
              have HXN := Lib.hid hxn
              have HXB := Lib.hid hxb
              have ht4 : decide ((t : Int) < 4) = true := by simp; omega
              clear hu hg hxn hxb
              go_wp2_with fail
              refine (new_any _ xs wr (HXN.out.nums (Nat.le_refl _)) HXB.out (by omega)).mono ?_
              rintro en wx ⟨Br, u5, rfl, hBr, hr, hbx⟩
              have hsx := hbx.size
              have hBrl := hr.lt
              go_wp2_with fail
              have hr2 := reader_box wx px mx cx xs 36 ((HXN.out.below hbx).mono hsx) hxl HXB.out
              have hbx2 := (hbx.alloc (by omega) (.cells #[.slice px mx cx, .int .i64 0] 36))
              have hr1 := hr.later ((Below.refl wx.heap.size wx).alloc (Nat.le_refl _) (.cells #[.slice px mx cx, .int .i64 0] 36))
              obtain ⟨Bw, hBw⟩ : ∃ Bw, wx.heap.size = Bw := ⟨_, rfl⟩
              obtain ⟨WQ, hWQ⟩ : ∃ WQ, wx.alloc (.cells #[.slice px mx cx, .int .i64 0] 36) = WQ := ⟨_, rfl⟩
              rw [hBw] at hr2 ⊢
              rw [hWQ] at hr1 hr2 hbx2 ⊢
              have hBrw : Br < Bw := by omega
              have hBrx : wr.heap.size ≤ Br := by omega
              obtain ⟨WX, hWX⟩ : ∃ WX : World, WX = wr := ⟨_, rfl⟩
              subst hWX
              have HBX := Lib.hid (HB6.out.trans (hbt.mono (by omega)))
              have HBXL := Lib.hid hbt
              have HXO := Lib.hid (own_lt HXN.out)
              clear hr hbx hWQ hu' HXN hbt
              go_loopw [19] (fun i wr => ∃ (j : Nat) (v1 v2 : Value) (bs : List Int) (e : Int), j ≤ la ∧ i = .int .i64 j ∧ IsReader wr Br v1 bs e ∧ IsReader wr Bw v2 bs e ∧ bs.length ≤ 1000 ∧ (bs.length ≠ 0 → ∀ g, v2.ownBlock = some g → g < WX.heap.size) ∧ Below WX.heap.size WX wr) (fun i _ => la - (intOf i).toNat)
              case atStart => exact ⟨0, u5, _, xs, 0, by omega, rfl, hr1, hr2, by omega, HXO.out, hbx2⟩
              case round =>
                obtain ⟨j2, v1, v2, bs, e, hj2, rfl, hrd1, hrd2, hbs, hov, hbq⟩ := hrel
                have HOV := Lib.hid hov
                clear hov
                have hsq := hbq.size
                by_cases hlt4 : j2 < la
                · have hBXN := HBX.out.trans (hbq.mono (by have := HBX.out.size; omega))
                  obtain hla0 | ⟨b3, off3, rfl, hacts⟩ := H3.out
                  · omega
                  obtain ⟨qq, mm, hqc, hmc, hm0', hm1'⟩ := hacts j2 hlt4
                  have hblk3 : b3 < N := by rw [← hN]; exact World.block_lt_of_cell? w ⟨b3, off3 + j2 * 2, none⟩ hqc
                  have hqr : wr.cell? ⟨b3, off3 + j2 * 2, none⟩ = some (.bool qq) := by rw [hBXN.cell (by show b3 < N; omega)]; exact hqc
                  have hmr : wr.cell? ⟨b3, off3 + j2 * 2 + 1, none⟩ = some (.int .u64 mm) := by rw [hBXN.cell (by show b3 < N; omega)]; exact hmc
                  have hj2la : (j2 : Int) < (la : Int) := by omega
                  have hj2l : decide ((j2 : Int) < (la : Int)) = true := by simp; omega
                  clear hacts hqc hmc
                  by_cases hj3 : j2 % 3 = 0
                  · have e3 : (j2 : Int).tmod 3 = 0 := by rw [Int.tmod_eq_emod_of_nonneg (by omega)]; omega
                    have e4 : (j2 : Int) % 3 = 0 := by omega
                    cases qq
                    · skip
                      go_wp2_with fail
                      obtain ⟨WA, hWA, hbW, hA1, hAs⟩ := act1 wr false mm 38
                      rw [hWA]
                      obtain ⟨A, hA⟩ : ∃ A, wr.heap.size = A := ⟨_, rfl⟩
                      have hABr : Br < A := by have := hrd1.lt; omega
                      have hABw : Bw < A := by have := hrd2.lt; omega
                      have HR1 := Lib.hid ((hrd1.later hbW).later ((Below.refl _ _).drew))
                      have HR2 := Lib.hid ((hrd2.later hbW).later ((Below.refl _ _).drew))
                      have hbA : Below WX.heap.size WX WA.drew := (hbq.trans (hbW.mono hsq)).drew
                      have hAs2 : A < WA.drew.heap.size := by rw [← hA]; exact hAs
                      rw [hA] at hA1 ⊢
                      have HA1 := Lib.hid (show WA.drew.cell? ⟨A, 1, none⟩ = some (.int .u64 mm) from hA1)
                      clear hWA hbW hA1 hAs hrd1 hrd2 hqr hmr
                      obtain ⟨mf, hmf⟩ : ∃ mf : Int, mf = mm := ⟨_, rfl⟩
                      rw [← hmf] at HA1
                      have hmfb : 0 ≤ mf ∧ mf ≤ 18446744073709551615 := by omega
                      obtain ⟨X, R, e1, hq⟩ : ∃ X R e1, numR bs e mf = (X, R, e1) := ⟨_, _, _, rfl⟩
                      have hlen := numR_len bs e mf
                      rw [hq] at hlen
                      have hlR : R.length ≤ bs.length := hlen
                      have HQ := Lib.hid hq
                      clear hq hlen hmf
                      refine regionK_begin (fun k => k = Br ∨ k = Bw) (by kernel_rfl) ?_
                      refine stepK_read 0 (some 175) (v := ?vr0) rfl (by rfl) (by kernel_rfl) (by kernel_rfl) (by kernel_rfl) (fun _ _ _ h => h) (by rfl) ?yr0 ?nr0
                      case yr0 => intro W hW; go_simp; try with_reducible rfl
                      try simp only [Act.put, List.setIfInBounds_toArray, List.set_cons_zero, List.set_cons_succ]
                      refine stepK_read 1 (some 176) (v := ?vr1) rfl (by rfl) (by kernel_rfl) (by kernel_rfl) (by kernel_rfl) (fun _ _ _ h => h) (by rfl) ?yr1 ?nr1
                      case yr1 => intro W hW; go_simp; try with_reducible rfl
                      try simp only [Act.put, List.setIfInBounds_toArray, List.set_cons_zero, List.set_cons_succ]
                      refine stepK_read 2 (some 177) (v := ?vr2) rfl (by rfl) (by kernel_rfl) (by kernel_rfl) (by kernel_rfl) (fun _ _ _ h => h) (by rfl) ?yr2 ?nr2
                      case yr2 => intro W hW; have hc := (hW.cell (p := ⟨A, 1, none⟩) (by show ¬ (A = Br ∨ A = Bw); omega) (by show A < _; omega)).trans HA1.out; go_simp; try with_reducible rfl
                      try simp only [Act.put, List.setIfInBounds_toArray, List.set_cons_zero, List.set_cons_succ]
                      refine stepK_read 4 (some 179) (v := ?vr4) rfl (by rfl) (by kernel_rfl) (by kernel_rfl) (by kernel_rfl) (fun _ _ _ h => h) (by rfl) ?yr4 ?nr4
                      case yr4 => intro W hW; go_simp; try with_reducible rfl
                      try simp only [Act.put, List.setIfInBounds_toArray, List.set_cons_zero, List.set_cons_succ]
                      refine stepK_read 5 (some 180) (v := ?vr5) rfl (by rfl) (by kernel_rfl) (by kernel_rfl) (by kernel_rfl) (fun _ _ _ h => h) (by rfl) ?yr5 ?nr5
                      case yr5 => intro W hW; go_simp; try with_reducible rfl
                      try simp only [Act.put, List.setIfInBounds_toArray, List.set_cons_zero, List.set_cons_succ]
                      refine stepK_read 6 (some 181) (v := ?vr6) rfl (by rfl) (by kernel_rfl) (by kernel_rfl) (by kernel_rfl) (fun _ _ _ h => h) (by rfl) ?yr6 ?nr6
                      case yr6 => intro W hW; have hc := (hW.cell (p := ⟨A, 1, none⟩) (by show ¬ (A = Br ∨ A = Bw); omega) (by show A < _; omega)).trans HA1.out; go_simp; try with_reducible rfl
                      try simp only [Act.put, List.setIfInBounds_toArray, List.set_cons_zero, List.set_cons_succ]
                      -- 3: call:18 -> 178
                      refine stepK_only 3 rfl (by kernel_rfl) (by rfl) (fun K' hK => ?_)
                      go_simp
                      go_at_call 18
                      refine (pnum_is Br _ bs e mf _ HR1.out (by omega) X R e1 HQ.out).mono ?_
                      rintro en x2 ⟨rfl, u2, hra2, hoa2⟩
                      have HR1 := Lib.hid hra2
                      have HR2 := Lib.hid (HR2.out.kept' hoa2 (by omega) (fun hn hg => by have := HOV.out hn _ hg; omega))
                      have hbA2 := hbA.trans (hoa2.below (by omega) hbA.size)
                      have hs2 := hoa2.size
                      have hA2 : x2.cell? ⟨A, 1, none⟩ = some (.int .u64 mf) := by rw [(Keep.ofGrown hoa2 (.inl rfl) : Keep (fun k => k = Br ∨ k = Bw) _ _).cell (by show ¬ (A = Br ∨ A = Bw); omega) (by show A < _; omega)]; exact HA1.out
                      have HA2 := Lib.hid hA2
                      refine hK _ _ (Keep.ofGrown hoa2 (.inl rfl)) ?_
                      clear hra2 hoa2 hA2
                      clear hK K'
                      try simp only [Act.put, List.setIfInBounds_toArray, List.set_cons_zero, List.set_cons_succ]
                      -- 7: call:19 -> 182
                      refine stepK_only 7 rfl (by kernel_rfl) (by rfl) (fun K' hK => ?_)
                      go_simp
                      go_at_call 19
                      refine (rnum_is Bw _ bs e mf _ HR2.out (by omega) X R e1 HQ.out).mono ?_
                      rintro en x6 ⟨rfl, u6, hrb6, hob6, hsb6⟩
                      have HR1 := Lib.hid (HR1.out.kept hob6 hBrw)
                      have HR2 := Lib.hid hrb6
                      have hov6 : R.length ≠ 0 → ∀ g, u6.ownBlock = some g → g < WX.heap.size := fun hn g hg => HOV.out (by omega) g (hsb6 g hg)
                      have HOV6 := Lib.hid hov6
                      have hbA6 := hbA2.trans (hob6.below (by omega) hbA2.size)
                      refine hK _ _ (Keep.ofGrown hob6 (.inr rfl)) ?_
                      clear hrb6 hob6 hsb6 hov6
                      clear hK K'
                      try simp only [Act.put, List.setIfInBounds_toArray, List.set_cons_zero, List.set_cons_succ]
                      refine stepK_read 8 (some 183) (v := ?vr8) rfl (by rfl) (by kernel_rfl) (by kernel_rfl) (by kernel_rfl) (fun _ _ _ h => h) (by rfl) ?yr8 ?nr8
                      case yr8 => intro W hW; go_simp; try with_reducible rfl
                      try simp only [Act.put, List.setIfInBounds_toArray, List.set_cons_zero, List.set_cons_succ]
                      refine wpAnyH_done (by kernel_rfl) ?_ _
                      go_wp2_with fail
                      have HR1 := Lib.hid (HR1.out.later ((Below.refl _ _).drew))
                      have HR2 := Lib.hid (HR2.out.later ((Below.refl _ _).drew))
                      have hbA8 := hbA6.drew
                      obtain ⟨pw, cw, rfl⟩ : ∃ pw cw, u6 = .slice pw R.length cw := by
                        obtain ⟨a', c', h, -⟩ := HR2.out.2.2.2.2.1
                        exact ⟨a', c', h⟩
                      refine regionK_begin (fun _ => False) (by kernel_rfl) ?_
                      refine stepK_read 0 (some 184) (v := ?vre0) rfl (by rfl) (by kernel_rfl) (by kernel_rfl) (by kernel_rfl) (fun _ _ _ h => h) (by rfl) ?yre0 ?nre0
                      case yre0 => intro W hW; go_simp; try with_reducible rfl
                      try simp only [Act.put, List.setIfInBounds_toArray, List.set_cons_zero, List.set_cons_succ]
                      refine stepK_read 2 (some 186) (v := ?vre2) rfl (by rfl) (by kernel_rfl) (by kernel_rfl) (by kernel_rfl) (fun _ _ _ h => h) (by rfl) ?yre2 ?nre2
                      case yre2 => intro W hW; go_simp; try with_reducible rfl
                      try simp only [Act.put, List.setIfInBounds_toArray, List.set_cons_zero, List.set_cons_succ]
                      refine stepK_read 3 (some 187) (v := ?vre3) rfl (by rfl) (by kernel_rfl) (by kernel_rfl) (by kernel_rfl) (fun _ _ _ h => h) (by rfl) ?yre3 ?nre3
                      case yre3 => intro W hW; go_simp; try with_reducible rfl
                      try simp only [Act.put, List.setIfInBounds_toArray, List.set_cons_zero, List.set_cons_succ]
                      refine stepK_read 4 (some 188) (v := ?vre4) rfl (by rfl) (by kernel_rfl) (by kernel_rfl) (by kernel_rfl) (fun _ _ _ h => h) (by rfl) ?yre4 ?nre4
                      case yre4 => intro W hW; go_simp; try with_reducible rfl
                      try simp only [Act.put, List.setIfInBounds_toArray, List.set_cons_zero, List.set_cons_succ]
                      refine stepK_read 5 (some 189) (v := ?vre5) rfl (by rfl) (by kernel_rfl) (by kernel_rfl) (by kernel_rfl) (fun _ _ _ h => h) (by rfl) ?yre5 ?nre5
                      case yre5 => intro W hW; have hc := (hW.cell (p := ⟨Bw, 1, none⟩) (by simp) (by show Bw < _; have := HR2.out.lt; omega)).trans HR2.out.2.1; go_simp; try with_reducible rfl
                      try simp only [Act.put, List.setIfInBounds_toArray, List.set_cons_zero, List.set_cons_succ]
                      -- 1: call:20 -> 185
                      refine stepK_only 1 rfl (by kernel_rfl) (by rfl) (fun K' hK => ?_)
                      go_simp
                      go_at_call 20
                      refine (err_any Br _ _ _ _ HR1.out).mono ?_
                      rintro en z1 ⟨rfl, rfl⟩
                      refine hK _ _ (Keep.refl _ _) ?_
                      clear hK K'
                      try simp only [Act.put, List.setIfInBounds_toArray, List.set_cons_zero, List.set_cons_succ]
                      refine stepK_read 6 (some 190) (v := ?vre6) rfl (by rfl) (by kernel_rfl) (by kernel_rfl) (by kernel_rfl) (fun _ _ _ h => h) (by rfl) ?yre6 ?nre6
                      case yre6 => intro W hW; go_simp; try with_reducible rfl
                      try simp only [Act.put, List.setIfInBounds_toArray, List.set_cons_zero, List.set_cons_succ]
                      refine stepK_read 7 (some 191) (v := ?vre7) rfl (by rfl) (by kernel_rfl) (by kernel_rfl) (by kernel_rfl) (fun _ _ _ h => h) (by rfl) ?yre7 ?nre7
                      case yre7 => intro W hW; go_simp; try with_reducible rfl
                      try simp only [Act.put, List.setIfInBounds_toArray, List.set_cons_zero, List.set_cons_succ]
                      refine stepK_read 8 (some 192) (v := ?vre8) rfl (by rfl) (by kernel_rfl) (by kernel_rfl) (by kernel_rfl) (fun _ _ _ h => h) (by rfl) ?yre8 ?nre8
                      case yre8 => intro W hW; go_simp; try with_reducible rfl
                      try simp only [Act.put, List.setIfInBounds_toArray, List.set_cons_zero, List.set_cons_succ]
                      refine stepK_read 10 (some 194) (v := ?vre10) rfl (by rfl) (by kernel_rfl) (by kernel_rfl) (by kernel_rfl) (fun _ _ _ h => h) (by rfl) ?yre10 ?nre10
                      case yre10 => intro W hW; go_simp; try with_reducible rfl
                      try simp only [Act.put, List.setIfInBounds_toArray, List.set_cons_zero, List.set_cons_succ]
                      refine stepK_read 11 (some 195) (v := ?vre11) rfl (by rfl) (by kernel_rfl) (by kernel_rfl) (by kernel_rfl) (fun _ _ _ h => h) (by rfl) ?yre11 ?nre11
                      case yre11 => intro W hW; go_simp; try with_reducible rfl
                      try simp only [Act.put, List.setIfInBounds_toArray, List.set_cons_zero, List.set_cons_succ]
                      refine stepK_read 12 (some 196) (v := ?vre12) rfl (by rfl) (by kernel_rfl) (by kernel_rfl) (by kernel_rfl) (fun _ _ _ h => h) (by rfl) ?yre12 ?nre12
                      case yre12 => intro W hW; go_simp; try with_reducible rfl
                      try simp only [Act.put, List.setIfInBounds_toArray, List.set_cons_zero, List.set_cons_succ]
                      refine stepK_read 13 (some 197) (v := ?vre13) rfl (by rfl) (by kernel_rfl) (by kernel_rfl) (by kernel_rfl) (fun _ _ _ h => h) (by rfl) ?yre13 ?nre13
                      case yre13 => intro W hW; have hc := (hW.cell (p := ⟨Bw, 0, none⟩) (by simp) (by show Bw < _; have := HR2.out.lt; omega)).trans HR2.out.1; go_simp; try with_reducible rfl
                      try simp only [Act.put, List.setIfInBounds_toArray, List.set_cons_zero, List.set_cons_succ]
                      refine stepK_read 14 (some 198) (v := ?vre14) rfl (by rfl) (by kernel_rfl) (by kernel_rfl) (by kernel_rfl) (fun _ _ _ h => h) (by rfl) ?yre14 ?nre14
                      case yre14 => intro W hW; go_simp; try with_reducible rfl
                      try simp only [Act.put, List.setIfInBounds_toArray, List.set_cons_zero, List.set_cons_succ]
                      -- 9: call:21 -> 193
                      refine stepK_only 9 rfl (by kernel_rfl) (by rfl) (fun K' hK => ?_)
                      go_simp
                      go_at_call 21
                      refine (left_any Br _ _ _ _ HR1.out).mono ?_
                      rintro en z9 ⟨rfl, rfl⟩
                      refine hK _ _ (Keep.refl _ _) ?_
                      clear hK K'
                      try simp only [Act.put, List.setIfInBounds_toArray, List.set_cons_zero, List.set_cons_succ]
                      refine stepK_read 15 (some 199) (v := ?vre15) rfl (by rfl) (by kernel_rfl) (by kernel_rfl) (by kernel_rfl) (fun _ _ _ h => h) (by rfl) ?yre15 ?nre15
                      case yre15 => intro W hW; go_simp; try with_reducible rfl
                      try simp only [Act.put, List.setIfInBounds_toArray, List.set_cons_zero, List.set_cons_succ]
                      refine stepK_read 16 (some 200) (v := ?vre16) rfl (by rfl) (by kernel_rfl) (by kernel_rfl) (by kernel_rfl) (fun _ _ _ h => h) (by rfl) ?yre16 ?nre16
                      case yre16 => intro W hW; go_simp; try with_reducible rfl
                      try simp only [Act.put, List.setIfInBounds_toArray, List.set_cons_zero, List.set_cons_succ]
                      refine wpAnyH_done (by kernel_rfl) ?_ _
                      have HLf := Lib.hid hbA8
                      clear hbA8 hbA6 hbA2 hbA
                      go_wp2_with fail
                      first
                        | exact ⟨⟨j2 + 1, _, _, R, e1, by omega, by go_num, HR1.out, HR2.out, by omega, HOV6.out, HLf.out.drew⟩, by simp [intOf]; omega⟩
                        | exact ⟨⟨j2 + 1, _, _, R, e1, by omega, by go_num, HR1.out, HR2.out, by omega, HOV6.out, HLf.out⟩, by simp [intOf]; omega⟩
                        | (go_roundw
                           case rel => exact ⟨j2 + 1, _, _, R, e1, by omega, by go_num, HR1.out, HR2.out, by omega, HOV6.out, HLf.out⟩
                           case measure => simp [intOf]; omega)
                    · skip
                      obtain ⟨m4, hm4⟩ : ∃ m4, bits .and .u64 mm 4095 = m4 := ⟨_, rfl⟩
                      have hm4b : 0 ≤ m4 ∧ m4 ≤ 4095 := by rw [← hm4]; exact and4095 _ (by omega) (by omega)
                      have hm4w : IntKind.i64.wrap m4 = m4 := by rw [IntKind.wrap_i64]; omega
                      by_cases h15 : mm / 1152921504606846976 = 15
                      · have h15b : (mm / 1152921504606846976 == 15) = true := by rw [beq_iff_eq]; exact h15
                        go_wp2_with fail
                        obtain ⟨WA, hWA, hbW, hA1, hAs⟩ := act1 wr true mm 38
                        rw [hWA]
                        obtain ⟨A, hA⟩ : ∃ A, wr.heap.size = A := ⟨_, rfl⟩
                        have hABr : Br < A := by have := hrd1.lt; omega
                        have hABw : Bw < A := by have := hrd2.lt; omega
                        have HR1 := Lib.hid ((hrd1.later hbW).later ((Below.refl _ _).drew))
                        have HR2 := Lib.hid ((hrd2.later hbW).later ((Below.refl _ _).drew))
                        have hbA : Below WX.heap.size WX WA.drew := (hbq.trans (hbW.mono hsq)).drew
                        have hAs2 : A < WA.drew.heap.size := by rw [← hA]; exact hAs
                        rw [hA] at hA1 ⊢
                        have HA1 := Lib.hid (show WA.drew.cell? ⟨A, 1, none⟩ = some (.int .u64 mm) from hA1)
                        clear hWA hbW hA1 hAs hrd1 hrd2 hqr hmr
                        obtain ⟨mv, hmv⟩ : ∃ mv : Int, mv = (-1) := ⟨_, rfl⟩
                        rw [← hmv]
                        have hmvb : -1 ≤ mv ∧ mv ≤ 4095 := by omega
                        obtain ⟨S, R, e1, hq⟩ : ∃ S R e1, lumpR bs e mv = (S, R, e1) := ⟨_, _, _, rfl⟩
                        have hlen := lumpR_len bs e mv
                        rw [hq] at hlen
                        have hlR : R.length ≤ bs.length := hlen.1
                        have HQ := Lib.hid hq
                        clear hq hlen hmv
                        refine regionK_begin (fun k => k = Br ∨ k = Bw) (by kernel_rfl) ?_
                        refine stepK_read 0 (some 166) (v := ?vsp0) rfl (by rfl) (by kernel_rfl) (by kernel_rfl) (by kernel_rfl) (fun _ _ _ h => h) (by rfl) ?ysp0 ?nsp0
                        case ysp0 => intro W hW; go_simp; try with_reducible rfl
                        try simp only [Act.put, List.setIfInBounds_toArray, List.set_cons_zero, List.set_cons_succ]
                        refine stepK_read 1 (some 167) (v := ?vsp1) rfl (by rfl) (by kernel_rfl) (by kernel_rfl) (by kernel_rfl) (fun _ _ _ h => h) (by rfl) ?ysp1 ?nsp1
                        case ysp1 => intro W hW; go_simp; try with_reducible rfl
                        try simp only [Act.put, List.setIfInBounds_toArray, List.set_cons_zero, List.set_cons_succ]
                        refine stepK_read 4 (some 170) (v := ?vsp4) rfl (by rfl) (by kernel_rfl) (by kernel_rfl) (by kernel_rfl) (fun _ _ _ h => h) (by rfl) ?ysp4 ?nsp4
                        case ysp4 => intro W hW; go_simp; try with_reducible rfl
                        try simp only [Act.put, List.setIfInBounds_toArray, List.set_cons_zero, List.set_cons_succ]
                        refine stepK_read 5 (some 171) (v := ?vsp5) rfl (by rfl) (by kernel_rfl) (by kernel_rfl) (by kernel_rfl) (fun _ _ _ h => h) (by rfl) ?ysp5 ?nsp5
                        case ysp5 => intro W hW; go_simp; try with_reducible rfl
                        try simp only [Act.put, List.setIfInBounds_toArray, List.set_cons_zero, List.set_cons_succ]
                        -- 2: call:16 -> 168
                        refine stepK_only 2 rfl (by kernel_rfl) (by rfl) (fun K' hK => ?_)
                        go_simp
                        go_at_call 16
                        refine (rlump_own Br _ bs e mv _ HR1.out (by omega) (by omega) (by omega) S R e1 HQ.out).mono ?_
                        rintro en x2 ⟨p2, c2, rfl, hown2, u2, hra2, hoa2⟩
                        have HR1 := Lib.hid hra2
                        have HR2 := Lib.hid (HR2.out.kept' hoa2 (by omega) (fun hn hg => by have := HOV.out hn _ hg; omega))
                        have HW2 := Lib.hid hown2
                        have hbA2 := hbA.trans (hoa2.below (by omega) hbA.size)
                        have hs2 := hoa2.size
                        refine hK _ _ (Keep.ofGrown hoa2 (.inl rfl)) ?_
                        clear hra2 hown2 hoa2
                        clear hK K'
                        try simp only [Act.put, List.setIfInBounds_toArray, List.set_cons_zero, List.set_cons_succ]
                        refine stepK_read 3 (some 169) (v := ?vsp3) rfl (by rfl) (by kernel_rfl) (by kernel_rfl) (by kernel_rfl) (fun _ _ _ h => h) (by rfl) ?ysp3 ?nsp3
                        case ysp3 => intro W hW; have ec := conv_at (IsNums.ofOwn (own_keep HW2.out hW (fun g hg => by rcases hg with rfl | rfl <;> omega))) (Below.refl _ W); go_simp; try with_reducible rfl
                        try simp only [Act.put, List.setIfInBounds_toArray, List.set_cons_zero, List.set_cons_succ]
                        -- 6: call:17 -> 172
                        refine stepK_only 6 rfl (by kernel_rfl) (by rfl) (fun K' hK => ?_)
                        go_simp
                        go_at_call 17
                        refine (rrlump_is Bw _ bs e mv _ HR2.out (by omega) (by omega) (by omega) S R e1 HQ.out).mono ?_
                        rintro en x6 ⟨p6, c6, rfl, hn6, u6, hrb6, hob6, hsb6⟩
                        have HR1 := Lib.hid (HR1.out.kept hob6 hBrw)
                        have HR2 := Lib.hid hrb6
                        have hov6 : R.length ≠ 0 → ∀ g, u6.ownBlock = some g → g < WX.heap.size := fun hn g hg => HOV.out (by omega) g (hsb6 g hg)
                        have HOV6 := Lib.hid hov6
                        have hbA6 := hbA2.trans (hob6.below (by omega) hbA2.size)
                        have K6 := Lib.hid (hn6.nums (by have := HR2.out.lt; omega))
                        refine hK _ _ (Keep.ofGrown hob6 (.inr rfl)) ?_
                        clear hrb6 hob6 hsb6 hov6 hn6
                        clear hK K'
                        try simp only [Act.put, List.setIfInBounds_toArray, List.set_cons_zero, List.set_cons_succ]
                        -- 7: convert -> 173
                        refine stepK_only 7 rfl (by kernel_rfl) (by rfl) (fun K' hK => ?_)
                        have ec := conv_at K6.out (Below.refl _ _)
                        go_simp
                        refine hK _ _ (Keep.refl _ _) ?_
                        clear ec
                        clear hK K'
                        try simp only [Act.put, List.setIfInBounds_toArray, List.set_cons_zero, List.set_cons_succ]
                        refine stepK_read 8 (some 174) (v := ?vsp8) rfl (by rfl) (by kernel_rfl) (by kernel_rfl) (by kernel_rfl) (fun _ _ _ h => h) (by rfl) ?ysp8 ?nsp8
                        case ysp8 => intro W hW; go_simp; try with_reducible rfl
                        try simp only [Act.put, List.setIfInBounds_toArray, List.set_cons_zero, List.set_cons_succ]
                        refine wpAnyH_done (by kernel_rfl) ?_ _
                        go_wp2_with fail
                        have HR1 := Lib.hid (HR1.out.later ((Below.refl _ _).drew))
                        have HR2 := Lib.hid (HR2.out.later ((Below.refl _ _).drew))
                        have hbA8 := hbA6.drew
                        obtain ⟨pw, cw, rfl⟩ : ∃ pw cw, u6 = .slice pw R.length cw := by
                          obtain ⟨a', c', h, -⟩ := HR2.out.2.2.2.2.1
                          exact ⟨a', c', h⟩
                        refine regionK_begin (fun _ => False) (by kernel_rfl) ?_
                        refine stepK_read 0 (some 184) (v := ?vspe0) rfl (by rfl) (by kernel_rfl) (by kernel_rfl) (by kernel_rfl) (fun _ _ _ h => h) (by rfl) ?yspe0 ?nspe0
                        case yspe0 => intro W hW; go_simp; try with_reducible rfl
                        try simp only [Act.put, List.setIfInBounds_toArray, List.set_cons_zero, List.set_cons_succ]
                        refine stepK_read 2 (some 186) (v := ?vspe2) rfl (by rfl) (by kernel_rfl) (by kernel_rfl) (by kernel_rfl) (fun _ _ _ h => h) (by rfl) ?yspe2 ?nspe2
                        case yspe2 => intro W hW; go_simp; try with_reducible rfl
                        try simp only [Act.put, List.setIfInBounds_toArray, List.set_cons_zero, List.set_cons_succ]
                        refine stepK_read 3 (some 187) (v := ?vspe3) rfl (by rfl) (by kernel_rfl) (by kernel_rfl) (by kernel_rfl) (fun _ _ _ h => h) (by rfl) ?yspe3 ?nspe3
                        case yspe3 => intro W hW; go_simp; try with_reducible rfl
                        try simp only [Act.put, List.setIfInBounds_toArray, List.set_cons_zero, List.set_cons_succ]
                        refine stepK_read 4 (some 188) (v := ?vspe4) rfl (by rfl) (by kernel_rfl) (by kernel_rfl) (by kernel_rfl) (fun _ _ _ h => h) (by rfl) ?yspe4 ?nspe4
                        case yspe4 => intro W hW; go_simp; try with_reducible rfl
                        try simp only [Act.put, List.setIfInBounds_toArray, List.set_cons_zero, List.set_cons_succ]
                        refine stepK_read 5 (some 189) (v := ?vspe5) rfl (by rfl) (by kernel_rfl) (by kernel_rfl) (by kernel_rfl) (fun _ _ _ h => h) (by rfl) ?yspe5 ?nspe5
                        case yspe5 => intro W hW; have hc := (hW.cell (p := ⟨Bw, 1, none⟩) (by simp) (by show Bw < _; have := HR2.out.lt; omega)).trans HR2.out.2.1; go_simp; try with_reducible rfl
                        try simp only [Act.put, List.setIfInBounds_toArray, List.set_cons_zero, List.set_cons_succ]
                        -- 1: call:20 -> 185
                        refine stepK_only 1 rfl (by kernel_rfl) (by rfl) (fun K' hK => ?_)
                        go_simp
                        go_at_call 20
                        refine (err_any Br _ _ _ _ HR1.out).mono ?_
                        rintro en z1 ⟨rfl, rfl⟩
                        refine hK _ _ (Keep.refl _ _) ?_
                        clear hK K'
                        try simp only [Act.put, List.setIfInBounds_toArray, List.set_cons_zero, List.set_cons_succ]
                        refine stepK_read 6 (some 190) (v := ?vspe6) rfl (by rfl) (by kernel_rfl) (by kernel_rfl) (by kernel_rfl) (fun _ _ _ h => h) (by rfl) ?yspe6 ?nspe6
                        case yspe6 => intro W hW; go_simp; try with_reducible rfl
                        try simp only [Act.put, List.setIfInBounds_toArray, List.set_cons_zero, List.set_cons_succ]
                        refine stepK_read 7 (some 191) (v := ?vspe7) rfl (by rfl) (by kernel_rfl) (by kernel_rfl) (by kernel_rfl) (fun _ _ _ h => h) (by rfl) ?yspe7 ?nspe7
                        case yspe7 => intro W hW; go_simp; try with_reducible rfl
                        try simp only [Act.put, List.setIfInBounds_toArray, List.set_cons_zero, List.set_cons_succ]
                        refine stepK_read 8 (some 192) (v := ?vspe8) rfl (by rfl) (by kernel_rfl) (by kernel_rfl) (by kernel_rfl) (fun _ _ _ h => h) (by rfl) ?yspe8 ?nspe8
                        case yspe8 => intro W hW; go_simp; try with_reducible rfl
                        try simp only [Act.put, List.setIfInBounds_toArray, List.set_cons_zero, List.set_cons_succ]
                        refine stepK_read 10 (some 194) (v := ?vspe10) rfl (by rfl) (by kernel_rfl) (by kernel_rfl) (by kernel_rfl) (fun _ _ _ h => h) (by rfl) ?yspe10 ?nspe10
                        case yspe10 => intro W hW; go_simp; try with_reducible rfl
                        try simp only [Act.put, List.setIfInBounds_toArray, List.set_cons_zero, List.set_cons_succ]
                        refine stepK_read 11 (some 195) (v := ?vspe11) rfl (by rfl) (by kernel_rfl) (by kernel_rfl) (by kernel_rfl) (fun _ _ _ h => h) (by rfl) ?yspe11 ?nspe11
                        case yspe11 => intro W hW; go_simp; try with_reducible rfl
                        try simp only [Act.put, List.setIfInBounds_toArray, List.set_cons_zero, List.set_cons_succ]
                        refine stepK_read 12 (some 196) (v := ?vspe12) rfl (by rfl) (by kernel_rfl) (by kernel_rfl) (by kernel_rfl) (fun _ _ _ h => h) (by rfl) ?yspe12 ?nspe12
                        case yspe12 => intro W hW; go_simp; try with_reducible rfl
                        try simp only [Act.put, List.setIfInBounds_toArray, List.set_cons_zero, List.set_cons_succ]
                        refine stepK_read 13 (some 197) (v := ?vspe13) rfl (by rfl) (by kernel_rfl) (by kernel_rfl) (by kernel_rfl) (fun _ _ _ h => h) (by rfl) ?yspe13 ?nspe13
                        case yspe13 => intro W hW; have hc := (hW.cell (p := ⟨Bw, 0, none⟩) (by simp) (by show Bw < _; have := HR2.out.lt; omega)).trans HR2.out.1; go_simp; try with_reducible rfl
                        try simp only [Act.put, List.setIfInBounds_toArray, List.set_cons_zero, List.set_cons_succ]
                        refine stepK_read 14 (some 198) (v := ?vspe14) rfl (by rfl) (by kernel_rfl) (by kernel_rfl) (by kernel_rfl) (fun _ _ _ h => h) (by rfl) ?yspe14 ?nspe14
                        case yspe14 => intro W hW; go_simp; try with_reducible rfl
                        try simp only [Act.put, List.setIfInBounds_toArray, List.set_cons_zero, List.set_cons_succ]
                        -- 9: call:21 -> 193
                        refine stepK_only 9 rfl (by kernel_rfl) (by rfl) (fun K' hK => ?_)
                        go_simp
                        go_at_call 21
                        refine (left_any Br _ _ _ _ HR1.out).mono ?_
                        rintro en z9 ⟨rfl, rfl⟩
                        refine hK _ _ (Keep.refl _ _) ?_
                        clear hK K'
                        try simp only [Act.put, List.setIfInBounds_toArray, List.set_cons_zero, List.set_cons_succ]
                        refine stepK_read 15 (some 199) (v := ?vspe15) rfl (by rfl) (by kernel_rfl) (by kernel_rfl) (by kernel_rfl) (fun _ _ _ h => h) (by rfl) ?yspe15 ?nspe15
                        case yspe15 => intro W hW; go_simp; try with_reducible rfl
                        try simp only [Act.put, List.setIfInBounds_toArray, List.set_cons_zero, List.set_cons_succ]
                        refine stepK_read 16 (some 200) (v := ?vspe16) rfl (by rfl) (by kernel_rfl) (by kernel_rfl) (by kernel_rfl) (fun _ _ _ h => h) (by rfl) ?yspe16 ?nspe16
                        case yspe16 => intro W hW; go_simp; try with_reducible rfl
                        try simp only [Act.put, List.setIfInBounds_toArray, List.set_cons_zero, List.set_cons_succ]
                        refine wpAnyH_done (by kernel_rfl) ?_ _
                        have HLf := Lib.hid hbA8
                        clear hbA8 hbA6 hbA2 hbA
                        go_wp2_with fail
                        first
                          | exact ⟨⟨j2 + 1, _, _, R, e1, by omega, by go_num, HR1.out, HR2.out, by omega, HOV6.out, HLf.out.drew⟩, by simp [intOf]; omega⟩
                          | exact ⟨⟨j2 + 1, _, _, R, e1, by omega, by go_num, HR1.out, HR2.out, by omega, HOV6.out, HLf.out⟩, by simp [intOf]; omega⟩
                          | (go_roundw
                             case rel => exact ⟨j2 + 1, _, _, R, e1, by omega, by go_num, HR1.out, HR2.out, by omega, HOV6.out, HLf.out⟩
                             case measure => simp [intOf]; omega)
                      · have h15b : (mm / 1152921504606846976 == 15) = false := by rw [beq_eq_false_iff_ne]; exact h15
                        go_wp2_with fail
                        obtain ⟨WA, hWA, hbW, hA1, hAs⟩ := act1 wr true mm 38
                        rw [hWA]
                        obtain ⟨A, hA⟩ : ∃ A, wr.heap.size = A := ⟨_, rfl⟩
                        have hABr : Br < A := by have := hrd1.lt; omega
                        have hABw : Bw < A := by have := hrd2.lt; omega
                        have HR1 := Lib.hid ((hrd1.later hbW).later ((Below.refl _ _).drew))
                        have HR2 := Lib.hid ((hrd2.later hbW).later ((Below.refl _ _).drew))
                        have hbA : Below WX.heap.size WX WA.drew := (hbq.trans (hbW.mono hsq)).drew
                        have hAs2 : A < WA.drew.heap.size := by rw [← hA]; exact hAs
                        rw [hA] at hA1 ⊢
                        have HA1 := Lib.hid (show WA.drew.cell? ⟨A, 1, none⟩ = some (.int .u64 mm) from hA1)
                        clear hWA hbW hA1 hAs hrd1 hrd2 hqr hmr
                        obtain ⟨mv, hmv⟩ : ∃ mv : Int, mv = m4 := ⟨_, rfl⟩
                        rw [← hmv]
                        have hmvb : -1 ≤ mv ∧ mv ≤ 4095 := by omega
                        obtain ⟨S, R, e1, hq⟩ : ∃ S R e1, lumpR bs e mv = (S, R, e1) := ⟨_, _, _, rfl⟩
                        have hlen := lumpR_len bs e mv
                        rw [hq] at hlen
                        have hlR : R.length ≤ bs.length := hlen.1
                        have HQ := Lib.hid hq
                        clear hq hlen hmv
                        refine regionK_begin (fun k => k = Br ∨ k = Bw) (by kernel_rfl) ?_
                        refine stepK_read 0 (some 166) (v := ?vsq0) rfl (by rfl) (by kernel_rfl) (by kernel_rfl) (by kernel_rfl) (fun _ _ _ h => h) (by rfl) ?ysq0 ?nsq0
                        case ysq0 => intro W hW; go_simp; try with_reducible rfl
                        try simp only [Act.put, List.setIfInBounds_toArray, List.set_cons_zero, List.set_cons_succ]
                        refine stepK_read 1 (some 167) (v := ?vsq1) rfl (by rfl) (by kernel_rfl) (by kernel_rfl) (by kernel_rfl) (fun _ _ _ h => h) (by rfl) ?ysq1 ?nsq1
                        case ysq1 => intro W hW; go_simp; try with_reducible rfl
                        try simp only [Act.put, List.setIfInBounds_toArray, List.set_cons_zero, List.set_cons_succ]
                        refine stepK_read 4 (some 170) (v := ?vsq4) rfl (by rfl) (by kernel_rfl) (by kernel_rfl) (by kernel_rfl) (fun _ _ _ h => h) (by rfl) ?ysq4 ?nsq4
                        case ysq4 => intro W hW; go_simp; try with_reducible rfl
                        try simp only [Act.put, List.setIfInBounds_toArray, List.set_cons_zero, List.set_cons_succ]
                        refine stepK_read 5 (some 171) (v := ?vsq5) rfl (by rfl) (by kernel_rfl) (by kernel_rfl) (by kernel_rfl) (fun _ _ _ h => h) (by rfl) ?ysq5 ?nsq5
                        case ysq5 => intro W hW; go_simp; try with_reducible rfl
                        try simp only [Act.put, List.setIfInBounds_toArray, List.set_cons_zero, List.set_cons_succ]
                        -- 2: call:16 -> 168
                        refine stepK_only 2 rfl (by kernel_rfl) (by rfl) (fun K' hK => ?_)
                        go_simp
                        go_at_call 16
                        refine (rlump_own Br _ bs e mv _ HR1.out (by omega) (by omega) (by omega) S R e1 HQ.out).mono ?_
                        rintro en x2 ⟨p2, c2, rfl, hown2, u2, hra2, hoa2⟩
                        have HR1 := Lib.hid hra2
                        have HR2 := Lib.hid (HR2.out.kept' hoa2 (by omega) (fun hn hg => by have := HOV.out hn _ hg; omega))
                        have HW2 := Lib.hid hown2
                        have hbA2 := hbA.trans (hoa2.below (by omega) hbA.size)
                        have hs2 := hoa2.size
                        refine hK _ _ (Keep.ofGrown hoa2 (.inl rfl)) ?_
                        clear hra2 hown2 hoa2
                        clear hK K'
                        try simp only [Act.put, List.setIfInBounds_toArray, List.set_cons_zero, List.set_cons_succ]
                        refine stepK_read 3 (some 169) (v := ?vsq3) rfl (by rfl) (by kernel_rfl) (by kernel_rfl) (by kernel_rfl) (fun _ _ _ h => h) (by rfl) ?ysq3 ?nsq3
                        case ysq3 => intro W hW; have ec := conv_at (IsNums.ofOwn (own_keep HW2.out hW (fun g hg => by rcases hg with rfl | rfl <;> omega))) (Below.refl _ W); go_simp; try with_reducible rfl
                        try simp only [Act.put, List.setIfInBounds_toArray, List.set_cons_zero, List.set_cons_succ]
                        -- 6: call:17 -> 172
                        refine stepK_only 6 rfl (by kernel_rfl) (by rfl) (fun K' hK => ?_)
                        go_simp
                        go_at_call 17
                        refine (rrlump_is Bw _ bs e mv _ HR2.out (by omega) (by omega) (by omega) S R e1 HQ.out).mono ?_
                        rintro en x6 ⟨p6, c6, rfl, hn6, u6, hrb6, hob6, hsb6⟩
                        have HR1 := Lib.hid (HR1.out.kept hob6 hBrw)
                        have HR2 := Lib.hid hrb6
                        have hov6 : R.length ≠ 0 → ∀ g, u6.ownBlock = some g → g < WX.heap.size := fun hn g hg => HOV.out (by omega) g (hsb6 g hg)
                        have HOV6 := Lib.hid hov6
                        have hbA6 := hbA2.trans (hob6.below (by omega) hbA2.size)
                        have K6 := Lib.hid (hn6.nums (by have := HR2.out.lt; omega))
                        refine hK _ _ (Keep.ofGrown hob6 (.inr rfl)) ?_
                        clear hrb6 hob6 hsb6 hov6 hn6
                        clear hK K'
                        try simp only [Act.put, List.setIfInBounds_toArray, List.set_cons_zero, List.set_cons_succ]
                        -- 7: convert -> 173
                        refine stepK_only 7 rfl (by kernel_rfl) (by rfl) (fun K' hK => ?_)
                        have ec := conv_at K6.out (Below.refl _ _)
                        go_simp
                        refine hK _ _ (Keep.refl _ _) ?_
                        clear ec
                        clear hK K'
                        try simp only [Act.put, List.setIfInBounds_toArray, List.set_cons_zero, List.set_cons_succ]
                        refine stepK_read 8 (some 174) (v := ?vsq8) rfl (by rfl) (by kernel_rfl) (by kernel_rfl) (by kernel_rfl) (fun _ _ _ h => h) (by rfl) ?ysq8 ?nsq8
                        case ysq8 => intro W hW; go_simp; try with_reducible rfl
                        try simp only [Act.put, List.setIfInBounds_toArray, List.set_cons_zero, List.set_cons_succ]
                        refine wpAnyH_done (by kernel_rfl) ?_ _
                        go_wp2_with fail
                        have HR1 := Lib.hid (HR1.out.later ((Below.refl _ _).drew))
                        have HR2 := Lib.hid (HR2.out.later ((Below.refl _ _).drew))
                        have hbA8 := hbA6.drew
                        obtain ⟨pw, cw, rfl⟩ : ∃ pw cw, u6 = .slice pw R.length cw := by
                          obtain ⟨a', c', h, -⟩ := HR2.out.2.2.2.2.1
                          exact ⟨a', c', h⟩
                        refine regionK_begin (fun _ => False) (by kernel_rfl) ?_
                        refine stepK_read 0 (some 184) (v := ?vsqe0) rfl (by rfl) (by kernel_rfl) (by kernel_rfl) (by kernel_rfl) (fun _ _ _ h => h) (by rfl) ?ysqe0 ?nsqe0
                        case ysqe0 => intro W hW; go_simp; try with_reducible rfl
                        try simp only [Act.put, List.setIfInBounds_toArray, List.set_cons_zero, List.set_cons_succ]
                        refine stepK_read 2 (some 186) (v := ?vsqe2) rfl (by rfl) (by kernel_rfl) (by kernel_rfl) (by kernel_rfl) (fun _ _ _ h => h) (by rfl) ?ysqe2 ?nsqe2
                        case ysqe2 => intro W hW; go_simp; try with_reducible rfl
                        try simp only [Act.put, List.setIfInBounds_toArray, List.set_cons_zero, List.set_cons_succ]
                        refine stepK_read 3 (some 187) (v := ?vsqe3) rfl (by rfl) (by kernel_rfl) (by kernel_rfl) (by kernel_rfl) (fun _ _ _ h => h) (by rfl) ?ysqe3 ?nsqe3
                        case ysqe3 => intro W hW; go_simp; try with_reducible rfl
                        try simp only [Act.put, List.setIfInBounds_toArray, List.set_cons_zero, List.set_cons_succ]
                        refine stepK_read 4 (some 188) (v := ?vsqe4) rfl (by rfl) (by kernel_rfl) (by kernel_rfl) (by kernel_rfl) (fun _ _ _ h => h) (by rfl) ?ysqe4 ?nsqe4
                        case ysqe4 => intro W hW; go_simp; try with_reducible rfl
                        try simp only [Act.put, List.setIfInBounds_toArray, List.set_cons_zero, List.set_cons_succ]
                        refine stepK_read 5 (some 189) (v := ?vsqe5) rfl (by rfl) (by kernel_rfl) (by kernel_rfl) (by kernel_rfl) (fun _ _ _ h => h) (by rfl) ?ysqe5 ?nsqe5
                        case ysqe5 => intro W hW; have hc := (hW.cell (p := ⟨Bw, 1, none⟩) (by simp) (by show Bw < _; have := HR2.out.lt; omega)).trans HR2.out.2.1; go_simp; try with_reducible rfl
                        try simp only [Act.put, List.setIfInBounds_toArray, List.set_cons_zero, List.set_cons_succ]
                        -- 1: call:20 -> 185
                        refine stepK_only 1 rfl (by kernel_rfl) (by rfl) (fun K' hK => ?_)
                        go_simp
                        go_at_call 20
                        refine (err_any Br _ _ _ _ HR1.out).mono ?_
                        rintro en z1 ⟨rfl, rfl⟩
                        refine hK _ _ (Keep.refl _ _) ?_
                        clear hK K'
                        try simp only [Act.put, List.setIfInBounds_toArray, List.set_cons_zero, List.set_cons_succ]
                        refine stepK_read 6 (some 190) (v := ?vsqe6) rfl (by rfl) (by kernel_rfl) (by kernel_rfl) (by kernel_rfl) (fun _ _ _ h => h) (by rfl) ?ysqe6 ?nsqe6
                        case ysqe6 => intro W hW; go_simp; try with_reducible rfl
                        try simp only [Act.put, List.setIfInBounds_toArray, List.set_cons_zero, List.set_cons_succ]
                        refine stepK_read 7 (some 191) (v := ?vsqe7) rfl (by rfl) (by kernel_rfl) (by kernel_rfl) (by kernel_rfl) (fun _ _ _ h => h) (by rfl) ?ysqe7 ?nsqe7
                        case ysqe7 => intro W hW; go_simp; try with_reducible rfl
                        try simp only [Act.put, List.setIfInBounds_toArray, List.set_cons_zero, List.set_cons_succ]
                        refine stepK_read 8 (some 192) (v := ?vsqe8) rfl (by rfl) (by kernel_rfl) (by kernel_rfl) (by kernel_rfl) (fun _ _ _ h => h) (by rfl) ?ysqe8 ?nsqe8
                        case ysqe8 => intro W hW; go_simp; try with_reducible rfl
                        try simp only [Act.put, List.setIfInBounds_toArray, List.set_cons_zero, List.set_cons_succ]
                        refine stepK_read 10 (some 194) (v := ?vsqe10) rfl (by rfl) (by kernel_rfl) (by kernel_rfl) (by kernel_rfl) (fun _ _ _ h => h) (by rfl) ?ysqe10 ?nsqe10
                        case ysqe10 => intro W hW; go_simp; try with_reducible rfl
                        try simp only [Act.put, List.setIfInBounds_toArray, List.set_cons_zero, List.set_cons_succ]
                        refine stepK_read 11 (some 195) (v := ?vsqe11) rfl (by rfl) (by kernel_rfl) (by kernel_rfl) (by kernel_rfl) (fun _ _ _ h => h) (by rfl) ?ysqe11 ?nsqe11
                        case ysqe11 => intro W hW; go_simp; try with_reducible rfl
                        try simp only [Act.put, List.setIfInBounds_toArray, List.set_cons_zero, List.set_cons_succ]
                        refine stepK_read 12 (some 196) (v := ?vsqe12) rfl (by rfl) (by kernel_rfl) (by kernel_rfl) (by kernel_rfl) (fun _ _ _ h => h) (by rfl) ?ysqe12 ?nsqe12
                        case ysqe12 => intro W hW; go_simp; try with_reducible rfl
                        try simp only [Act.put, List.setIfInBounds_toArray, List.set_cons_zero, List.set_cons_succ]
                        refine stepK_read 13 (some 197) (v := ?vsqe13) rfl (by rfl) (by kernel_rfl) (by kernel_rfl) (by kernel_rfl) (fun _ _ _ h => h) (by rfl) ?ysqe13 ?nsqe13
                        case ysqe13 => intro W hW; have hc := (hW.cell (p := ⟨Bw, 0, none⟩) (by simp) (by show Bw < _; have := HR2.out.lt; omega)).trans HR2.out.1; go_simp; try with_reducible rfl
                        try simp only [Act.put, List.setIfInBounds_toArray, List.set_cons_zero, List.set_cons_succ]
                        refine stepK_read 14 (some 198) (v := ?vsqe14) rfl (by rfl) (by kernel_rfl) (by kernel_rfl) (by kernel_rfl) (fun _ _ _ h => h) (by rfl) ?ysqe14 ?nsqe14
                        case ysqe14 => intro W hW; go_simp; try with_reducible rfl
                        try simp only [Act.put, List.setIfInBounds_toArray, List.set_cons_zero, List.set_cons_succ]
                        -- 9: call:21 -> 193
                        refine stepK_only 9 rfl (by kernel_rfl) (by rfl) (fun K' hK => ?_)
                        go_simp
                        go_at_call 21
                        refine (left_any Br _ _ _ _ HR1.out).mono ?_
                        rintro en z9 ⟨rfl, rfl⟩
                        refine hK _ _ (Keep.refl _ _) ?_
                        clear hK K'
                        try simp only [Act.put, List.setIfInBounds_toArray, List.set_cons_zero, List.set_cons_succ]
                        refine stepK_read 15 (some 199) (v := ?vsqe15) rfl (by rfl) (by kernel_rfl) (by kernel_rfl) (by kernel_rfl) (fun _ _ _ h => h) (by rfl) ?ysqe15 ?nsqe15
                        case ysqe15 => intro W hW; go_simp; try with_reducible rfl
                        try simp only [Act.put, List.setIfInBounds_toArray, List.set_cons_zero, List.set_cons_succ]
                        refine stepK_read 16 (some 200) (v := ?vsqe16) rfl (by rfl) (by kernel_rfl) (by kernel_rfl) (by kernel_rfl) (fun _ _ _ h => h) (by rfl) ?ysqe16 ?nsqe16
                        case ysqe16 => intro W hW; go_simp; try with_reducible rfl
                        try simp only [Act.put, List.setIfInBounds_toArray, List.set_cons_zero, List.set_cons_succ]
                        refine wpAnyH_done (by kernel_rfl) ?_ _
                        have HLf := Lib.hid hbA8
                        clear hbA8 hbA6 hbA2 hbA
                        go_wp2_with fail
                        first
                          | exact ⟨⟨j2 + 1, _, _, R, e1, by omega, by go_num, HR1.out, HR2.out, by omega, HOV6.out, HLf.out.drew⟩, by simp [intOf]; omega⟩
                          | exact ⟨⟨j2 + 1, _, _, R, e1, by omega, by go_num, HR1.out, HR2.out, by omega, HOV6.out, HLf.out⟩, by simp [intOf]; omega⟩
                          | (go_roundw
                             case rel => exact ⟨j2 + 1, _, _, R, e1, by omega, by go_num, HR1.out, HR2.out, by omega, HOV6.out, HLf.out⟩
                             case measure => simp [intOf]; omega)
                  · have e3 : (j2 : Int).tmod 3 = ((j2 % 3 : Nat) : Int) := by rw [Int.tmod_eq_emod_of_nonneg (by omega)]; omega
                    have e4 : (0 : Int) < ((j2 % 3 : Nat) : Int) := by omega
                    obtain ⟨Q3, hQ3⟩ : ∃ Q3 : Nat, mm % 3 = (Q3 : Int) := ⟨(mm % 3).toNat, by omega⟩
                    have hQ33 : Q3 < 3 := by omega
                    obtain ⟨m3, hm3, hm3b, hm3c⟩ := lit3 wr Q3 hQ33
                    have cl3 := hm3 qq mm 38 30
                    clear hm3
                    have hQ3a : (0 : Int) ≤ (Q3 : Int) := by omega
                    have hQ3b : (Q3 : Int) < 3 := by omega
                    cases qq
                    · skip
                      go_wp2_with fail
                      obtain ⟨WA, hWA, hbW, hA1, hAs⟩ := act2 wr false m3 38 30 #[.int .u64 31, .int .u64 18446744073709551615, .int .u64 127]
                      rw [hWA]
                      obtain ⟨A, hA⟩ : ∃ A, wr.heap.size = A := ⟨_, rfl⟩
                      have hABr : Br < A := by have := hrd1.lt; omega
                      have hABw : Bw < A := by have := hrd2.lt; omega
                      have HR1 := Lib.hid ((hrd1.later hbW).later ((Below.refl _ _).drew))
                      have HR2 := Lib.hid ((hrd2.later hbW).later ((Below.refl _ _).drew))
                      have hbA : Below WX.heap.size WX WA.drew := (hbq.trans (hbW.mono hsq)).drew
                      have hAs2 : A < WA.drew.heap.size := by rw [← hA]; exact hAs
                      rw [hA] at hA1 ⊢
                      have HA1 := Lib.hid (show WA.drew.cell? ⟨A, 1, none⟩ = some (.int .u64 m3) from hA1)
                      clear hWA hbW hA1 hAs hrd1 hrd2 hqr hmr
                      obtain ⟨mf, hmf⟩ : ∃ mf : Int, mf = m3 := ⟨_, rfl⟩
                      rw [← hmf] at HA1
                      have hmfb : 0 ≤ mf ∧ mf ≤ 18446744073709551615 := by omega
                      obtain ⟨X, R, e1, hq⟩ : ∃ X R e1, numR bs e mf = (X, R, e1) := ⟨_, _, _, rfl⟩
                      have hlen := numR_len bs e mf
                      rw [hq] at hlen
                      have hlR : R.length ≤ bs.length := hlen
                      have HQ := Lib.hid hq
                      clear hq hlen hmf
                      refine regionK_begin (fun k => k = Br ∨ k = Bw) (by kernel_rfl) ?_
                      refine stepK_read 0 (some 175) (v := ?vu0) rfl (by rfl) (by kernel_rfl) (by kernel_rfl) (by kernel_rfl) (fun _ _ _ h => h) (by rfl) ?yu0 ?nu0
                      case yu0 => intro W hW; go_simp; try with_reducible rfl
                      try simp only [Act.put, List.setIfInBounds_toArray, List.set_cons_zero, List.set_cons_succ]
                      refine stepK_read 1 (some 176) (v := ?vu1) rfl (by rfl) (by kernel_rfl) (by kernel_rfl) (by kernel_rfl) (fun _ _ _ h => h) (by rfl) ?yu1 ?nu1
                      case yu1 => intro W hW; go_simp; try with_reducible rfl
                      try simp only [Act.put, List.setIfInBounds_toArray, List.set_cons_zero, List.set_cons_succ]
                      refine stepK_read 2 (some 177) (v := ?vu2) rfl (by rfl) (by kernel_rfl) (by kernel_rfl) (by kernel_rfl) (fun _ _ _ h => h) (by rfl) ?yu2 ?nu2
                      case yu2 => intro W hW; have hc := (hW.cell (p := ⟨A, 1, none⟩) (by show ¬ (A = Br ∨ A = Bw); omega) (by show A < _; omega)).trans HA1.out; go_simp; try with_reducible rfl
                      try simp only [Act.put, List.setIfInBounds_toArray, List.set_cons_zero, List.set_cons_succ]
                      refine stepK_read 4 (some 179) (v := ?vu4) rfl (by rfl) (by kernel_rfl) (by kernel_rfl) (by kernel_rfl) (fun _ _ _ h => h) (by rfl) ?yu4 ?nu4
                      case yu4 => intro W hW; go_simp; try with_reducible rfl
                      try simp only [Act.put, List.setIfInBounds_toArray, List.set_cons_zero, List.set_cons_succ]
                      refine stepK_read 5 (some 180) (v := ?vu5) rfl (by rfl) (by kernel_rfl) (by kernel_rfl) (by kernel_rfl) (fun _ _ _ h => h) (by rfl) ?yu5 ?nu5
                      case yu5 => intro W hW; go_simp; try with_reducible rfl
                      try simp only [Act.put, List.setIfInBounds_toArray, List.set_cons_zero, List.set_cons_succ]
                      refine stepK_read 6 (some 181) (v := ?vu6) rfl (by rfl) (by kernel_rfl) (by kernel_rfl) (by kernel_rfl) (fun _ _ _ h => h) (by rfl) ?yu6 ?nu6
                      case yu6 => intro W hW; have hc := (hW.cell (p := ⟨A, 1, none⟩) (by show ¬ (A = Br ∨ A = Bw); omega) (by show A < _; omega)).trans HA1.out; go_simp; try with_reducible rfl
                      try simp only [Act.put, List.setIfInBounds_toArray, List.set_cons_zero, List.set_cons_succ]
                      -- 3: call:18 -> 178
                      refine stepK_only 3 rfl (by kernel_rfl) (by rfl) (fun K' hK => ?_)
                      go_simp
                      go_at_call 18
                      refine (pnum_is Br _ bs e mf _ HR1.out (by omega) X R e1 HQ.out).mono ?_
                      rintro en x2 ⟨rfl, u2, hra2, hoa2⟩
                      have HR1 := Lib.hid hra2
                      have HR2 := Lib.hid (HR2.out.kept' hoa2 (by omega) (fun hn hg => by have := HOV.out hn _ hg; omega))
                      have hbA2 := hbA.trans (hoa2.below (by omega) hbA.size)
                      have hs2 := hoa2.size
                      have hA2 : x2.cell? ⟨A, 1, none⟩ = some (.int .u64 mf) := by rw [(Keep.ofGrown hoa2 (.inl rfl) : Keep (fun k => k = Br ∨ k = Bw) _ _).cell (by show ¬ (A = Br ∨ A = Bw); omega) (by show A < _; omega)]; exact HA1.out
                      have HA2 := Lib.hid hA2
                      refine hK _ _ (Keep.ofGrown hoa2 (.inl rfl)) ?_
                      clear hra2 hoa2 hA2
                      clear hK K'
                      try simp only [Act.put, List.setIfInBounds_toArray, List.set_cons_zero, List.set_cons_succ]
                      -- 7: call:19 -> 182
                      refine stepK_only 7 rfl (by kernel_rfl) (by rfl) (fun K' hK => ?_)
                      go_simp
                      go_at_call 19
                      refine (rnum_is Bw _ bs e mf _ HR2.out (by omega) X R e1 HQ.out).mono ?_
                      rintro en x6 ⟨rfl, u6, hrb6, hob6, hsb6⟩
                      have HR1 := Lib.hid (HR1.out.kept hob6 hBrw)
                      have HR2 := Lib.hid hrb6
                      have hov6 : R.length ≠ 0 → ∀ g, u6.ownBlock = some g → g < WX.heap.size := fun hn g hg => HOV.out (by omega) g (hsb6 g hg)
                      have HOV6 := Lib.hid hov6
                      have hbA6 := hbA2.trans (hob6.below (by omega) hbA2.size)
                      refine hK _ _ (Keep.ofGrown hob6 (.inr rfl)) ?_
                      clear hrb6 hob6 hsb6 hov6
                      clear hK K'
                      try simp only [Act.put, List.setIfInBounds_toArray, List.set_cons_zero, List.set_cons_succ]
                      refine stepK_read 8 (some 183) (v := ?vu8) rfl (by rfl) (by kernel_rfl) (by kernel_rfl) (by kernel_rfl) (fun _ _ _ h => h) (by rfl) ?yu8 ?nu8
                      case yu8 => intro W hW; go_simp; try with_reducible rfl
                      try simp only [Act.put, List.setIfInBounds_toArray, List.set_cons_zero, List.set_cons_succ]
                      refine wpAnyH_done (by kernel_rfl) ?_ _
                      go_wp2_with fail
                      have HR1 := Lib.hid (HR1.out.later ((Below.refl _ _).drew))
                      have HR2 := Lib.hid (HR2.out.later ((Below.refl _ _).drew))
                      have hbA8 := hbA6.drew
                      obtain ⟨pw, cw, rfl⟩ : ∃ pw cw, u6 = .slice pw R.length cw := by
                        obtain ⟨a', c', h, -⟩ := HR2.out.2.2.2.2.1
                        exact ⟨a', c', h⟩
                      refine regionK_begin (fun _ => False) (by kernel_rfl) ?_
                      refine stepK_read 0 (some 184) (v := ?vue0) rfl (by rfl) (by kernel_rfl) (by kernel_rfl) (by kernel_rfl) (fun _ _ _ h => h) (by rfl) ?yue0 ?nue0
                      case yue0 => intro W hW; go_simp; try with_reducible rfl
                      try simp only [Act.put, List.setIfInBounds_toArray, List.set_cons_zero, List.set_cons_succ]
                      refine stepK_read 2 (some 186) (v := ?vue2) rfl (by rfl) (by kernel_rfl) (by kernel_rfl) (by kernel_rfl) (fun _ _ _ h => h) (by rfl) ?yue2 ?nue2
                      case yue2 => intro W hW; go_simp; try with_reducible rfl
                      try simp only [Act.put, List.setIfInBounds_toArray, List.set_cons_zero, List.set_cons_succ]
                      refine stepK_read 3 (some 187) (v := ?vue3) rfl (by rfl) (by kernel_rfl) (by kernel_rfl) (by kernel_rfl) (fun _ _ _ h => h) (by rfl) ?yue3 ?nue3
                      case yue3 => intro W hW; go_simp; try with_reducible rfl
                      try simp only [Act.put, List.setIfInBounds_toArray, List.set_cons_zero, List.set_cons_succ]
                      refine stepK_read 4 (some 188) (v := ?vue4) rfl (by rfl) (by kernel_rfl) (by kernel_rfl) (by kernel_rfl) (fun _ _ _ h => h) (by rfl) ?yue4 ?nue4
                      case yue4 => intro W hW; go_simp; try with_reducible rfl
                      try simp only [Act.put, List.setIfInBounds_toArray, List.set_cons_zero, List.set_cons_succ]
                      refine stepK_read 5 (some 189) (v := ?vue5) rfl (by rfl) (by kernel_rfl) (by kernel_rfl) (by kernel_rfl) (fun _ _ _ h => h) (by rfl) ?yue5 ?nue5
                      case yue5 => intro W hW; have hc := (hW.cell (p := ⟨Bw, 1, none⟩) (by simp) (by show Bw < _; have := HR2.out.lt; omega)).trans HR2.out.2.1; go_simp; try with_reducible rfl
                      try simp only [Act.put, List.setIfInBounds_toArray, List.set_cons_zero, List.set_cons_succ]
                      -- 1: call:20 -> 185
                      refine stepK_only 1 rfl (by kernel_rfl) (by rfl) (fun K' hK => ?_)
                      go_simp
                      go_at_call 20
                      refine (err_any Br _ _ _ _ HR1.out).mono ?_
                      rintro en z1 ⟨rfl, rfl⟩
                      refine hK _ _ (Keep.refl _ _) ?_
                      clear hK K'
                      try simp only [Act.put, List.setIfInBounds_toArray, List.set_cons_zero, List.set_cons_succ]
                      refine stepK_read 6 (some 190) (v := ?vue6) rfl (by rfl) (by kernel_rfl) (by kernel_rfl) (by kernel_rfl) (fun _ _ _ h => h) (by rfl) ?yue6 ?nue6
                      case yue6 => intro W hW; go_simp; try with_reducible rfl
                      try simp only [Act.put, List.setIfInBounds_toArray, List.set_cons_zero, List.set_cons_succ]
                      refine stepK_read 7 (some 191) (v := ?vue7) rfl (by rfl) (by kernel_rfl) (by kernel_rfl) (by kernel_rfl) (fun _ _ _ h => h) (by rfl) ?yue7 ?nue7
                      case yue7 => intro W hW; go_simp; try with_reducible rfl
                      try simp only [Act.put, List.setIfInBounds_toArray, List.set_cons_zero, List.set_cons_succ]
                      refine stepK_read 8 (some 192) (v := ?vue8) rfl (by rfl) (by kernel_rfl) (by kernel_rfl) (by kernel_rfl) (fun _ _ _ h => h) (by rfl) ?yue8 ?nue8
                      case yue8 => intro W hW; go_simp; try with_reducible rfl
                      try simp only [Act.put, List.setIfInBounds_toArray, List.set_cons_zero, List.set_cons_succ]
                      refine stepK_read 10 (some 194) (v := ?vue10) rfl (by rfl) (by kernel_rfl) (by kernel_rfl) (by kernel_rfl) (fun _ _ _ h => h) (by rfl) ?yue10 ?nue10
                      case yue10 => intro W hW; go_simp; try with_reducible rfl
                      try simp only [Act.put, List.setIfInBounds_toArray, List.set_cons_zero, List.set_cons_succ]
                      refine stepK_read 11 (some 195) (v := ?vue11) rfl (by rfl) (by kernel_rfl) (by kernel_rfl) (by kernel_rfl) (fun _ _ _ h => h) (by rfl) ?yue11 ?nue11
                      case yue11 => intro W hW; go_simp; try with_reducible rfl
                      try simp only [Act.put, List.setIfInBounds_toArray, List.set_cons_zero, List.set_cons_succ]
                      refine stepK_read 12 (some 196) (v := ?vue12) rfl (by rfl) (by kernel_rfl) (by kernel_rfl) (by kernel_rfl) (fun _ _ _ h => h) (by rfl) ?yue12 ?nue12
                      case yue12 => intro W hW; go_simp; try with_reducible rfl
                      try simp only [Act.put, List.setIfInBounds_toArray, List.set_cons_zero, List.set_cons_succ]
                      refine stepK_read 13 (some 197) (v := ?vue13) rfl (by rfl) (by kernel_rfl) (by kernel_rfl) (by kernel_rfl) (fun _ _ _ h => h) (by rfl) ?yue13 ?nue13
                      case yue13 => intro W hW; have hc := (hW.cell (p := ⟨Bw, 0, none⟩) (by simp) (by show Bw < _; have := HR2.out.lt; omega)).trans HR2.out.1; go_simp; try with_reducible rfl
                      try simp only [Act.put, List.setIfInBounds_toArray, List.set_cons_zero, List.set_cons_succ]
                      refine stepK_read 14 (some 198) (v := ?vue14) rfl (by rfl) (by kernel_rfl) (by kernel_rfl) (by kernel_rfl) (fun _ _ _ h => h) (by rfl) ?yue14 ?nue14
                      case yue14 => intro W hW; go_simp; try with_reducible rfl
                      try simp only [Act.put, List.setIfInBounds_toArray, List.set_cons_zero, List.set_cons_succ]
                      -- 9: call:21 -> 193
                      refine stepK_only 9 rfl (by kernel_rfl) (by rfl) (fun K' hK => ?_)
                      go_simp
                      go_at_call 21
                      refine (left_any Br _ _ _ _ HR1.out).mono ?_
                      rintro en z9 ⟨rfl, rfl⟩
                      refine hK _ _ (Keep.refl _ _) ?_
                      clear hK K'
                      try simp only [Act.put, List.setIfInBounds_toArray, List.set_cons_zero, List.set_cons_succ]
                      refine stepK_read 15 (some 199) (v := ?vue15) rfl (by rfl) (by kernel_rfl) (by kernel_rfl) (by kernel_rfl) (fun _ _ _ h => h) (by rfl) ?yue15 ?nue15
                      case yue15 => intro W hW; go_simp; try with_reducible rfl
                      try simp only [Act.put, List.setIfInBounds_toArray, List.set_cons_zero, List.set_cons_succ]
                      refine stepK_read 16 (some 200) (v := ?vue16) rfl (by rfl) (by kernel_rfl) (by kernel_rfl) (by kernel_rfl) (fun _ _ _ h => h) (by rfl) ?yue16 ?nue16
                      case yue16 => intro W hW; go_simp; try with_reducible rfl
                      try simp only [Act.put, List.setIfInBounds_toArray, List.set_cons_zero, List.set_cons_succ]
                      refine wpAnyH_done (by kernel_rfl) ?_ _
                      have HLf := Lib.hid hbA8
                      clear hbA8 hbA6 hbA2 hbA
                      go_wp2_with fail
                      first
                        | exact ⟨⟨j2 + 1, _, _, R, e1, by omega, by go_num, HR1.out, HR2.out, by omega, HOV6.out, HLf.out.drew⟩, by simp [intOf]; omega⟩
                        | exact ⟨⟨j2 + 1, _, _, R, e1, by omega, by go_num, HR1.out, HR2.out, by omega, HOV6.out, HLf.out⟩, by simp [intOf]; omega⟩
                        | (go_roundw
                           case rel => exact ⟨j2 + 1, _, _, R, e1, by omega, by go_num, HR1.out, HR2.out, by omega, HOV6.out, HLf.out⟩
                           case measure => simp [intOf]; omega)
                    · skip
                      obtain ⟨m4, hm4⟩ : ∃ m4, bits .and .u64 m3 4095 = m4 := ⟨_, rfl⟩
                      have hm4b : 0 ≤ m4 ∧ m4 ≤ 4095 := by rw [← hm4]; exact and4095 _ (by omega) (by omega)
                      have hm4w : IntKind.i64.wrap m4 = m4 := by rw [IntKind.wrap_i64]; omega
                      by_cases h15 : m3 / 1152921504606846976 = 15
                      · have h15b : (m3 / 1152921504606846976 == 15) = true := by rw [beq_iff_eq]; exact h15
                        go_wp2_with fail
                        obtain ⟨WA, hWA, hbW, hA1, hAs⟩ := act2 wr true m3 38 30 #[.int .u64 31, .int .u64 18446744073709551615, .int .u64 127]
                        rw [hWA]
                        obtain ⟨A, hA⟩ : ∃ A, wr.heap.size = A := ⟨_, rfl⟩
                        have hABr : Br < A := by have := hrd1.lt; omega
                        have hABw : Bw < A := by have := hrd2.lt; omega
                        have HR1 := Lib.hid ((hrd1.later hbW).later ((Below.refl _ _).drew))
                        have HR2 := Lib.hid ((hrd2.later hbW).later ((Below.refl _ _).drew))
                        have hbA : Below WX.heap.size WX WA.drew := (hbq.trans (hbW.mono hsq)).drew
                        have hAs2 : A < WA.drew.heap.size := by rw [← hA]; exact hAs
                        rw [hA] at hA1 ⊢
                        have HA1 := Lib.hid (show WA.drew.cell? ⟨A, 1, none⟩ = some (.int .u64 m3) from hA1)
                        clear hWA hbW hA1 hAs hrd1 hrd2 hqr hmr
                        obtain ⟨mv, hmv⟩ : ∃ mv : Int, mv = (-1) := ⟨_, rfl⟩
                        rw [← hmv]
                        have hmvb : -1 ≤ mv ∧ mv ≤ 4095 := by omega
                        obtain ⟨S, R, e1, hq⟩ : ∃ S R e1, lumpR bs e mv = (S, R, e1) := ⟨_, _, _, rfl⟩
                        have hlen := lumpR_len bs e mv
                        rw [hq] at hlen
                        have hlR : R.length ≤ bs.length := hlen.1
                        have HQ := Lib.hid hq
                        clear hq hlen hmv
                        refine regionK_begin (fun k => k = Br ∨ k = Bw) (by kernel_rfl) ?_
                        refine stepK_read 0 (some 166) (v := ?vvp0) rfl (by rfl) (by kernel_rfl) (by kernel_rfl) (by kernel_rfl) (fun _ _ _ h => h) (by rfl) ?yvp0 ?nvp0
                        case yvp0 => intro W hW; go_simp; try with_reducible rfl
                        try simp only [Act.put, List.setIfInBounds_toArray, List.set_cons_zero, List.set_cons_succ]
                        refine stepK_read 1 (some 167) (v := ?vvp1) rfl (by rfl) (by kernel_rfl) (by kernel_rfl) (by kernel_rfl) (fun _ _ _ h => h) (by rfl) ?yvp1 ?nvp1
                        case yvp1 => intro W hW; go_simp; try with_reducible rfl
                        try simp only [Act.put, List.setIfInBounds_toArray, List.set_cons_zero, List.set_cons_succ]
                        refine stepK_read 4 (some 170) (v := ?vvp4) rfl (by rfl) (by kernel_rfl) (by kernel_rfl) (by kernel_rfl) (fun _ _ _ h => h) (by rfl) ?yvp4 ?nvp4
                        case yvp4 => intro W hW; go_simp; try with_reducible rfl
                        try simp only [Act.put, List.setIfInBounds_toArray, List.set_cons_zero, List.set_cons_succ]
                        refine stepK_read 5 (some 171) (v := ?vvp5) rfl (by rfl) (by kernel_rfl) (by kernel_rfl) (by kernel_rfl) (fun _ _ _ h => h) (by rfl) ?yvp5 ?nvp5
                        case yvp5 => intro W hW; go_simp; try with_reducible rfl
                        try simp only [Act.put, List.setIfInBounds_toArray, List.set_cons_zero, List.set_cons_succ]
                        -- 2: call:16 -> 168
                        refine stepK_only 2 rfl (by kernel_rfl) (by rfl) (fun K' hK => ?_)
                        go_simp
                        go_at_call 16
                        refine (rlump_own Br _ bs e mv _ HR1.out (by omega) (by omega) (by omega) S R e1 HQ.out).mono ?_
                        rintro en x2 ⟨p2, c2, rfl, hown2, u2, hra2, hoa2⟩
                        have HR1 := Lib.hid hra2
                        have HR2 := Lib.hid (HR2.out.kept' hoa2 (by omega) (fun hn hg => by have := HOV.out hn _ hg; omega))
                        have HW2 := Lib.hid hown2
                        have hbA2 := hbA.trans (hoa2.below (by omega) hbA.size)
                        have hs2 := hoa2.size
                        refine hK _ _ (Keep.ofGrown hoa2 (.inl rfl)) ?_
                        clear hra2 hown2 hoa2
                        clear hK K'
                        try simp only [Act.put, List.setIfInBounds_toArray, List.set_cons_zero, List.set_cons_succ]
                        refine stepK_read 3 (some 169) (v := ?vvp3) rfl (by rfl) (by kernel_rfl) (by kernel_rfl) (by kernel_rfl) (fun _ _ _ h => h) (by rfl) ?yvp3 ?nvp3
                        case yvp3 => intro W hW; have ec := conv_at (IsNums.ofOwn (own_keep HW2.out hW (fun g hg => by rcases hg with rfl | rfl <;> omega))) (Below.refl _ W); go_simp; try with_reducible rfl
                        try simp only [Act.put, List.setIfInBounds_toArray, List.set_cons_zero, List.set_cons_succ]
                        -- 6: call:17 -> 172
                        refine stepK_only 6 rfl (by kernel_rfl) (by rfl) (fun K' hK => ?_)
                        go_simp
                        go_at_call 17
                        refine (rrlump_is Bw _ bs e mv _ HR2.out (by omega) (by omega) (by omega) S R e1 HQ.out).mono ?_
                        rintro en x6 ⟨p6, c6, rfl, hn6, u6, hrb6, hob6, hsb6⟩
                        have HR1 := Lib.hid (HR1.out.kept hob6 hBrw)
                        have HR2 := Lib.hid hrb6
                        have hov6 : R.length ≠ 0 → ∀ g, u6.ownBlock = some g → g < WX.heap.size := fun hn g hg => HOV.out (by omega) g (hsb6 g hg)
                        have HOV6 := Lib.hid hov6
                        have hbA6 := hbA2.trans (hob6.below (by omega) hbA2.size)
                        have K6 := Lib.hid (hn6.nums (by have := HR2.out.lt; omega))
                        refine hK _ _ (Keep.ofGrown hob6 (.inr rfl)) ?_
                        clear hrb6 hob6 hsb6 hov6 hn6
                        clear hK K'
                        try simp only [Act.put, List.setIfInBounds_toArray, List.set_cons_zero, List.set_cons_succ]
                        -- 7: convert -> 173
                        refine stepK_only 7 rfl (by kernel_rfl) (by rfl) (fun K' hK => ?_)
                        have ec := conv_at K6.out (Below.refl _ _)
                        go_simp
                        refine hK _ _ (Keep.refl _ _) ?_
                        clear ec
                        clear hK K'
                        try simp only [Act.put, List.setIfInBounds_toArray, List.set_cons_zero, List.set_cons_succ]
                        refine stepK_read 8 (some 174) (v := ?vvp8) rfl (by rfl) (by kernel_rfl) (by kernel_rfl) (by kernel_rfl) (fun _ _ _ h => h) (by rfl) ?yvp8 ?nvp8
                        case yvp8 => intro W hW; go_simp; try with_reducible rfl
                        try simp only [Act.put, List.setIfInBounds_toArray, List.set_cons_zero, List.set_cons_succ]
                        refine wpAnyH_done (by kernel_rfl) ?_ _
                        go_wp2_with fail
                        have HR1 := Lib.hid (HR1.out.later ((Below.refl _ _).drew))
                        have HR2 := Lib.hid (HR2.out.later ((Below.refl _ _).drew))
                        have hbA8 := hbA6.drew
                        obtain ⟨pw, cw, rfl⟩ : ∃ pw cw, u6 = .slice pw R.length cw := by
                          obtain ⟨a', c', h, -⟩ := HR2.out.2.2.2.2.1
                          exact ⟨a', c', h⟩
                        refine regionK_begin (fun _ => False) (by kernel_rfl) ?_
                        refine stepK_read 0 (some 184) (v := ?vvpe0) rfl (by rfl) (by kernel_rfl) (by kernel_rfl) (by kernel_rfl) (fun _ _ _ h => h) (by rfl) ?yvpe0 ?nvpe0
                        case yvpe0 => intro W hW; go_simp; try with_reducible rfl
                        try simp only [Act.put, List.setIfInBounds_toArray, List.set_cons_zero, List.set_cons_succ]
                        refine stepK_read 2 (some 186) (v := ?vvpe2) rfl (by rfl) (by kernel_rfl) (by kernel_rfl) (by kernel_rfl) (fun _ _ _ h => h) (by rfl) ?yvpe2 ?nvpe2
                        case yvpe2 => intro W hW; go_simp; try with_reducible rfl
                        try simp only [Act.put, List.setIfInBounds_toArray, List.set_cons_zero, List.set_cons_succ]
                        refine stepK_read 3 (some 187) (v := ?vvpe3) rfl (by rfl) (by kernel_rfl) (by kernel_rfl) (by kernel_rfl) (fun _ _ _ h => h) (by rfl) ?yvpe3 ?nvpe3
                        case yvpe3 => intro W hW; go_simp; try with_reducible rfl
                        try simp only [Act.put, List.setIfInBounds_toArray, List.set_cons_zero, List.set_cons_succ]
                        refine stepK_read 4 (some 188) (v := ?vvpe4) rfl (by rfl) (by kernel_rfl) (by kernel_rfl) (by kernel_rfl) (fun _ _ _ h => h) (by rfl) ?yvpe4 ?nvpe4
                        case yvpe4 => intro W hW; go_simp; try with_reducible rfl
                        try simp only [Act.put, List.setIfInBounds_toArray, List.set_cons_zero, List.set_cons_succ]
                        refine stepK_read 5 (some 189) (v := ?vvpe5) rfl (by rfl) (by kernel_rfl) (by kernel_rfl) (by kernel_rfl) (fun _ _ _ h => h) (by rfl) ?yvpe5 ?nvpe5
                        case yvpe5 => intro W hW; have hc := (hW.cell (p := ⟨Bw, 1, none⟩) (by simp) (by show Bw < _; have := HR2.out.lt; omega)).trans HR2.out.2.1; go_simp; try with_reducible rfl
                        try simp only [Act.put, List.setIfInBounds_toArray, List.set_cons_zero, List.set_cons_succ]
                        -- 1: call:20 -> 185
                        refine stepK_only 1 rfl (by kernel_rfl) (by rfl) (fun K' hK => ?_)
                        go_simp
                        go_at_call 20
                        refine (err_any Br _ _ _ _ HR1.out).mono ?_
                        rintro en z1 ⟨rfl, rfl⟩
                        refine hK _ _ (Keep.refl _ _) ?_
                        clear hK K'
                        try simp only [Act.put, List.setIfInBounds_toArray, List.set_cons_zero, List.set_cons_succ]
                        refine stepK_read 6 (some 190) (v := ?vvpe6) rfl (by rfl) (by kernel_rfl) (by kernel_rfl) (by kernel_rfl) (fun _ _ _ h => h) (by rfl) ?yvpe6 ?nvpe6
                        case yvpe6 => intro W hW; go_simp; try with_reducible rfl
                        try simp only [Act.put, List.setIfInBounds_toArray, List.set_cons_zero, List.set_cons_succ]
                        refine stepK_read 7 (some 191) (v := ?vvpe7) rfl (by rfl) (by kernel_rfl) (by kernel_rfl) (by kernel_rfl) (fun _ _ _ h => h) (by rfl) ?yvpe7 ?nvpe7
                        case yvpe7 => intro W hW; go_simp; try with_reducible rfl
                        try simp only [Act.put, List.setIfInBounds_toArray, List.set_cons_zero, List.set_cons_succ]
                        refine stepK_read 8 (some 192) (v := ?vvpe8) rfl (by rfl) (by kernel_rfl) (by kernel_rfl) (by kernel_rfl) (fun _ _ _ h => h) (by rfl) ?yvpe8 ?nvpe8
                        case yvpe8 => intro W hW; go_simp; try with_reducible rfl
                        try simp only [Act.put, List.setIfInBounds_toArray, List.set_cons_zero, List.set_cons_succ]
                        refine stepK_read 10 (some 194) (v := ?vvpe10) rfl (by rfl) (by kernel_rfl) (by kernel_rfl) (by kernel_rfl) (fun _ _ _ h => h) (by rfl) ?yvpe10 ?nvpe10
                        case yvpe10 => intro W hW; go_simp; try with_reducible rfl
                        try simp only [Act.put, List.setIfInBounds_toArray, List.set_cons_zero, List.set_cons_succ]
                        refine stepK_read 11 (some 195) (v := ?vvpe11) rfl (by rfl) (by kernel_rfl) (by kernel_rfl) (by kernel_rfl) (fun _ _ _ h => h) (by rfl) ?yvpe11 ?nvpe11
                        case yvpe11 => intro W hW; go_simp; try with_reducible rfl
                        try simp only [Act.put, List.setIfInBounds_toArray, List.set_cons_zero, List.set_cons_succ]
                        refine stepK_read 12 (some 196) (v := ?vvpe12) rfl (by rfl) (by kernel_rfl) (by kernel_rfl) (by kernel_rfl) (fun _ _ _ h => h) (by rfl) ?yvpe12 ?nvpe12
                        case yvpe12 => intro W hW; go_simp; try with_reducible rfl
                        try simp only [Act.put, List.setIfInBounds_toArray, List.set_cons_zero, List.set_cons_succ]
                        refine stepK_read 13 (some 197) (v := ?vvpe13) rfl (by rfl) (by kernel_rfl) (by kernel_rfl) (by kernel_rfl) (fun _ _ _ h => h) (by rfl) ?yvpe13 ?nvpe13
                        case yvpe13 => intro W hW; have hc := (hW.cell (p := ⟨Bw, 0, none⟩) (by simp) (by show Bw < _; have := HR2.out.lt; omega)).trans HR2.out.1; go_simp; try with_reducible rfl
                        try simp only [Act.put, List.setIfInBounds_toArray, List.set_cons_zero, List.set_cons_succ]
                        refine stepK_read 14 (some 198) (v := ?vvpe14) rfl (by rfl) (by kernel_rfl) (by kernel_rfl) (by kernel_rfl) (fun _ _ _ h => h) (by rfl) ?yvpe14 ?nvpe14
                        case yvpe14 => intro W hW; go_simp; try with_reducible rfl
                        try simp only [Act.put, List.setIfInBounds_toArray, List.set_cons_zero, List.set_cons_succ]
                        -- 9: call:21 -> 193
                        refine stepK_only 9 rfl (by kernel_rfl) (by rfl) (fun K' hK => ?_)
                        go_simp
                        go_at_call 21
                        refine (left_any Br _ _ _ _ HR1.out).mono ?_
                        rintro en z9 ⟨rfl, rfl⟩
                        refine hK _ _ (Keep.refl _ _) ?_
                        clear hK K'
                        try simp only [Act.put, List.setIfInBounds_toArray, List.set_cons_zero, List.set_cons_succ]
                        refine stepK_read 15 (some 199) (v := ?vvpe15) rfl (by rfl) (by kernel_rfl) (by kernel_rfl) (by kernel_rfl) (fun _ _ _ h => h) (by rfl) ?yvpe15 ?nvpe15
                        case yvpe15 => intro W hW; go_simp; try with_reducible rfl
                        try simp only [Act.put, List.setIfInBounds_toArray, List.set_cons_zero, List.set_cons_succ]
                        refine stepK_read 16 (some 200) (v := ?vvpe16) rfl (by rfl) (by kernel_rfl) (by kernel_rfl) (by kernel_rfl) (fun _ _ _ h => h) (by rfl) ?yvpe16 ?nvpe16
                        case yvpe16 => intro W hW; go_simp; try with_reducible rfl
                        try simp only [Act.put, List.setIfInBounds_toArray, List.set_cons_zero, List.set_cons_succ]
                        refine wpAnyH_done (by kernel_rfl) ?_ _
                        have HLf := Lib.hid hbA8
                        clear hbA8 hbA6 hbA2 hbA
                        go_wp2_with fail
                        first
                          | exact ⟨⟨j2 + 1, _, _, R, e1, by omega, by go_num, HR1.out, HR2.out, by omega, HOV6.out, HLf.out.drew⟩, by simp [intOf]; omega⟩
                          | exact ⟨⟨j2 + 1, _, _, R, e1, by omega, by go_num, HR1.out, HR2.out, by omega, HOV6.out, HLf.out⟩, by simp [intOf]; omega⟩
                          | (go_roundw
                             case rel => exact ⟨j2 + 1, _, _, R, e1, by omega, by go_num, HR1.out, HR2.out, by omega, HOV6.out, HLf.out⟩
                             case measure => simp [intOf]; omega)
                      · have h15b : (m3 / 1152921504606846976 == 15) = false := by rw [beq_eq_false_iff_ne]; exact h15
                        go_wp2_with fail
                        obtain ⟨WA, hWA, hbW, hA1, hAs⟩ := act2 wr true m3 38 30 #[.int .u64 31, .int .u64 18446744073709551615, .int .u64 127]
                        rw [hWA]
                        obtain ⟨A, hA⟩ : ∃ A, wr.heap.size = A := ⟨_, rfl⟩
                        have hABr : Br < A := by have := hrd1.lt; omega
                        have hABw : Bw < A := by have := hrd2.lt; omega
                        have HR1 := Lib.hid ((hrd1.later hbW).later ((Below.refl _ _).drew))
                        have HR2 := Lib.hid ((hrd2.later hbW).later ((Below.refl _ _).drew))
                        have hbA : Below WX.heap.size WX WA.drew := (hbq.trans (hbW.mono hsq)).drew
                        have hAs2 : A < WA.drew.heap.size := by rw [← hA]; exact hAs
                        rw [hA] at hA1 ⊢
                        have HA1 := Lib.hid (show WA.drew.cell? ⟨A, 1, none⟩ = some (.int .u64 m3) from hA1)
                        clear hWA hbW hA1 hAs hrd1 hrd2 hqr hmr
                        obtain ⟨mv, hmv⟩ : ∃ mv : Int, mv = m4 := ⟨_, rfl⟩
                        rw [← hmv]
                        have hmvb : -1 ≤ mv ∧ mv ≤ 4095 := by omega
                        obtain ⟨S, R, e1, hq⟩ : ∃ S R e1, lumpR bs e mv = (S, R, e1) := ⟨_, _, _, rfl⟩
                        have hlen := lumpR_len bs e mv
                        rw [hq] at hlen
                        have hlR : R.length ≤ bs.length := hlen.1
                        have HQ := Lib.hid hq
                        clear hq hlen hmv
                        refine regionK_begin (fun k => k = Br ∨ k = Bw) (by kernel_rfl) ?_
                        refine stepK_read 0 (some 166) (v := ?vvq0) rfl (by rfl) (by kernel_rfl) (by kernel_rfl) (by kernel_rfl) (fun _ _ _ h => h) (by rfl) ?yvq0 ?nvq0
                        case yvq0 => intro W hW; go_simp; try with_reducible rfl
                        try simp only [Act.put, List.setIfInBounds_toArray, List.set_cons_zero, List.set_cons_succ]
                        refine stepK_read 1 (some 167) (v := ?vvq1) rfl (by rfl) (by kernel_rfl) (by kernel_rfl) (by kernel_rfl) (fun _ _ _ h => h) (by rfl) ?yvq1 ?nvq1
                        case yvq1 => intro W hW; go_simp; try with_reducible rfl
                        try simp only [Act.put, List.setIfInBounds_toArray, List.set_cons_zero, List.set_cons_succ]
                        refine stepK_read 4 (some 170) (v := ?vvq4) rfl (by rfl) (by kernel_rfl) (by kernel_rfl) (by kernel_rfl) (fun _ _ _ h => h) (by rfl) ?yvq4 ?nvq4
                        case yvq4 => intro W hW; go_simp; try with_reducible rfl
                        try simp only [Act.put, List.setIfInBounds_toArray, List.set_cons_zero, List.set_cons_succ]
                        refine stepK_read 5 (some 171) (v := ?vvq5) rfl (by rfl) (by kernel_rfl) (by kernel_rfl) (by kernel_rfl) (fun _ _ _ h => h) (by rfl) ?yvq5 ?nvq5
                        case yvq5 => intro W hW; go_simp; try with_reducible rfl
                        try simp only [Act.put, List.setIfInBounds_toArray, List.set_cons_zero, List.set_cons_succ]
                        -- 2: call:16 -> 168
                        refine stepK_only 2 rfl (by kernel_rfl) (by rfl) (fun K' hK => ?_)
                        go_simp
                        go_at_call 16
                        refine (rlump_own Br _ bs e mv _ HR1.out (by omega) (by omega) (by omega) S R e1 HQ.out).mono ?_
                        rintro en x2 ⟨p2, c2, rfl, hown2, u2, hra2, hoa2⟩
                        have HR1 := Lib.hid hra2
                        have HR2 := Lib.hid (HR2.out.kept' hoa2 (by omega) (fun hn hg => by have := HOV.out hn _ hg; omega))
                        have HW2 := Lib.hid hown2
                        have hbA2 := hbA.trans (hoa2.below (by omega) hbA.size)
                        have hs2 := hoa2.size
                        refine hK _ _ (Keep.ofGrown hoa2 (.inl rfl)) ?_
                        clear hra2 hown2 hoa2
                        clear hK K'
                        try simp only [Act.put, List.setIfInBounds_toArray, List.set_cons_zero, List.set_cons_succ]
                        refine stepK_read 3 (some 169) (v := ?vvq3) rfl (by rfl) (by kernel_rfl) (by kernel_rfl) (by kernel_rfl) (fun _ _ _ h => h) (by rfl) ?yvq3 ?nvq3
                        case yvq3 => intro W hW; have ec := conv_at (IsNums.ofOwn (own_keep HW2.out hW (fun g hg => by rcases hg with rfl | rfl <;> omega))) (Below.refl _ W); go_simp; try with_reducible rfl
                        try simp only [Act.put, List.setIfInBounds_toArray, List.set_cons_zero, List.set_cons_succ]
                        -- 6: call:17 -> 172
                        refine stepK_only 6 rfl (by kernel_rfl) (by rfl) (fun K' hK => ?_)
                        go_simp
                        go_at_call 17
                        refine (rrlump_is Bw _ bs e mv _ HR2.out (by omega) (by omega) (by omega) S R e1 HQ.out).mono ?_
                        rintro en x6 ⟨p6, c6, rfl, hn6, u6, hrb6, hob6, hsb6⟩
                        have HR1 := Lib.hid (HR1.out.kept hob6 hBrw)
                        have HR2 := Lib.hid hrb6
                        have hov6 : R.length ≠ 0 → ∀ g, u6.ownBlock = some g → g < WX.heap.size := fun hn g hg => HOV.out (by omega) g (hsb6 g hg)
                        have HOV6 := Lib.hid hov6
                        have hbA6 := hbA2.trans (hob6.below (by omega) hbA2.size)
                        have K6 := Lib.hid (hn6.nums (by have := HR2.out.lt; omega))
                        refine hK _ _ (Keep.ofGrown hob6 (.inr rfl)) ?_
                        clear hrb6 hob6 hsb6 hov6 hn6
                        clear hK K'
                        try simp only [Act.put, List.setIfInBounds_toArray, List.set_cons_zero, List.set_cons_succ]
                        -- 7: convert -> 173
                        refine stepK_only 7 rfl (by kernel_rfl) (by rfl) (fun K' hK => ?_)
                        have ec := conv_at K6.out (Below.refl _ _)
                        go_simp
                        refine hK _ _ (Keep.refl _ _) ?_
                        clear ec
                        clear hK K'
                        try simp only [Act.put, List.setIfInBounds_toArray, List.set_cons_zero, List.set_cons_succ]
                        refine stepK_read 8 (some 174) (v := ?vvq8) rfl (by rfl) (by kernel_rfl) (by kernel_rfl) (by kernel_rfl) (fun _ _ _ h => h) (by rfl) ?yvq8 ?nvq8
                        case yvq8 => intro W hW; go_simp; try with_reducible rfl
                        try simp only [Act.put, List.setIfInBounds_toArray, List.set_cons_zero, List.set_cons_succ]
                        refine wpAnyH_done (by kernel_rfl) ?_ _
                        go_wp2_with fail
                        have HR1 := Lib.hid (HR1.out.later ((Below.refl _ _).drew))
                        have HR2 := Lib.hid (HR2.out.later ((Below.refl _ _).drew))
                        have hbA8 := hbA6.drew
                        obtain ⟨pw, cw, rfl⟩ : ∃ pw cw, u6 = .slice pw R.length cw := by
                          obtain ⟨a', c', h, -⟩ := HR2.out.2.2.2.2.1
                          exact ⟨a', c', h⟩
                        refine regionK_begin (fun _ => False) (by kernel_rfl) ?_
                        refine stepK_read 0 (some 184) (v := ?vvqe0) rfl (by rfl) (by kernel_rfl) (by kernel_rfl) (by kernel_rfl) (fun _ _ _ h => h) (by rfl) ?yvqe0 ?nvqe0
                        case yvqe0 => intro W hW; go_simp; try with_reducible rfl
                        try simp only [Act.put, List.setIfInBounds_toArray, List.set_cons_zero, List.set_cons_succ]
                        refine stepK_read 2 (some 186) (v := ?vvqe2) rfl (by rfl) (by kernel_rfl) (by kernel_rfl) (by kernel_rfl) (fun _ _ _ h => h) (by rfl) ?yvqe2 ?nvqe2
                        case yvqe2 => intro W hW; go_simp; try with_reducible rfl
                        try simp only [Act.put, List.setIfInBounds_toArray, List.set_cons_zero, List.set_cons_succ]
                        refine stepK_read 3 (some 187) (v := ?vvqe3) rfl (by rfl) (by kernel_rfl) (by kernel_rfl) (by kernel_rfl) (fun _ _ _ h => h) (by rfl) ?yvqe3 ?nvqe3
                        case yvqe3 => intro W hW; go_simp; try with_reducible rfl
                        try simp only [Act.put, List.setIfInBounds_toArray, List.set_cons_zero, List.set_cons_succ]
                        refine stepK_read 4 (some 188) (v := ?vvqe4) rfl (by rfl) (by kernel_rfl) (by kernel_rfl) (by kernel_rfl) (fun _ _ _ h => h) (by rfl) ?yvqe4 ?nvqe4
                        case yvqe4 => intro W hW; go_simp; try with_reducible rfl
                        try simp only [Act.put, List.setIfInBounds_toArray, List.set_cons_zero, List.set_cons_succ]
                        refine stepK_read 5 (some 189) (v := ?vvqe5) rfl (by rfl) (by kernel_rfl) (by kernel_rfl) (by kernel_rfl) (fun _ _ _ h => h) (by rfl) ?yvqe5 ?nvqe5
                        case yvqe5 => intro W hW; have hc := (hW.cell (p := ⟨Bw, 1, none⟩) (by simp) (by show Bw < _; have := HR2.out.lt; omega)).trans HR2.out.2.1; go_simp; try with_reducible rfl
                        try simp only [Act.put, List.setIfInBounds_toArray, List.set_cons_zero, List.set_cons_succ]
                        -- 1: call:20 -> 185
                        refine stepK_only 1 rfl (by kernel_rfl) (by rfl) (fun K' hK => ?_)
                        go_simp
                        go_at_call 20
                        refine (err_any Br _ _ _ _ HR1.out).mono ?_
                        rintro en z1 ⟨rfl, rfl⟩
                        refine hK _ _ (Keep.refl _ _) ?_
                        clear hK K'
                        try simp only [Act.put, List.setIfInBounds_toArray, List.set_cons_zero, List.set_cons_succ]
                        refine stepK_read 6 (some 190) (v := ?vvqe6) rfl (by rfl) (by kernel_rfl) (by kernel_rfl) (by kernel_rfl) (fun _ _ _ h => h) (by rfl) ?yvqe6 ?nvqe6
                        case yvqe6 => intro W hW; go_simp; try with_reducible rfl
                        try simp only [Act.put, List.setIfInBounds_toArray, List.set_cons_zero, List.set_cons_succ]
                        refine stepK_read 7 (some 191) (v := ?vvqe7) rfl (by rfl) (by kernel_rfl) (by kernel_rfl) (by kernel_rfl) (fun _ _ _ h => h) (by rfl) ?yvqe7 ?nvqe7
                        case yvqe7 => intro W hW; go_simp; try with_reducible rfl
                        try simp only [Act.put, List.setIfInBounds_toArray, List.set_cons_zero, List.set_cons_succ]
                        refine stepK_read 8 (some 192) (v := ?vvqe8) rfl (by rfl) (by kernel_rfl) (by kernel_rfl) (by kernel_rfl) (fun _ _ _ h => h) (by rfl) ?yvqe8 ?nvqe8
                        case yvqe8 => intro W hW; go_simp; try with_reducible rfl
                        try simp only [Act.put, List.setIfInBounds_toArray, List.set_cons_zero, List.set_cons_succ]
                        refine stepK_read 10 (some 194) (v := ?vvqe10) rfl (by rfl) (by kernel_rfl) (by kernel_rfl) (by kernel_rfl) (fun _ _ _ h => h) (by rfl) ?yvqe10 ?nvqe10
                        case yvqe10 => intro W hW; go_simp; try with_reducible rfl
                        try simp only [Act.put, List.setIfInBounds_toArray, List.set_cons_zero, List.set_cons_succ]
                        refine stepK_read 11 (some 195) (v := ?vvqe11) rfl (by rfl) (by kernel_rfl) (by kernel_rfl) (by kernel_rfl) (fun _ _ _ h => h) (by rfl) ?yvqe11 ?nvqe11
                        case yvqe11 => intro W hW; go_simp; try with_reducible rfl
                        try simp only [Act.put, List.setIfInBounds_toArray, List.set_cons_zero, List.set_cons_succ]
                        refine stepK_read 12 (some 196) (v := ?vvqe12) rfl (by rfl) (by kernel_rfl) (by kernel_rfl) (by kernel_rfl) (fun _ _ _ h => h) (by rfl) ?yvqe12 ?nvqe12
                        case yvqe12 => intro W hW; go_simp; try with_reducible rfl
                        try simp only [Act.put, List.setIfInBounds_toArray, List.set_cons_zero, List.set_cons_succ]
                        refine stepK_read 13 (some 197) (v := ?vvqe13) rfl (by rfl) (by kernel_rfl) (by kernel_rfl) (by kernel_rfl) (fun _ _ _ h => h) (by rfl) ?yvqe13 ?nvqe13
                        case yvqe13 => intro W hW; have hc := (hW.cell (p := ⟨Bw, 0, none⟩) (by simp) (by show Bw < _; have := HR2.out.lt; omega)).trans HR2.out.1; go_simp; try with_reducible rfl
                        try simp only [Act.put, List.setIfInBounds_toArray, List.set_cons_zero, List.set_cons_succ]
                        refine stepK_read 14 (some 198) (v := ?vvqe14) rfl (by rfl) (by kernel_rfl) (by kernel_rfl) (by kernel_rfl) (fun _ _ _ h => h) (by rfl) ?yvqe14 ?nvqe14
                        case yvqe14 => intro W hW; go_simp; try with_reducible rfl
                        try simp only [Act.put, List.setIfInBounds_toArray, List.set_cons_zero, List.set_cons_succ]
                        -- 9: call:21 -> 193
                        refine stepK_only 9 rfl (by kernel_rfl) (by rfl) (fun K' hK => ?_)
                        go_simp
                        go_at_call 21
                        refine (left_any Br _ _ _ _ HR1.out).mono ?_
                        rintro en z9 ⟨rfl, rfl⟩
                        refine hK _ _ (Keep.refl _ _) ?_
                        clear hK K'
                        try simp only [Act.put, List.setIfInBounds_toArray, List.set_cons_zero, List.set_cons_succ]
                        refine stepK_read 15 (some 199) (v := ?vvqe15) rfl (by rfl) (by kernel_rfl) (by kernel_rfl) (by kernel_rfl) (fun _ _ _ h => h) (by rfl) ?yvqe15 ?nvqe15
                        case yvqe15 => intro W hW; go_simp; try with_reducible rfl
                        try simp only [Act.put, List.setIfInBounds_toArray, List.set_cons_zero, List.set_cons_succ]
                        refine stepK_read 16 (some 200) (v := ?vvqe16) rfl (by rfl) (by kernel_rfl) (by kernel_rfl) (by kernel_rfl) (fun _ _ _ h => h) (by rfl) ?yvqe16 ?nvqe16
                        case yvqe16 => intro W hW; go_simp; try with_reducible rfl
                        try simp only [Act.put, List.setIfInBounds_toArray, List.set_cons_zero, List.set_cons_succ]
                        refine wpAnyH_done (by kernel_rfl) ?_ _
                        have HLf := Lib.hid hbA8
                        clear hbA8 hbA6 hbA2 hbA
                        go_wp2_with fail
                        first
                          | exact ⟨⟨j2 + 1, _, _, R, e1, by omega, by go_num, HR1.out, HR2.out, by omega, HOV6.out, HLf.out.drew⟩, by simp [intOf]; omega⟩
                          | exact ⟨⟨j2 + 1, _, _, R, e1, by omega, by go_num, HR1.out, HR2.out, by omega, HOV6.out, HLf.out⟩, by simp [intOf]; omega⟩
                          | (go_roundw
                             case rel => exact ⟨j2 + 1, _, _, R, e1, by omega, by go_num, HR1.out, HR2.out, by omega, HOV6.out, HLf.out⟩
                             case measure => simp [intOf]; omega)
                · obtain rfl : j2 = la := by omega
                  have HLz := Lib.hid (HBXL.out.trans (hbq.mono (by have := HBXL.out.size; omega)))
                  clear hbq
                  go_wp2_with fail
                  exact ⟨⟨t + 1, by omega, by go_num, HLz.out⟩, by simp [intOf]; omega⟩
            · obtain rfl : t = 4 := by omega
              go_wp2
              go_ret
              exact ⟨rfl, by rw [hN]; exact HB6.out.trans (hbt.mono (by omega))⟩
end Go.Proofs.Ytjonkblingcbmaa.K
