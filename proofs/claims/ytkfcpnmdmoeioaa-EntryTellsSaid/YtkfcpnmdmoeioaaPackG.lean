/- What pack's texts hold for any program: encodings read back; what Put, Lump, Join return as slices; slices of slices that came in; bytes.Equal. -/
import Derived.Test.YtkfcpnmdmoeioaaPack5
import Derived.Test.YtkfcpnmdmoeioaaRegionB
import Derived.Lib.SlBytesConst
import Derived.Deep.Matrix
namespace Go.Proofs.Ytkfcpnmdmoeioaa.K
open Go.ChangeShapes Go.WideShapes Go.ChangeAt Go.RowKit
set_option linter.unusedVariables false

theorem IsNums.litF (k : IntKind) (w : World) (zs : List Int) (N : Nat) (e : TypeId) (fr : Nat × Nat) (n c : Nat) (hN : N = w.heap.size) (hn : n = zs.length) : IsNums k (w.alloc (.cells (zs.map (Value.int k)).toArray e fr)) (.slice (some ⟨N, 0, none⟩) n c) zs := by
  subst hN; subst hn
  refine ⟨_, c, rfl, .inr ⟨_, 0, rfl, by simp, fun j hj => ?_⟩⟩
  unfold World.cell? World.alloc
  simp [hj, List.getD]
theorem own_kept {w w' : World} {B base : Nat} {e : TypeId} {s : Nat} {v : Value} {n : Nat} {xs : List Value} (h : w.ownsRow base e s v n xs) (ho : Only B w w') (hB : B < base) : w'.ownsRow base e s v n xs := by
  refine h.kept ho ?_
  cases hb : v.ownBlock with
  | none => exact .inl rfl
  | some k => right; have := (h.lt k hb).1; intro e; injection e with e; omega
theorem bytes_of (l : List Int) (h : l.all fun x => decide (0 ≤ x ∧ x ≤ 255)) : ∀ x ∈ l, 0 ≤ x ∧ x ≤ 255 := by
  intro x hx
  have := List.all_eq_true.1 h x hx
  simpa using this
theorem enc_dec (rest : List Int) : ∀ (f n i acc : Nat), i + f = 9 → n * 2 ^ (7 * i) < 2 ^ 64 → (0 < i → n ≠ 0) → dec acc i (encF f n ++ rest) = .ok (acc + n * 2 ^ (7 * i)) (i + (encF f n).length)
  | 0, n, i, acc, hi, hb, hz => by
    obtain rfl : i = 9 := by omega
    have hn : n ≤ 1 := by omega
    have h0 := hz (by omega)
    obtain rfl : n = 1 := by omega
    simp [encF, dec]
  | f + 1, n, i, acc, hi, hb, hz => by
    unfold encF
    by_cases h : n < 128
    · rw [if_pos h]
      have hc : ¬ ((i = 9 ∧ (1 : Int) < (n : Int)) ∨ (0 < i ∧ (n : Int) = 0)) := by omega
      simp only [List.cons_append, List.nil_append, dec]
      rw [if_neg hc, if_pos (by omega)]
      rw [show ((n : Int) % 128).toNat = n by omega]
      simp
    · rw [if_neg h]
      have hc : ¬ ((i = 9 ∧ (1 : Int) < ((n % 128 + 128 : Nat) : Int)) ∨ (0 < i ∧ ((n % 128 + 128 : Nat) : Int) = 0)) := by omega
      simp only [List.cons_append, dec]
      rw [if_neg hc, if_neg (by omega)]
      have hpow : (2 : Nat) ^ (7 * (i + 1)) = 128 * 2 ^ (7 * i) := by rw [show 7 * (i + 1) = 7 + 7 * i by omega, Nat.pow_add]
      have hdm : 128 * (n / 128) + n % 128 = n := Nat.div_add_mod n 128
      have hmul : n / 128 * 2 ^ (7 * (i + 1)) = 128 * (n / 128) * 2 ^ (7 * i) := by rw [hpow]; ac_rfl
      have hle : 128 * (n / 128) * 2 ^ (7 * i) ≤ n * 2 ^ (7 * i) := Nat.mul_le_mul_right _ (by omega)
      rw [enc_dec rest f (n / 128) (i + 1) _ (by omega) (by omega) (by omega)]
      rw [show (((n % 128 + 128 : Nat) : Int) % 128).toNat = n % 128 by omega, hmul]
      have hsum : n * 2 ^ (7 * i) = 128 * (n / 128) * 2 ^ (7 * i) + n % 128 * 2 ^ (7 * i) := by rw [← Nat.add_mul, hdm]
      rw [hsum]
      simp
      constructor <;> omega
theorem dec_enc (x : Int) (h0 : 0 ≤ x) (h1 : x ≤ 18446744073709551615) (rest : List Int) : dec 0 0 (enc x ++ rest) = .ok x.toNat (enc x).length := by
  have := enc_dec rest 9 x.toNat 0 0 (by omega) (by simp; omega) (by omega)
  simpa [enc] using this
theorem short_dec : ∀ (f n i acc j : Nat), i + f = 9 → j < (encF f n).length → dec acc i ((encF f n).take j) = .err 21
  | 0, n, i, acc, j, hi, hj => by
    obtain rfl : j = 0 := by simp [encF] at hj; omega
    simp [dec]
  | f + 1, n, i, acc, j, hi, hj => by
    cases j with
    | zero => simp [dec]
    | succ j =>
      unfold encF at hj ⊢
      by_cases h : n < 128
      · rw [if_pos h] at hj; simp at hj
      · rw [if_neg h] at hj ⊢
        have hc : ¬ ((i = 9 ∧ (1 : Int) < ((n % 128 + 128 : Nat) : Int)) ∨ (0 < i ∧ ((n % 128 + 128 : Nat) : Int) = 0)) := by omega
        simp only [List.take_succ_cons, dec]
        rw [if_neg hc, if_neg (by omega)]
        exact short_dec f (n / 128) (i + 1) _ j (by omega) (by simpa using hj)
theorem enc_bytes (x : Int) (h1 : x ≤ 18446744073709551615) : ∀ b ∈ enc x, 0 ≤ b ∧ b ≤ 255 := by
  have : ∀ (f n : Nat), n < 128 ^ (f + 1) → ∀ b ∈ encF f n, 0 ≤ b ∧ b ≤ 255 := by
    intro f
    induction f with
    | zero => intro n hn b hb; simp [encF] at hb hn; omega
    | succ f ih =>
      intro n hn b hb
      unfold encF at hb
      split at hb
      · simp at hb; omega
      · rcases List.mem_cons.1 hb with rfl | hb
        · omega
        · refine ih (n / 128) ?_ b hb
          rw [Nat.pow_succ] at hn
          exact Nat.div_lt_of_lt_mul (by rw [Nat.mul_comm]; exact hn)
  refine this 9 x.toNat ?_
  have : (128 : Nat) ^ 10 = 1180591620717411303424 := by decide
  omega
theorem numR_ok (x : Int) (h0 : 0 ≤ x) (h1 : x ≤ 18446744073709551615) (rest : List Int) (most : Int) (hm : x ≤ most) : numR (enc x ++ rest) 0 most = (x, rest, 0) := by
  unfold numR
  rw [if_pos rfl, dec_enc x h0 h1 rest]
  simp only []
  rw [if_neg (by omega)]
  simp; omega
theorem numR_long (x : Int) (h0 : 0 ≤ x) (h1 : x ≤ 18446744073709551615) (rest : List Int) (most : Int) (hm : most < x) : numR (enc x ++ rest) 0 most = (0, [], 22) := by
  unfold numR
  rw [if_pos rfl, dec_enc x h0 h1 rest]
  simp only []
  rw [if_pos (by omega)]
theorem numR_bad (bs : List Int) (e most : Int) (h : e ≠ 0) : numR bs e most = (0, bs, e) := by rw [numR, if_neg h]
theorem lumpR_bad (bs : List Int) (e most : Int) (h : e ≠ 0) : lumpR bs e most = ([], bs, e) := by
  unfold lumpR
  rw [numR_bad _ _ _ h]
  rw [if_neg h]
theorem enc_small (x : Int) (h0 : 0 ≤ x) (h1 : x < 128) : enc x = [x] := by
  unfold enc encF
  rw [if_pos (by omega)]
  congr 1; omega
theorem getD_u64 {ys : List Int} (h : ∀ n ∈ ys, (Lit.int .u64 n).wf = true) (j : Nat) (hj : j < ys.length) : 0 ≤ ys.getD j 0 ∧ ys.getD j 0 ≤ 18446744073709551615 := by
  have := bounds_u64 (h (ys.getD j 0) (by simp [List.getD, hj]))
  omega
theorem info_u64 : (Try.prog.info? 62).map (fun i => (i.zero, i.size, i.bytes)) = some (some (.int .u64 0), 1, 8) := by kernel_rfl
theorem IsNums.drew {k : IntKind} {w : World} {v : Value} {zs : List Int} (h : IsNums k w v zs) : IsNums k w.drew v zs := h.below (Below.refl w.heap.size w).drew (Nat.le_refl _)
theorem conv_at {w W : World} {v : Value} {bs : List Int} (h : IsNums .u8 w v bs) (hW : Below w.heap.size w W) : (convert 22 9 v).run Try.prog W = .ok (.string (strOfNums bs)) W :=
  conv_str (h.below hW (Nat.le_refl _)) 22 5 Try.underlying22 Try.underlying5 9 Try.underlying9
theorem put_is (v : Value) (ns : List Int) (w : World) (hv : IsNums .u64 w v ns) (hb : ∀ j, j < ns.length → 0 ≤ ns.getD j 0 ∧ ns.getD j 0 ≤ 18446744073709551615) (hl : ns.length ≤ 1000) (S : List Int) (n : Nat) (hS : encs ns = S) (hn : S.length = n) :
    Calls Try.prog 48 #[v] w fun e w' => ∃ p c, e = .returned (.slice p n c) ∧ IsNums .u8 w' (.slice p n c) S ∧ Below w.heap.size w w' := by
  subst hS; subst hn
  refine (put_any v ns w hv hb hl).mono fun e w' h => ?_
  obtain ⟨u, rfl, hown, hbel⟩ := h
  have hN := IsNums.ofOwn hown
  obtain ⟨p, c, rfl, -⟩ := id hN
  exact ⟨p, c, rfl, hN, hbel⟩
theorem join_is (v : Value) (ls : List (List Int)) (w : World) (hv : IsLists w v ls) (hl : ls.length ≤ 1000) (hs : sumLen ls ≤ 1000000) (S : List Int) (n : Nat) (hS : ls.flatten = S) (hn : S.length = n) :
    Calls Try.prog 28 #[v] w fun e w' => ∃ p c, e = .returned (.slice p n c) ∧ IsNums .u8 w' (.slice p n c) S ∧ Below w.heap.size w w' := by
  subst hS; subst hn
  refine (join_any v ls w hv hl hs).mono fun e w' h => ?_
  obtain ⟨u, rfl, hown, hbel⟩ := h
  have hN := IsNums.ofOwn hown
  obtain ⟨p, c, rfl, -⟩ := id hN
  exact ⟨p, c, rfl, hN, hbel⟩
theorem IsLists.nil (w : World) (a : Option Addr) (c : Nat) : IsLists w (.slice a 0 c) [] := ⟨a, c, rfl, .inl rfl⟩
theorem IsNums.after {k : IntKind} {w w' : World} {v : Value} {zs : List Int} {o : Obj} (h : IsNums k w v zs) (hb : Below (w.alloc o).heap.size (w.alloc o) w') : IsNums k w' v zs := (h.alloc o).below hb (Nat.le_refl _)
theorem lists2 {w : World} {p q : Option Addr} {n m c d : Nat} {S1 S2 : List Int} {T : TypeId} (h1 : IsNums .u8 w (.slice p n c) S1) (h2 : IsNums .u8 w (.slice q m d) S2) :
    IsLists (w.alloc (.cells #[.slice p n c, .slice q m d] T)) (.slice (some ⟨w.heap.size, 0, none⟩) 2 2) [S1, S2] :=
  IsLists.lit w [.slice p n c, .slice q m d] [S1, S2] _ T 2 2 rfl rfl rfl (fun j hj => by
    match j, hj with
    | 0, _ => exact h1
    | 1, _ => exact h2)
theorem IsLists.below' {B : Nat} {w w' : World} {v : Value} {ls : List (List Int)} (h : IsLists w v ls) (hb : Below B w w') (hB : w.heap.size ≤ B) : IsLists w' v ls := by
  obtain ⟨a, c, rfl, h | ⟨b, off, rfl, h1, h2⟩⟩ := h
  · exact ⟨a, c, rfl, .inl h⟩
  · refine ⟨_, c, rfl, .inr ⟨b, off, rfl, by have := hb.size; omega, fun j hj => ?_⟩⟩
    obtain ⟨u, hu, hn⟩ := h2 j hj
    exact ⟨u, by rw [hb.cell (by show b < B; omega)]; exact hu, hn.below hb hB⟩
/-- A slice of slices of bytes that came in, as a list of lists. -/
theorem IsLists.ofTrod {H : Type} {enc : TypeId × Value → H} {W : World} {base : Nat} {held : Bool} {fuel : Nat} {a : Option Addr} {len cap : Nat} {x : DataW H × List MemPlace}
    (h : DataW.trod enc Try.prog W base (fun _ => true) held fuel 49 [.slice a len cap] = some x) (ce : Try.prog.cellsOf 22 = 1) (cq : Try.prog.cellsOf 5 = 1) :
    ∃ ls, IsLists W (.slice a len cap) ls ∧ ls.length = len ∧ len ≤ cap ∧ cap ≤ maxLen ∧ ∀ j, j < ls.length → ∀ y ∈ ls.getD j [], 0 ≤ y ∧ y ≤ 255 := by
  rcases Deep.open_int_rows Try.underlying49 Try.underlying22 Try.underlying5 ce cq h with ⟨hcs, -⟩ | ⟨b, l, c, A, L, C, Z, hcs, -, hl, hm, -, hr⟩
  · simp only [List.cons.injEq, Value.slice.injEq, and_true] at hcs
    obtain ⟨rfl, rfl, rfl⟩ := hcs
    exact ⟨[], ⟨none, 0, rfl, .inl rfl⟩, rfl, Nat.le_refl _, Nat.zero_le _, by simp⟩
  · simp only [List.cons.injEq, Value.slice.injEq, and_true] at hcs
    obtain ⟨rfl, rfl, rfl⟩ := hcs
    refine ⟨(List.range len).map fun r => (Z r).take (L r), ?_, by simp, hl, hm, fun j hj => ?_⟩
    · refine ⟨some b, cap, by simp, ?_⟩
      by_cases h0 : len = 0
      · left; simp [h0]
      obtain ⟨bb, bo, spot⟩ := b
      have hc0 := (hr 0 (by omega)).1
      have hspot : spot = none := by simpa [Addr.add] using World.cell?_spot hc0
      subst hspot
      refine .inr ⟨bb, bo, rfl, World.block_lt_of_cell? W _ hc0, fun j hj => ?_⟩
      simp only [List.length_map, List.length_range] at hj
      obtain ⟨c1, c2, c3, c4, c5, c6, c7⟩ := hr j (by omega)
      rw [Addr.add_lit] at c1
      refine ⟨_, c1, ?_⟩
      have e : ((List.range len).map fun r => (Z r).take (L r)).getD j [] = (Z j).take (L j) := by simp [List.getD, hj]
      rw [e]
      have hlen : ((Z j).take (L j)).length = L j := by simp; omega
      refine ⟨A j, C j, by rw [hlen], ?_⟩
      by_cases hL : L j = 0
      · left; rw [hlen]; exact hL
      obtain ⟨a', ha'⟩ : ∃ a', A j = some a' := by
        cases hA : A j with
        | none => have := c6 hA; omega
        | some a' => exact ⟨a', rfl⟩
      obtain ⟨ab, ao, asp⟩ := a'
      have c8 := (c7 _ ha').2
      have hc1 := c8 0 (by omega)
      have hsp : asp = none := by simpa [Addr.add] using World.cell?_spot hc1
      subst hsp
      refine .inr ⟨ab, ao, ha', World.block_lt_of_cell? W _ hc1, fun q hq => ?_⟩
      rw [hlen] at hq
      have := c8 q (by omega)
      rw [Addr.add_lit] at this
      rw [this]
      simp only [List.getD, List.getElem?_take]
      rw [if_pos hq]
    · simp only [List.length_map, List.length_range] at hj
      obtain ⟨c1, c2, c3, c4, c5, c6, c7⟩ := hr j (by omega)
      have e : ((List.range len).map fun r => (Z r).take (L r)).getD j [] = (Z j).take (L j) := by simp [List.getD, hj]
      rw [e]
      intro y hy
      have := bounds_u8 (c5 y (List.mem_of_mem_take hy))
      omega
theorem lump_is (v : Value) (bs : List Int) (w : World) (h : IsNums .u8 w v bs) (hl : bs.length ≤ 100000) (S : List Int) (n : Nat) (hS : enc bs.length ++ bs = S) (hn : S.length = n) :
    Calls Try.prog 30 #[v] w fun e w' => ∃ p c, e = .returned (.slice p n c) ∧ IsNums .u8 w' (.slice p n c) S ∧ Below w.heap.size w w' := by
  subst hS; subst hn
  refine (lump_any v bs w h hl).mono fun e w' h => ?_
  obtain ⟨u, rfl, hown, hbel⟩ := h
  have hN := IsNums.ofOwn hown
  obtain ⟨p, c, rfl, -⟩ := id hN
  exact ⟨p, c, rfl, hN, hbel⟩
theorem lumpR_ok (l rest : List Int) (most : Int) (h0 : (l.length : Int) ≤ most) (h1 : l.length ≤ 100000) : lumpR (enc l.length ++ (l ++ rest)) 0 most = (l, rest, 0) := by
  unfold lumpR
  rw [numR_ok (l.length : Int) (by omega) (by omega) (l ++ rest) (max most 0) (by omega)]
  simp only []
  rw [if_pos trivial, if_neg (by simp; omega)]
  simp
theorem flatten_len (L : List (List Int)) (m : Nat) (h : ∀ l ∈ L, l.length ≤ m) : L.flatten.length ≤ L.length * m := by
  induction L with
  | nil => simp
  | cons l L ih =>
    have h1 := ih (fun x hx => h x (by simp [hx]))
    have h2 := h l (by simp)
    rw [List.flatten_cons, List.length_append, List.length_cons, Nat.succ_mul]
    omega
theorem drop_flat (L : List (List Int)) (j : Nat) (h : j < L.length) : (L.drop j).flatten = L.getD j [] ++ (L.drop (j + 1)).flatten := by
  rw [List.drop_eq_getElem_cons h, List.flatten_cons]
  simp [List.getD, h]
theorem str_beq {a b : List Int} (ha : ∀ x ∈ a, 0 ≤ x ∧ x ≤ 255) (hb : ∀ x ∈ b, 0 ≤ x ∧ x ≤ 255) : ((strOfNums a).toList == (strOfNums b).toList) = decide (a = b) := by
  rw [Bool.eq_iff_iff]
  simp only [beq_iff_eq, decide_eq_true_eq]
  constructor
  · intro h
    refine str_inj ha hb (bytes_inj ?_)
    rw [← ByteArray.toList_eq, ← ByteArray.toList_eq]
    exact h
  · rintro rfl; rfl
set_option maxRecDepth 100000 in
theorem equal_any (w : World) (u v : Value) (xs ys : List Int) (hu : IsNums .u8 w u xs) (hv : IsNums .u8 w v ys) (hx : ∀ x ∈ xs, 0 ≤ x ∧ x ≤ 255) (hy : ∀ x ∈ ys, 0 ≤ x ∧ x ≤ 255) :
    Calls Try.prog 36 #[u, v] w fun e w' => e = .returned (.bool (decide (xs = ys))) ∧ w' = w := by
  obtain ⟨p1, c1, rfl, -⟩ := id hu
  obtain ⟨p2, c2, rfl, -⟩ := id hv
  have h1 := conv_str (P := Try.prog) hu 22 5 Try.underlying22 Try.underlying5 9 Try.underlying9
  have h2 := conv_str (P := Try.prog) hv 22 5 Try.underlying22 Try.underlying5 9 Try.underlying9
  have HD := Lib.hid (str_beq hx hy)
  clear hu hv hx hy
  go_enter Try.func36, Try.ntmps36
  go_wp2
  go_ret
  exact ⟨ret_bool HD.out, rfl⟩
end Go.Proofs.Ytkfcpnmdmoeioaa.K
