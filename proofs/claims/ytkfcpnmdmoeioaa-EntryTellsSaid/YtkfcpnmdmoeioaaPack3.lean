/- What a pack.Reader's number reads of any bytes. -/
import Derived.Test.YtkfcpnmdmoeioaaPack2
import Derived.Laws.Bits64
namespace Go.Proofs.Ytkfcpnmdmoeioaa.K
open Go.ChangeShapes Go.WideShapes Go.ChangeAt Go.RowKit
set_option linter.unusedVariables false

/-- A slice of numbers that lies below block number N. -/
def NumsLt (N : Nat) (k : IntKind) (w : World) (v : Value) (zs : List Int) : Prop :=
  ∃ a c, v = .slice a zs.length c ∧ zs.length ≤ c ∧ c ≤ 9223372036854775807 ∧ (zs.length = 0 ∨ ∃ b off, a = some ⟨b, off, none⟩ ∧ b < N ∧ ∀ j, j < zs.length → w.cell? ⟨b, off + j, none⟩ = some (.int k (zs.getD j 0)))

theorem NumsLt.below {N : Nat} {k : IntKind} {w w' : World} {v : Value} {zs : List Int} (h : NumsLt N k w v zs) (hb : Below N w w') : NumsLt N k w' v zs := by
  obtain ⟨a, c, rfl, hc1, hc2, h | ⟨b, off, rfl, h1, h2⟩⟩ := h
  · exact ⟨a, c, rfl, hc1, hc2, .inl h⟩
  · refine ⟨_, c, rfl, hc1, hc2, .inr ⟨b, off, rfl, h1, fun j hj => ?_⟩⟩
    rw [hb.cell (by show b < N; omega)]
    exact h2 j hj
theorem NumsLt.nums {N : Nat} {k : IntKind} {w : World} {v : Value} {zs : List Int} (h : NumsLt N k w v zs) (hN : N ≤ w.heap.size) : IsNums k w v zs := by
  obtain ⟨a, c, rfl, hc1, hc2, h | ⟨b, off, rfl, h1, h2⟩⟩ := h
  · exact ⟨a, c, rfl, .inl h⟩
  · exact ⟨_, c, rfl, .inr ⟨b, off, rfl, by omega, h2⟩⟩

/-- What is read of bytes: the number and how many bytes it took; or an error. -/
inductive Dec where
  | ok (n : Nat) (k : Nat)
  | err (e : Int)

def dec : Nat → Nat → List Int → Dec
  | _, _, [] => .err 21
  | acc, i, b :: r => if (i = 9 ∧ 1 < b) ∨ (0 < i ∧ b = 0) then .err 20 else
      if b < 128 then .ok (acc + (b % 128).toNat * 2 ^ (7 * i)) (i + 1) else dec (acc + (b % 128).toNat * 2 ^ (7 * i)) (i + 1) r

theorem andNot128 (b : Int) (h0 : 0 ≤ b) (h1 : b ≤ 255) : bits .andNot .u8 b 128 = b % 128 := by
  have h : ∀ z : Fin 256, bits .andNot .u8 ((z.val : Nat) : Int) 128 = ((z.val : Nat) : Int) % 128 := by decide +kernel
  have := h ⟨b.toNat, by omega⟩
  simp only at this
  rw [show ((b.toNat : Nat) : Int) = b by omega] at this
  exact this

theorem or_shift (acc k : Nat) (x : Int) (hacc : acc < 2 ^ (7 * k)) (hk : k ≤ 9) (x0 : 0 ≤ x) (hx : x ≤ 255) (h9 : k = 9 → x ≤ 1) :
    bits .or .u64 (acc : Int) (IntKind.u64.wrap (x % 128 * 2 ^ (7 * k))) = ((acc + (x % 128).toNat * 2 ^ (7 * k) : Nat) : Int) := by
  obtain ⟨y, hy⟩ : ∃ y : Nat, x % 128 = y := ⟨(x % 128).toNat, by omega⟩
  have hy1 : y < 128 := by omega
  have hy9 : k = 9 → y ≤ 1 := fun h => by have := h9 h; omega
  rw [hy]
  have hb : y * 2 ^ (7 * k) < 2 ^ 64 := by
    by_cases e : k = 9
    · subst e
      have := hy9 rfl
      have : y * 2 ^ (7 * 9) ≤ 1 * 2 ^ (7 * 9) := Nat.mul_le_mul_right _ this
      exact Nat.lt_of_le_of_lt this (by decide)
    · have h1 : 2 ^ (7 * k) ≤ 2 ^ 56 := Nat.pow_le_pow_right (by decide) (by omega)
      have h2 : y * 2 ^ (7 * k) ≤ 127 * 2 ^ 56 := Nat.mul_le_mul (by omega) h1
      exact Nat.lt_of_le_of_lt h2 (by decide)
  have ha : acc < 2 ^ 64 := Nat.lt_of_lt_of_le hacc (Nat.pow_le_pow_right (by decide) (by omega))
  have hcast : ((y : Int) * 2 ^ (7 * k)) = ((y * 2 ^ (7 * k) : Nat) : Int) := by simp
  have hw : ∀ n : Int, 0 ≤ n → n < 2 ^ 64 → IntKind.u64.wrap n = n := fun n h0 h1 => by rw [IntKind.wrap_u64]; omega
  rw [hcast, hw _ (by omega) (by have : ((y * 2 ^ (7 * k) : Nat) : Int) < ((2 ^ 64 : Nat) : Int) := Int.ofNat_lt.2 hb; simpa using this)]
  have h := (bits_nat .u64 64 (by decide) hw acc (y * 2 ^ (7 * k)) ha hb).2
  rw [h]
  have h2 : 2 ^ (7 * k) * y + acc = 2 ^ (7 * k) * y ||| acc := Nat.two_pow_add_eq_or_of_lt hacc y
  rw [Nat.or_comm, Nat.mul_comm y, ← h2, Int.toNat_natCast, Nat.mul_comm, Nat.add_comm]

theorem acc_bound (acc k : Nat) (x : Int) (hacc : acc < 2 ^ (7 * k)) : acc + (x % 128).toNat * 2 ^ (7 * k) < 2 ^ (7 * (k + 1)) := by
  have h1 : (x % 128).toNat ≤ 127 := by omega
  have h2 : (x % 128).toNat * 2 ^ (7 * k) ≤ 127 * 2 ^ (7 * k) := Nat.mul_le_mul_right _ h1
  rw [show 7 * (k + 1) = 7 * k + 7 by omega, Nat.pow_add]
  omega

/-- The state of a reader: where it lies, what is left of it, its first error. -/
def IsReader (w : World) (B : Nat) (v : Value) (bs : List Int) (e : Int) : Prop :=
  w.cell? ⟨B, 0, none⟩ = some v ∧ w.cell? ⟨B, 1, none⟩ = some (.int .i64 e) ∧ w.frozen? ⟨B, 0, none⟩ = false ∧ w.frozen? ⟨B, 1, none⟩ = false ∧ NumsLt B .u8 w v bs ∧ ∀ x ∈ bs, 0 ≤ x ∧ x ≤ 255

theorem reader_shift {w : World} {B b off c k c' : Nat} {bs : List Int} {e : Int} {v : Value} {a' : Option Addr} (h0 : w.cell? ⟨B, 0, none⟩ = some v) (h1 : w.cell? ⟨B, 1, none⟩ = some (.int .i64 e)) (h2 : w.frozen? ⟨B, 0, none⟩ = false) (h3 : w.frozen? ⟨B, 1, none⟩ = false)
    (hblk : b < B) (hcell : ∀ j, j < bs.length → w.cell? ⟨b, off + j, none⟩ = some (.int .u8 (bs.getD j 0))) (hbs : ∀ x ∈ bs, 0 ≤ x ∧ x ≤ 255) (hk : k ≤ bs.length) (hc1 : bs.length - k ≤ c') (hc2 : c' ≤ 9223372036854775807) (ha : bs.length - k = 0 ∨ a' = some ⟨b, off + k, none⟩) :
    IsReader (w.setCell ⟨B, 0, none⟩ (.slice a' (bs.length - k) c')) B (.slice a' (bs.length - k) c') (bs.drop k) e := by
  refine ⟨World.cell?_setCell_same _ _ _ h0, ?_, by rw [World.frozen?_setCell]; exact h2, by rw [World.frozen?_setCell]; exact h3, ?_, fun x hx => hbs x (List.mem_of_mem_drop hx)⟩
  · rw [World.cell?_setCell_other _ _ _ _ (by simp)]; exact h1
  · have hl : (bs.drop k).length = bs.length - k := by simp
    refine NumsLt.below (w := w) ⟨a', c', by rw [hl], by omega, hc2, ?_⟩ ((Below.refl B w).setCell (p := ⟨B, 0, none⟩) (Nat.le_refl _) _)
    rcases ha with ha | ha
    · left; omega
    · right
      refine ⟨b, off + k, ha, hblk, fun j hj => ?_⟩
      have := hcell (k + j) (by omega)
      rw [show off + k + j = off + (k + j) by omega, this]
      simp [List.getD]

def decPost (w : World) (B : Nat) (bs : List Int) (e : Int) : Dec → Ending → World → Prop
  | .ok n k, en, w' => en = .returned (.tuple #[.int .u64 n, .int .i64 0]) ∧ ∃ v', w' = w.setCell ⟨B, 0, none⟩ v' ∧ IsReader w' B v' (bs.drop k) e
  | .err er, en, w' => en = .returned (.tuple #[.int .u64 0, .int .i64 er]) ∧ w' = w

set_option maxRecDepth 100000 in
set_option maxHeartbeats 2000000 in
theorem number_any (B : Nat) (v : Value) (bs : List Int) (e : Int) (w : World) (h : IsReader w B v bs e) :
    Calls Try.prog 49 #[.pointer (some ⟨B, 0, none⟩)] w fun en w' => decPost w B bs e (dec 0 0 bs) en w' := by
  obtain ⟨h0, h1, h2, h3, ⟨p, c, rfl, hc1, hc2, hcells⟩, hbs⟩ := h
  have HC := Lib.hid hcells
  have HB := Lib.hid hbs
  clear hcells hbs
  go_enter Try.func49, Try.ntmps49
  go_wp2
  go_loop [4, 12] (fun a i => ∃ k acc : Nat, k ≤ bs.length ∧ k ≤ 9 ∧ i = .int .i64 k ∧ a = .int .u64 acc ∧ acc < 2 ^ (7 * k) ∧ dec acc k (bs.drop k) = dec 0 0 bs) (fun _ i => bs.length - (intOf i).toNat)
  case atStart => exact ⟨0, 0, Nat.zero_le _, by omega, rfl, rfl, by simp, rfl⟩
  case round =>
    obtain ⟨k, acc, hk, hk9, rfl, rfl, hacc, hd⟩ := hrel
    by_cases hlt : k < bs.length
    · obtain h0 | ⟨b, off, rfl, hblk, hcell⟩ := HC.out
      · omega
      have hc := hcell k hlt
      have hxm : bs.getD k 0 ∈ bs := by simp [List.getD, hlt]
      have hx1 := HB.out _ hxm
      have hdr : bs.drop k = bs.getD k 0 :: bs.drop (k + 1) := by rw [List.drop_eq_getElem_cons hlt]; simp [List.getD, hlt]
      obtain ⟨x, hx⟩ : ∃ x, bs.getD k 0 = x := ⟨_, rfl⟩
      rw [hdr] at hd
      rw [hx] at hc hx1 hd
      obtain ⟨x0, x255⟩ := hx1
      have HX := Lib.hid hx
      have HD := Lib.hid hd
      have HA := Lib.hid hacc
      clear hcell hxm hdr hx hd hacc
      by_cases hC : (k = 9 ∧ 1 < x) ∨ (0 < k ∧ x = 0)
      · have hfin : dec 0 0 bs = .err 20 := by rw [← HD.out, dec, if_pos hC]
        have HF := Lib.hid hfin
        clear hfin
        by_cases h91 : k = 9 ∧ 1 < x
        · have hq9 : ((k : Int) == 9) = true := by rw [beq_iff_eq]; omega
          have hx2 := h91.2
          clear hC h91
          go_wp2
          go_ret2
          rw [HF.out]
          exact ⟨rfl, rfl⟩
        · have hz : 0 < k ∧ x = 0 := by omega
          have hq0 : (x == 0) = true := by rw [beq_iff_eq]; exact hz.2
          have hk1 := hz.1
          have hxl : x ≤ 1 := by omega
          clear hC h91 hz
          by_cases h9 : k = 9
          · have hq9 : ((k : Int) == 9) = true := by rw [beq_iff_eq]; omega
            clear h9
            go_wp2
            go_ret2
            rw [HF.out]
            exact ⟨rfl, rfl⟩
          · have hq9 : ((k : Int) == 9) = false := by rw [beq_eq_false_iff_ne]; omega
            go_wp2
            go_ret2
            rw [HF.out]
            exact ⟨rfl, rfl⟩
      · have hor := or_shift acc k x HA.out hk9 x0 x255 (by omega)
        have hab := acc_bound acc k x HA.out
        have hdec : dec acc k (x :: bs.drop (k + 1)) = if x < 128 then .ok (acc + (x % 128).toNat * 2 ^ (7 * k)) (k + 1) else dec (acc + (x % 128).toNat * 2 ^ (7 * k)) (k + 1) (bs.drop (k + 1)) := by rw [dec, if_neg hC]
        rw [HD.out] at hdec
        generalize acc + (x % 128).toNat * 2 ^ (7 * k) = N at hor hab hdec
        have han := andNot128 x x0 x255
        have HN := Lib.hid hab
        have HE := Lib.hid hdec
        clear hab hdec
        have fin : ∀ (a' : Option Addr) (c' : Nat), x < 128 → (bs.length - (k + 1) ≤ c') → c' ≤ 9223372036854775807 → (bs.length - (k + 1) = 0 ∨ a' = some ⟨b, off + (k + 1), none⟩) →
            decPost w B bs e (dec 0 0 bs) (.returned (.tuple #[.int .u64 (N : Int), .int .i64 0])) (w.setCell ⟨B, 0, none⟩ (.slice a' (bs.length - (k + 1)) c')) := by
          intro a' c' hx128 g1 g2 g3
          rw [HE.out, if_pos hx128]
          obtain hl0 | ⟨b', off', hbb, hblk', hcell'⟩ := HC.out
          · omega
          · obtain ⟨rfl, rfl⟩ : b = b' ∧ off = off' := by simpa using hbb
            exact ⟨rfl, _, rfl, reader_shift (c := c) h0 h1 h2 h3 hblk hcell' HB.out (by omega) g1 g2 g3⟩
        have FIN := Lib.hid fin
        clear fin
        by_cases hk0 : k ≤ 0
        · have hq9 : ((k : Int) == 9) = false := by rw [beq_eq_false_iff_ne]; omega
          clear hC
          by_cases hb : x < 128
          · go_wp2
            all_goals (go_ret2; exact FIN.out _ _ hb (by omega) (by omega) (by first | (right; rfl) | (left; omega)))
          · go_wp2
            go_round
            case rel => exact ⟨k + 1, N, by omega, by omega, by go_num, rfl, HN.out, by rw [HE.out, if_neg hb]⟩
            case measure => simp [intOf]; omega
        · have hqz : (x == 0) = false := by rw [beq_eq_false_iff_ne]; omega
          by_cases h9 : k = 9
          · have hq9 : ((k : Int) == 9) = true := by rw [beq_iff_eq]; omega
            have hb : x < 128 := by omega
            have hx1 : x ≤ 1 := by omega
            clear hC h9
            go_wp2
            all_goals (go_ret2; exact FIN.out _ _ hb (by omega) (by omega) (by first | (right; rfl) | (left; omega)))
          · have hq9 : ((k : Int) == 9) = false := by rw [beq_eq_false_iff_ne]; omega
            clear hC
            by_cases hb : x < 128
            · go_wp2
              all_goals (go_ret2; exact FIN.out _ _ hb (by omega) (by omega) (by first | (right; rfl) | (left; omega)))
            · go_wp2
              go_round
              case rel => exact ⟨k + 1, N, by omega, by omega, by go_num, rfl, HN.out, by rw [HE.out, if_neg hb]⟩
              case measure => simp [intOf]; omega
    · obtain rfl : k = bs.length := by omega
      have hfin : dec 0 0 bs = .err 21 := by rw [← hd, List.drop_length, dec]
      have HF := Lib.hid hfin
      clear hfin hd
      go_wp2
      go_ret2
      rw [HF.out]
      exact ⟨rfl, rfl⟩

end Go.Proofs.Ytkfcpnmdmoeioaa.K
