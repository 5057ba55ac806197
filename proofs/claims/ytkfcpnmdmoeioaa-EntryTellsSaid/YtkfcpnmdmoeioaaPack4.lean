/- What a pack.Reader's Num, Lump, Left and Err tell of any bytes; what New makes. -/
import Derived.Test.YtkfcpnmdmoeioaaPack3
import Derived.RegionTactic
import Derived.ChangeAlike
namespace Go.Proofs.Ytkfcpnmdmoeioaa.K
open Go.ChangeShapes Go.WideShapes Go.ChangeAt Go.RowKit
set_option linter.unusedVariables false

/-- Of w nothing but block B has turned; there may be new blocks. -/
def Only (B : Nat) (w w' : World) : Prop := w.grownBy w' (some B)
theorem Only.refl (B : Nat) (w : World) : Only B w w := ⟨rfl, rfl, rfl, Nat.le_refl _, fun _ _ _ => rfl⟩
theorem Only.trans {B : Nat} {a b c : World} (h : Only B a b) (k : Only B b c) : Only B a c :=
  ⟨k.os.trans h.os, k.tape.trans h.tape, k.output.trans h.output, Nat.le_trans h.size k.size, fun i hi hne => (k.block i (Nat.lt_of_lt_of_le hi h.size) hne).trans (h.block i hi hne)⟩
theorem Only.set (B : Nat) (w : World) (o : Nat) (v : Value) : Only B w (w.setCell ⟨B, o, none⟩ v) :=
  ⟨rfl, rfl, rfl, by simp [World.setCell], fun k _ hne => Below.heap_setCell _ _ _ _ (fun e => hne (by rw [e]))⟩
theorem Only.ofBelow {B : Nat} {w w' : World} (h : Below w.heap.size w w') : Only B w w' := ⟨h.os, h.tape, h.output, h.size, fun k hk _ => h.block k hk⟩
theorem Only.below {B N : Nat} {w w' : World} (h : Only B w w') (hB : N ≤ B) (hN : N ≤ w.heap.size) : Below N w w' :=
  ⟨h.os, h.tape, h.output, h.size, fun k hk => h.block k (by omega) (fun e => by cases e; omega)⟩
theorem Only.drew (B : Nat) (w : World) : Only B w w.drew := ⟨rfl, rfl, rfl, Nat.le_refl _, fun _ _ _ => rfl⟩

theorem IsReader.lt {w : World} {B : Nat} {v : Value} {bs : List Int} {e : Int} (h : IsReader w B v bs e) : B < w.heap.size := World.block_lt_of_cell? w ⟨B, 0, none⟩ h.1

/-- A reader under what turns other blocks. -/
theorem IsReader.kept {w w' : World} {B B2 : Nat} {v : Value} {bs : List Int} {e : Int} (h : IsReader w B v bs e) (ho : Only B2 w w') (hB : B < B2) : IsReader w' B v bs e := by
  have hlt := h.lt
  obtain ⟨h0, h1, h2, h3, h4, h5⟩ := h
  have hb : w'.heap[B]? = w.heap[B]? := ho.block B hlt (fun e => by cases e; omega)
  exact ⟨by rw [World.cell?_of_block (w := w) hb]; exact h0, by rw [World.cell?_of_block (w := w) hb]; exact h1, by rw [World.frozen?_of_block (w := w) hb]; exact h2, by rw [World.frozen?_of_block (w := w) hb]; exact h3, h4.below (ho.below (by omega) (by omega)), h5⟩
theorem IsReader.later {w w' : World} {B : Nat} {v : Value} {bs : List Int} {e : Int} (h : IsReader w B v bs e) (hb : Below w.heap.size w w') : IsReader w' B v bs e := by
  have hlt := h.lt
  obtain ⟨h0, h1, h2, h3, h4, h5⟩ := h
  exact ⟨by rw [hb.cell (by exact hlt)]; exact h0, by rw [hb.cell (by exact hlt)]; exact h1, by rw [hb.frozen (by exact hlt)]; exact h2, by rw [hb.frozen (by exact hlt)]; exact h3, h4.below (hb.mono (by omega)), h5⟩

set_option maxHeartbeats 1000000 in
theorem fail_any (B : Nat) (v : Value) (bs : List Int) (e er : Int) (w : World) (h : IsReader w B v bs e) :
    Calls Try.prog 50 #[.pointer (some ⟨B, 0, none⟩), .int .i64 er] w fun en w' => en = .returned (.tuple #[]) ∧ IsReader w' B (.slice none 0 0) [] er ∧ Only B w w' := by
  obtain ⟨h0, h1, h2, h3, h4, h5⟩ := h
  go_enter Try.func50, Try.ntmps50
  go_wp2
  go_returns
  refine ⟨rfl, ⟨?_, ?_, ?_, ?_, ⟨none, 0, rfl, Nat.le_refl _, by omega, .inl rfl⟩, by simp⟩, (Only.set B w 0 _).trans (Only.set B _ 1 _)⟩
  · rw [World.cell?_setCell_other _ _ _ _ (by simp)]
    exact World.cell?_setCell_same _ _ _ h0
  · exact World.cell?_setCell_same _ _ _ (by rw [World.cell?_setCell_other _ _ _ _ (by simp)]; exact h1)
  · rw [World.frozen?_setCell, World.frozen?_setCell]; exact h2
  · rw [World.frozen?_setCell, World.frozen?_setCell]; exact h3

theorem number_ok (B : Nat) (v : Value) (bs : List Int) (e : Int) (w : World) (h : IsReader w B v bs e) (n k : Nat) (hd : dec 0 0 bs = .ok n k) :
    Calls Try.prog 49 #[.pointer (some ⟨B, 0, none⟩)] w fun en w' => en = .returned (.tuple #[.int .u64 n, .int .i64 0]) ∧ ∃ v', IsReader w' B v' (bs.drop k) e ∧ Only B w w' := by
  refine (number_any B v bs e w h).mono fun en w' hp => ?_
  rw [hd] at hp
  obtain ⟨h1, v', rfl, h2⟩ := hp
  exact ⟨h1, v', h2, Only.set B w 0 _⟩
theorem number_err (B : Nat) (v : Value) (bs : List Int) (e : Int) (w : World) (h : IsReader w B v bs e) (er : Int) (hd : dec 0 0 bs = .err er) :
    Calls Try.prog 49 #[.pointer (some ⟨B, 0, none⟩)] w fun en w' => en = .returned (.tuple #[.int .u64 0, .int .i64 er]) ∧ w = w' := by
  refine (number_any B v bs e w h).mono fun en w' hp => ?_
  rw [hd] at hp
  exact ⟨hp.1, hp.2.symm⟩

theorem dec_err : ∀ (bs : List Int) (acc i : Nat) (er : Int), dec acc i bs = .err er → er = 20 ∨ er = 21
  | [], acc, i, er, h => by rw [dec] at h; cases h; exact .inr rfl
  | b :: r, acc, i, er, h => by
    rw [dec] at h
    split at h
    · cases h; exact .inl rfl
    · split at h
      · cases h
      · exact dec_err r _ _ er h
theorem dec_ok : ∀ (bs : List Int) (acc i n k : Nat), (∀ x ∈ bs, 0 ≤ x ∧ x ≤ 255) → i ≤ 9 → acc < 2 ^ (7 * i) → dec acc i bs = .ok n k → n < 2 ^ 64 ∧ i < k ∧ k ≤ i + bs.length
  | [], acc, i, n, k, _, _, _, h => by rw [dec] at h; cases h
  | b :: r, acc, i, n, k, hb, hi, ha, h => by
    have hbb := hb b (by simp)
    rw [dec] at h
    split at h
    · cases h
    · rename_i hc
      split at h
      · cases h
        refine ⟨?_, by omega, by simp⟩
        by_cases h9 : i = 9
        · subst h9
          have : (b % 128).toNat ≤ 1 := by omega
          have h2 : (b % 128).toNat * 2 ^ (7 * 9) ≤ 1 * 2 ^ (7 * 9) := Nat.mul_le_mul_right _ this
          have h3 : (2 : Nat) ^ (7 * 9) + 2 ^ (7 * 9) = 2 ^ 64 := by decide
          omega
        · have := acc_bound acc i b ha
          have h2 : 2 ^ (7 * (i + 1)) ≤ 2 ^ 64 := Nat.pow_le_pow_right (by decide) (by omega)
          omega
      · rename_i h128
        by_cases h9 : i = 9
        · exfalso; omega
        · have := dec_ok r _ (i + 1) n k (fun x hx => hb x (by simp [hx])) (by omega) (acc_bound acc i b ha) h
          simp; omega

/-- What Num gives, what is left, the error behind it. -/
def numR (bs : List Int) (e most : Int) : Int × List Int × Int :=
  if e = 0 then match dec 0 0 bs with
    | .err er => (0, [], er)
    | .ok n k => if most < n then (0, [], 22) else (n, bs.drop k, 0)
  else (0, bs, e)

set_option maxRecDepth 100000 in
set_option maxHeartbeats 1000000 in
theorem num_any (B : Nat) (v : Value) (bs : List Int) (e most : Int) (w : World) (h : IsReader w B v bs e) (m0 : 0 ≤ most) :
    Calls Try.prog 37 #[.pointer (some ⟨B, 0, none⟩), .int .u64 most] w fun en w' => en = .returned (.int .u64 (numR bs e most).1) ∧ ∃ v', IsReader w' B v' (numR bs e most).2.1 (numR bs e most).2.2 ∧ Only B w w' := by
  have h1 := h.2.1
  have H := Lib.hid h
  by_cases he : e = 0
  · subst he
    cases hd : dec 0 0 bs with
    | err er =>
      have hres : numR bs 0 most = (0, [], er) := by rw [numR, if_pos rfl, hd]
      have hq : (er == 0) = false := by rw [beq_eq_false_iff_ne]; have := dec_err _ _ _ _ hd; omega
      have HR := Lib.hid hres
      have HD := Lib.hid hd
      clear hres hd h
      go_enter Try.func37, Try.ntmps37
      go_wp2_with (first | (go_at_call 49; ((with_reducible refine (number_err B v bs 0 _ H.out er HD.out).mono ?_); rintro en w' ⟨rfl, rfl⟩)) | (go_at_call 50; ((with_reducible refine (fail_any B v bs 0 er _ H.out).mono ?_); rintro en w' ⟨rfl, hr, hon⟩)))
      go_ret
      rw [HR.out]
      exact ⟨rfl, _, hr, hon⟩
    | ok n k =>
      have hres : numR bs 0 most = if most < (n : Int) then (0, [], 22) else ((n : Int), bs.drop k, 0) := by rw [numR, if_pos rfl, hd]
      have HD := Lib.hid hd
      by_cases hm : most < n
      · rw [if_pos hm] at hres
        have HR := Lib.hid hres
        clear hres hd h
        go_enter Try.func37, Try.ntmps37
        go_wp2_with (go_at_call 49; ((with_reducible refine (number_ok B v bs 0 _ H.out n k HD.out).mono ?_); rintro en w' ⟨rfl, v', hr, hon⟩))
        refine (fail_any B v' _ 0 22 _ hr).mono ?_
        rintro en w2 ⟨rfl, hr2, hon2⟩
        have hon3 := hon.trans hon2
        clear hon hon2 h1 hr
        go_wp2
        go_ret
        rw [HR.out]
        exact ⟨rfl, _, hr2, hon3⟩
      · rw [if_neg hm] at hres
        have HR := Lib.hid hres
        clear hres hd h
        go_enter Try.func37, Try.ntmps37
        go_wp2_with (go_at_call 49; ((with_reducible refine (number_ok B v bs 0 _ H.out n k HD.out).mono ?_); rintro en w' ⟨rfl, v', hr, hon⟩))
        go_ret
        rw [HR.out]
        exact ⟨rfl, _, hr, hon⟩
  · have hres : numR bs e most = (0, bs, e) := by rw [numR, if_neg he]
    have hq : (e == 0) = false := by rw [beq_eq_false_iff_ne]; exact he
    have HR := Lib.hid hres
    clear hres he h
    go_enter Try.func37, Try.ntmps37
    go_wp2
    go_ret
    rw [HR.out]
    exact ⟨rfl, _, H.out, Only.refl _ _⟩

end Go.Proofs.Ytkfcpnmdmoeioaa.K
