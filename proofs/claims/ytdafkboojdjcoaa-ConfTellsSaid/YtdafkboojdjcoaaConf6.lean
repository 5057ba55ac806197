/- What mementolaw6.ints and mementohelp.Ints return. -/
import Derived.Test.YtdafkboojdjcoaaConf4
import Derived.RegionTactic
import Derived.ChangeAlike
import Derived.Deep.QuietTactic
import Derived.BigQuiet
namespace Go.Proofs.Ytdafkboojdjcoaa.K
open Go.ChangeShapes Go.WideShapes Go.ChangeAt Go.RowKit Go.Sort
set_option linter.unusedVariables false

def sevens (z : List Int) : List Int := z.map fun x => x % 7
theorem below_drewN {B : Nat} {a w : World} (h : Below B a w) (n : Nat) : Below B a (w.drewN n) := ⟨h.os, h.tape, h.output, h.size, h.block⟩

theorem sevens_len (z : List Int) : (sevens z).length = z.length := by simp [sevens]
theorem sevens_snoc (z : List Int) (k : Nat) (h : k < z.length) : (sevens (z.take (k + 1))).map (Value.int .i64) = (sevens (z.take k)).map (Value.int .i64) ++ [.int .i64 (z.getD k 0 % 7)] := by
  unfold sevens
  rw [List.take_succ_eq_append_getElem h, List.map_append, List.map_append]
  simp only [List.map_cons, List.map_nil, List.getD, List.getElem?_eq_getElem h, Option.getD_some]

set_option maxRecDepth 100000 in
set_option maxHeartbeats 2000000 in
theorem ints_is (v : Value) (z : List Int) (w : World) (hv : IsNums .u8 w v z) (hb : ∀ j, j < z.length → 0 ≤ z.getD j 0 ∧ z.getD j 0 ≤ 255) (hl : z.length ≤ 900) :
    Calls Try.prog 22 #[v] w fun e w' => ∃ p c, e = .returned (.slice p z.length c) ∧ IsNums .i64 w' (.slice p z.length c) (sevens z) ∧ Below w.heap.size w w' := by
  obtain ⟨p, c, rfl, h⟩ := hv
  have H := Lib.hid h
  have HB := Lib.hid hb
  clear h hb
  go_enter Try.func22, Try.ntmps22
  go_wp2
  go_loopw [3, 4] (fun u i wr => ∃ k : Nat, k ≤ z.length ∧ i = .int .i64 k ∧ wr.ownsRow w.heap.size 3 1 u k ((sevens (z.take k)).map (Value.int .i64)) ∧ Below w.heap.size w wr) (fun _ i _ => z.length - (intOf i).toNat)
  case atStart => exact ⟨0, Nat.zero_le _, rfl, World.ownsRow_nil _ _ _ _, Below.refl _ _⟩
  case round =>
    obtain ⟨k, hk, rfl, hown, hbel⟩ := hrel
    have hsz := hbel.size
    by_cases hlt : k < z.length
    · obtain h0 | ⟨b, off, rfl, hblk, hcell⟩ := H.out
      · omega
      have hc : wr.cell? ⟨b, off + k, none⟩ = some (.int .u8 (z.getD k 0)) := by rw [hbel.cell hblk]; exact hcell k hlt
      obtain ⟨x0, x1⟩ := HB.out k hlt
      have HS := Lib.hid (sevens_snoc z k hlt)
      obtain ⟨x, hx⟩ : ∃ x, z.getD k 0 = x := ⟨_, rfl⟩
      rw [hx] at hc x0 x1
      have HX := Lib.hid hx
      clear hcell hx
      go_wp2_with (at_builtin; refine wpList_app1 rfl _ _ 22 rfl w.heap.size 3 .i64 8 Try.underlying22 info_int (by omega) _ k _ rfl hown _ 1 rfl (by omega) hsz ?_; intro v' w' hown' hb')
      go_roundw
      case rel => exact ⟨k + 1, by omega, by go_num, by rw [HS.out, HX.out]; exact hown', hbel.trans hb'⟩
      case measure => simp [intOf]; omega
    · obtain rfl : k = z.length := by omega
      rw [List.take_length] at hown
      have hN := IsNums.ofOwn hown
      obtain ⟨pu, cu, rfl, -⟩ := id hN
      rw [sevens_len] at hN ⊢
      have HN := Lib.hid hN
      clear hown hN
      go_wp2
      go_ret
      exact ⟨_, _, rfl, HN.out, hbel⟩

set_option maxRecDepth 100000 in
set_option maxHeartbeats 2000000 in
theorem same_any (v0 v1 : Value) (a b : List Int) (w : World) (h0 : IsNums .i64 w v0 a) (h1 : IsNums .i64 w v1 b) (hl0 : a.length ≤ 900) (hl1 : b.length ≤ 900) :
    Calls Try.prog 24 #[v0, v1] w fun e w' => e = .returned (.bool (decide (a = b))) ∧ Below w.heap.size w w' := by
  obtain ⟨p0, c0, rfl, h0⟩ := h0
  obtain ⟨p1, c1, rfl, h1⟩ := h1
  have H0 := Lib.hid h0
  have H1 := Lib.hid h1
  clear h0 h1
  by_cases hl : a.length = b.length
  · rw [hl]
    have HL := Lib.hid hl
    clear hl
    go_enter Try.func24, Try.ntmps24
    go_wp2
    go_loopw [5] (fun i wr => ∃ k : Nat, k ≤ b.length ∧ i = .int .i64 k ∧ a.take k = b.take k ∧ Below w.heap.size w wr) (fun i _ => b.length - (intOf i).toNat)
    case atStart => exact ⟨0, Nat.zero_le _, rfl, rfl, Below.refl _ _⟩
    case round =>
      obtain ⟨k, hk, rfl, hpre, hbel⟩ := hrel
      have HP := Lib.hid hpre
      clear hpre
      by_cases hlt : k < b.length
      · obtain h | ⟨b0, off0, rfl, hblk0, hcell0⟩ := H0.out
        · have := HL.out; omega
        obtain h | ⟨b1, off1, rfl, hblk1, hcell1⟩ := H1.out
        · omega
        have k0 : wr.cell? ⟨b0, off0 + k, none⟩ = some (.int .i64 (a.getD k 0)) := by rw [hbel.cell hblk0]; exact hcell0 k (by have := HL.out; omega)
        have k1 : wr.cell? ⟨b1, off1 + k, none⟩ = some (.int .i64 (b.getD k 0)) := by rw [hbel.cell hblk1]; exact hcell1 k hlt
        have hka : k < a.length := by have := HL.out; omega
        obtain ⟨x, hx⟩ : ∃ x, a.getD k 0 = x := ⟨_, rfl⟩
        obtain ⟨y, hy⟩ : ∃ y, b.getD k 0 = y := ⟨_, rfl⟩
        rw [hx] at k0
        rw [hy] at k1
        have HX := Lib.hid hx
        have HY := Lib.hid hy
        have hki : (k : Int) < (b.length : Int) := by omega
        clear hcell0 hcell1 hx hy
        by_cases he : x = y
        · have hq : (x == y) = true := by simpa using he
          have hnx : a.take (k + 1) = b.take (k + 1) := by
            rw [List.take_succ_eq_append_getElem hka, List.take_succ_eq_append_getElem hlt, HP.out]
            have e1 := HX.out
            have e2 := HY.out
            simp only [List.getD, List.getElem?_eq_getElem hka, Option.getD_some] at e1
            simp only [List.getD, List.getElem?_eq_getElem hlt, Option.getD_some] at e2
            rw [e1, e2, he]
          have HN := Lib.hid hnx
          clear hnx he
          go_wp2
          go_quiet (fail)
          go_wp2
          go_roundw
          case rel => exact ⟨k + 1, by omega, by go_num, HN.out, below_drewN hbel _⟩
          case measure => simp [intOf]; omega
        · have hq : (x == y) = false := by simpa using he
          have hne : a ≠ b := by
            intro e; apply he
            have e1 := HX.out
            have e2 := HY.out
            rw [← e1, ← e2, e]
          have HN := Lib.hid hne
          clear hne he
          go_wp2
          go_quiet (fail)
          go_wp2
          go_ret
          exact ⟨ret_bool (by simpa using HN.out), below_drewN hbel _⟩
      · obtain rfl : k = b.length := by omega
        go_wp2
        go_ret
        refine ⟨ret_bool ?_, hbel⟩
        have h1 := HP.out
        rw [List.take_length, ← HL.out, List.take_length] at h1
        simp [h1]
  · have hq : ((a.length : Int) == (b.length : Int)) = false := by rw [beq_eq_false_iff_ne]; omega
    have hne : a ≠ b := fun e => hl (by rw [e])
    have HN := Lib.hid hne
    clear hne
    go_enter Try.func24, Try.ntmps24
    go_wp2
    go_ret
    exact ⟨ret_bool (by simpa using HN.out), Below.refl _ _⟩

theorem same_is (v0 v1 : Value) (a b : List Int) (w : World) (h0 : IsNums .i64 w v0 a) (h1 : IsNums .i64 w v1 b) (hl0 : a.length ≤ 900) (hl1 : b.length ≤ 900) (r : Bool) (hr : decide (a = b) = r) :
    Calls Try.prog 12 #[v0, v1] w fun e w' => e = .returned (.bool r) ∧ Below w.heap.size w w' := by
  subst hr
  obtain ⟨p0, c0, rfl, -⟩ := id h0
  obtain ⟨p1, c1, rfl, -⟩ := id h1
  have H0 := Lib.hid h0
  have H1 := Lib.hid h1
  clear h0 h1
  go_enter Try.func12, Try.ntmps12
  go_wp2_with (go_at_call 24; ((with_reducible refine (same_any _ _ a b _ H0.out H1.out hl0 hl1).mono ?_); rintro e w' ⟨rfl, hb⟩))
  go_ret
  exact ⟨rfl, hb⟩

end Go.Proofs.Ytdafkboojdjcoaa.K
