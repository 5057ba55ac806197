/- mementoref3's disk: sector, spend, Power. -/
import Derived.Test.YthecjhjomkpgkaaSlot9
namespace Go.Proofs.Ythecjhjomkpgkaa.K
open Go.ChangeShapes Go.WideShapes Go.ChangeAt Go.RowKit
set_option linter.unusedVariables false

theorem pad_zero {b : List Int} (h : b.length ≤ 64) : pad b = b ++ List.replicate (64 - b.length) 0 := rfl

set_option maxRecDepth 100000 in
set_option maxHeartbeats 1000000 in
theorem sector_any (w : World) (v : Value) (b : List Int) (hv : IsNums .u8 w v b) (hl : b.length ≤ 64) :
    Calls Try.prog 52 #[v] w fun e w' => ∃ u, e = .returned u ∧ w'.ownsRow w.heap.size 5 1 u 64 (B8 (pad b)) ∧ Below w.heap.size w w' := by
  obtain ⟨p0, c0, rfl, -⟩ := id hv
  have HV := Lib.hid hv
  clear hv
  obtain ⟨n, hn⟩ : ∃ n, b.length = n := ⟨_, rfl⟩
  have HN := Lib.hid hn
  rw [hn] at HV hl ⊢
  clear hn
  go_enter Try.func52, Try.ntmps52
  go_wp2_with (at_builtin; (refine wpList_appN rfl (.const (.slice none 0 0)) (.tmp 4) 25 rfl w.heap.size 5 .u8 1 Try.underlying25 info_u8 (by omega) _ 0 [] rfl (World.ownsRow_nil _ _ _ _) _ b rfl HV.out (by rw [HN.out]; omega) (Nat.le_refl _) ?_); intro v1 w1 hown1 hb1; rw [HN.out, Nat.zero_add, List.nil_append] at hown1; obtain ⟨p1, c1, hv1⟩ := ownsRow_shape hown1; subst hv1; have O1 := Lib.hid hown1; have B1 := Lib.hid hb1; clear hown1 hb1)
  go_loopw [3] (fun s wr => ∃ k : Nat, n + k ≤ 64 ∧ wr.ownsRow w.heap.size 5 1 s (n + k) (B8 (b ++ List.replicate k 0)) ∧ Below w.heap.size w wr) (fun s _ => 64 - lenOf s)
  case atStart => exact ⟨0, by omega, by rw [Nat.add_zero, List.replicate_zero, List.append_nil]; exact O1.out, B1.out⟩
  case round =>
    obtain ⟨k, hk, hown, hbel⟩ := hrel
    obtain ⟨ps, cs, hs⟩ := ownsRow_shape hown
    subst hs
    have HO := Lib.hid hown
    have HB := Lib.hid hbel
    have hsz := hbel.size
    clear hown hbel
    by_cases hlt : n + k < 64
    · have hkI : ((n + k : Nat) : Int) < 64 := by omega
      go_wp2_with (at_builtin; refine wpList_app1 rfl _ _ 25 rfl w.heap.size 5 .u8 1 Try.underlying25 info_u8 (by omega) _ _ _ rfl HO.out _ 1 rfl (by omega) hsz ?_; intro v' w' hown' hb'; have HO' := Lib.hid hown'; have HB' := Lib.hid hb'; clear hown' hb')
      go_roundw
      case rel =>
        refine ⟨k + 1, by omega, ?_, HB.out.trans HB'.out⟩
        rw [List.replicate_succ', ← List.append_assoc, B8_append]
        exact HO'.out
      case measure =>
        obtain ⟨pz, cz, hz⟩ := ownsRow_shape HO'.out
        rw [hz]
        simp [lenOf]; omega
    · have hk64 : n + k = 64 := by omega
      have hkI : ¬ ((n + k : Nat) : Int) < 64 := by omega
      have hpad : pad b = b ++ List.replicate k 0 := by unfold pad; rw [HN.out, show 64 - n = k by omega]
      have HP := Lib.hid hpad
      rw [hk64] at HO ⊢
      clear hpad hkI
      go_wp2
      go_ret
      exact ⟨_, rfl, by rw [HP.out]; exact HO.out, HB.out⟩

/-- The reference's disk: its three fields. -/
def RHead (w : World) (B : Nat) (vs vl : Value) (l : Int) : Prop := Blk w B 95 [vs, vl, .int .i64 l]

set_option maxRecDepth 100000 in
theorem rspend_any (w : World) (B : Nat) (vs vl : Value) (l : Int) (h : RHead w B vs vl l) (l0 : -1 ≤ l) (l1 : l ≤ 9223372036854775807) :
    Calls Try.prog 81 #[.pointer (some ⟨B, 0, none⟩)] w fun e w' => e = .returned (.bool (l != 0)) ∧ RHead w' B vs vl (less l) ∧ Keep (fun k => k = B) w w' := by
  have h2 := h.cell 2
  have f2 := h.free 2
  have HH := Lib.hid h
  clear h
  by_cases a : l < 0
  · have hl : (l != 0) = true := by simp; omega
    have hs : less l = l := by unfold less; rw [if_neg (by omega)]
    rw [hl, hs]
    clear hl hs
    go_enter Try.func81, Try.ntmps81
    go_wp2
    go_ret
    exact ⟨rfl, HH.out, Keep.refl _ _⟩
  · by_cases z : l = 0
    · subst z
      rw [show less 0 = 0 from rfl]
      go_enter Try.func81, Try.ntmps81
      go_wp2
      go_ret
      exact ⟨rfl, HH.out, Keep.refl _ _⟩
    · have hl : (l != 0) = true := by simp; omega
      have hs : less l = l - 1 := by unfold less; rw [if_pos (by omega)]
      rw [hl, hs]
      have hst := HH.out.setCell 2 (.int .i64 (l - 1))
      have HST := Lib.hid hst
      clear hl hs hst
      go_enter Try.func81, Try.ntmps81
      go_wp2
      go_ret
      exact ⟨rfl, HST.out, Keep.setCell (bad := fun k => k = B) rfl _⟩

set_option maxRecDepth 100000 in
theorem rpower_any (w : World) (B : Nat) (vs vl : Value) (l m : Int) (h : RHead w B vs vl l) (m0 : -1 ≤ m) (m1 : m ≤ 9223372036854775807) :
    Calls Try.prog 20 #[.pointer (some ⟨B, 0, none⟩), .int .i64 m] w fun e w' => e = .returned (.tuple #[]) ∧ RHead w' B vs vl m ∧ Keep (fun k => k = B) w w' := by
  have h2 := h.cell 2
  have f2 := h.free 2
  have hst := h.setCell 2 (.int .i64 m)
  have HST := Lib.hid hst
  have q : ¬ m < -1 := by omega
  clear h hst
  go_enter Try.func20, Try.ntmps20
  go_wp2
  go_returns
  exact ⟨rfl, HST.out, Keep.setCell (bad := fun k => k = B) rfl _⟩
end Go.Proofs.Ythecjhjomkpgkaa.K
