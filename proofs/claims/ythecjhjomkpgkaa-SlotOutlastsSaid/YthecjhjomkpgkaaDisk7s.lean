/- pdisk: the calls that do nothing; the statements' known. -/
import Derived.Test.YthecjhjomkpgkaaDisk6
import Derived.Lib.SlBytesConst
namespace Go.Proofs.Ythecjhjomkpgkaa.K
open Go.ChangeShapes Go.WideShapes Go.ChangeAt Go.RowKit
set_option linter.unusedVariables false

theorem write_sector {w : World} {B S : Nat} {vu : Value} {secs : List (List Int)} {uns : List Un} {l : Int} (h : IsDisk w B S vu secs uns l) (i : Int) (hi : ¬ (0 ≤ i ∧ i < secs.length)) (u : Value) :
    Calls Try.prog 53 #[.pointer (some ⟨B, 0, none⟩), .int .i64 i, u] w fun e w' => e = .returned (.int .i64 25) ∧ w = w' := by
  go_enter Try.func53, Try.ntmps53
  go_wp2_with fail
  refine (diskhas_any B _ secs.length secs.length vu l i w h.head).mono ?_
  rintro e w' ⟨rfl, rfl⟩
  have hd : decide (0 ≤ i ∧ i < secs.length) = false := by simpa using hi
  rw [hd]
  clear hd hi
  go_wp2
  go_ret
  exact ⟨rfl, rfl⟩
theorem write_long {w : World} {B S : Nat} {vu : Value} {secs : List (List Int)} {uns : List Un} {l : Int} (h : IsDisk w B S vu secs uns l) (i : Nat) (hi : i < secs.length) (p : Option Addr) (n c : Nat) (hn : 64 < n) :
    Calls Try.prog 53 #[.pointer (some ⟨B, 0, none⟩), .int .i64 i, .slice p n c] w fun e w' => e = .returned (.int .i64 22) ∧ w = w' := by
  have hn' : (64 : Int) < n := by omega
  go_enter Try.func53, Try.ntmps53
  go_wp2_with fail
  refine (diskhas_any B _ secs.length secs.length vu l i w h.head).mono ?_
  rintro e w' ⟨rfl, rfl⟩
  have hd : decide ((0 : Int) ≤ i ∧ (i : Int) < secs.length) = true := by simp; omega
  rw [hd]
  clear hd hi
  go_wp2
  go_ret
  exact ⟨rfl, rfl⟩
theorem write_dead {w : World} {B S : Nat} {vu : Value} {secs : List (List Int)} {uns : List Un} (h : IsDisk w B S vu secs uns 0) (i : Nat) (hi : i < secs.length) (p : Option Addr) (n c : Nat) (hn : n ≤ 64) :
    Calls Try.prog 53 #[.pointer (some ⟨B, 0, none⟩), .int .i64 i, .slice p n c] w fun e w' => e = .returned (.int .i64 26) ∧ IsDisk w' B S vu secs uns 0 ∧ Keep (fun k => k = B) w w' := by
  have hn' : ¬ (64 : Int) < n := by omega
  go_enter Try.func53, Try.ntmps53
  go_wp2_with fail
  refine (diskhas_any B _ secs.length secs.length vu 0 i w h.head).mono ?_
  rintro e w' ⟨rfl, rfl⟩
  have hd : decide ((0 : Int) ≤ i ∧ (i : Int) < secs.length) = true := by simp; omega
  rw [hd]
  clear hd hi
  go_wp2_with fail
  refine (spend_disk h).mono ?_
  rintro e w1 ⟨rfl, h1, hk1⟩
  have HH := Lib.hid h1
  have HK := Lib.hid hk1
  clear h1 hk1
  go_wp2
  go_ret
  exact ⟨rfl, HH.out, HK.out⟩
theorem read_none {w : World} {B S : Nat} {vu : Value} {secs : List (List Int)} {uns : List Un} {l : Int} (h : IsDisk w B S vu secs uns l) (i : Int) (hi : ¬ (0 ≤ i ∧ i < secs.length)) :
    Calls Try.prog 59 #[.pointer (some ⟨B, 0, none⟩), .int .i64 i] w fun e w' => e = .returned (.slice none 0 0) ∧ w = w' := by
  go_enter Try.func59, Try.ntmps59
  go_wp2_with fail
  refine (diskhas_any B _ secs.length secs.length vu l i w h.head).mono ?_
  rintro e w' ⟨rfl, rfl⟩
  have hd : decide (0 ≤ i ∧ i < secs.length) = false := by simpa using hi
  rw [hd]
  clear hd hi
  go_wp2
  go_ret
  exact ⟨rfl, rfl⟩
theorem power_disk {w : World} {B S : Nat} {vu : Value} {secs : List (List Int)} {uns : List Un} {l : Int} (h : IsDisk w B S vu secs uns l) (m : Int) (m0 : 0 ≤ m) (m1 : m ≤ 9223372036854775807) :
    Calls Try.prog 19 #[.pointer (some ⟨B, 0, none⟩), .int .i64 m] w fun e w' => e = .returned (.tuple #[]) ∧ IsDisk w' B S vu secs uns m ∧ Keep (fun k => k = B) w w' := by
  refine (power_any B _ _ l m w h.head (by omega) m1).mono ?_
  rintro e w' ⟨rfl, rfl⟩
  rw [show max m (-1) = m by omega]
  exact ⟨rfl, h.setLeft m (by omega) m1⟩
theorem keepB_below {N : Nat} {w W : World} {B S : Nat} {vu : Value} {secs : List (List Int)} {uns : List Un} {l : Int} (h : IsDisk w B S vu secs uns l) (hk : Keep (fun k => k = B) w W) (hB : N ≤ S) : Below N w W :=
  h.below (hk.mono (fun k e => .inl e)) hB (by have := h.sec.lt; omega)

theorem NumsOff.litF {bad : Nat → Prop} (w : World) (zs : List Int) (N : Nat) (e : TypeId) (fr : Nat × Nat) (n c : Nat) (hN : N = w.heap.size) (hn : n = zs.length) (hb : ¬ bad N) : NumsOff bad (w.alloc (.cells (zs.map (Value.int .u8)).toArray e fr)) (.slice (some ⟨N, 0, none⟩) n c) zs := by
  subst hN; subst hn
  refine ⟨_, c, rfl, .inr ⟨_, 0, rfl, by simp, hb, fun j hj => ?_⟩⟩
  unfold World.cell? World.alloc
  simp [hj, List.getD]
theorem IsDisk.fresh {w : World} {B S : Nat} {vu : Value} {secs : List (List Int)} {uns : List Un} {l : Int} (h : IsDisk w B S vu secs uns l) : ¬ Mine B S vu w.heap.size := fun hm => by have := h.mine_lt _ hm; omega
theorem IsDisk.alloc {w : World} {B S : Nat} {vu : Value} {secs : List (List Int)} {uns : List Un} {l : Int} (h : IsDisk w B S vu secs uns l) (o : Obj) : IsDisk (w.alloc o) B S vu secs uns l := h.later ((Below.refl _ _).alloc (Nat.le_refl _) o)
theorem below_alloc {N : Nat} {a w : World} (h : Below N a w) (hN : N ≤ a.heap.size) (o : Obj) : Below N a (w.alloc o) := h.alloc (Nat.le_trans hN h.size) o
end Go.Proofs.Ythecjhjomkpgkaa.K
