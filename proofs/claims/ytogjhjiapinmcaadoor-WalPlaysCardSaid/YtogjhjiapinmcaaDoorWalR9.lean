/- Calls that the reference's one makes, as 'Below' contracts. -/
import Derived.Test.YtogjhjiapinmcaaDoorWalR8
namespace Go.Proofs.YtogjhjiapinmcaaDoor.K
open Go.ChangeShapes Go.WideShapes Go.ChangeAt Go.RowKit
set_option linter.unusedVariables false
set_option linter.unusedSimpArgs false

theorem ropen_b1 (b : List Int) (p : Option Addr) (c : Nat) (w0 : World) (hy : BytesL b) (hl : b.length ≤ 1000000) (h4 : 4 ≤ b.length) (hO : openB b = true) (h0 : Rd (fun _ => True) w0 (.slice p b.length c) (.ns .u8 b)) :
   Calls Tryd.prog 52 #[.slice p b.length c] w0 fun e w' => e = .returned (.tuple #[.slice p (b.length - 4) c, .bool true]) ∧ Below w0.heap.size w0 w' := by
 have m := MemOk.start (fun _ => True) w0
 refine (ropen_yes (cxt w0) b p c w0 hy hl h4 hO (m.dat 1 rfl (m.old h0))).mono fun e w' h => ?_
 exact ⟨h.1, h.2.below⟩
theorem ropen_b0 (b : List Int) (p : Option Addr) (c : Nat) (w0 : World) (hy : BytesL b) (hl : b.length ≤ 1000000) (h4 : 4 ≤ b.length) (hO : openB b = false) (h0 : Rd (fun _ => True) w0 (.slice p b.length c) (.ns .u8 b)) :
   Calls Tryd.prog 52 #[.slice p b.length c] w0 fun e w' => e = .returned (.tuple #[.slice none 0 0, .bool false]) ∧ Below w0.heap.size w0 w' := by
 have m := MemOk.start (fun _ => True) w0
 refine (ropen_no (cxt w0) b p c w0 hy hl h4 hO (m.dat 1 rfl (m.old h0))).mono fun e w' h => ?_
 exact ⟨h.1, h.2.below⟩
theorem rnum8_x {S : Nat → Prop} (s : List Int) (v : Value) (w : World) (h : NumsS S .u8 w v s) (h8 : 8 ≤ s.length) (hs : ∀ x ∈ s, 0 ≤ x ∧ x ≤ 255) :
   Calls Tryd.prog 50 #[v] w fun e w' => e = .returned (.int .u64 (num8 s 8 : Nat)) ∧ Below w.heap.size w w' := by
 refine (rnumber_any w v s h.nums h8 (fun j hj => getD_bd hs hj)).mono fun e w' hh => ?_
 obtain ⟨rfl, rfl⟩ := hh
 exact ⟨rfl, Below.refl _ _⟩
theorem rnum_e {b y : List Int} {er mx a er2 : Int} (hN : numR b er mx = (a, y, er2)) (X : Cx) (B : Nat) (p : Option Addr) (c : Nat) (w0 : World) (hb : b.length ≤ 1000000) (hbb : BytesL b) (m0 : MemOk X w0 [(1, .box B 95 [.slice p b.length c, .int .i64 er]), (2, .seg (.slice p b.length c) 5 1 (b.map nB))] w0) :
   Calls Tryd.prog 51 #[.pointer (some ⟨B, 0, none⟩), .int .u64 mx] w0 fun e w' => ∃ (p' : Option Addr) (c' : Nat), e = .returned (.int .u64 a) ∧ MemOk X w0 [(1, .box B 95 [.slice p' y.length c', .int .i64 er2]), (2, .seg (.slice p b.length c) 5 1 (b.map nB))] w' := by
 have h := rnum_s X B b er mx p c w0 hb hbb m0
 rw [hN] at h
 exact h
end Go.Proofs.YtogjhjiapinmcaaDoor.K
