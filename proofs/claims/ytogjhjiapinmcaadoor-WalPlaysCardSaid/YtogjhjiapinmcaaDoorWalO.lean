/- crc.Open for any bytes, as walks in the frame take it. -/
import Derived.Test.YtogjhjiapinmcaaDoorG3
import Derived.Test.YtogjhjiapinmcaaDoorStr1
namespace Go.Proofs.YtogjhjiapinmcaaDoor.K
open Go.ChangeShapes Go.WideShapes Go.ChangeAt Go.RowKit
set_option linter.unusedVariables false
set_option linter.unusedSimpArgs false
theorem open_x {o : Bool} (b : List Int) (p : Option Addr) (c : Nat) (w0 : World) (hT : TabOk w0) (h01 : 1 ≤ w0.heap.size) (h0 : Rd (fun _ => True) w0 (.slice p b.length c) (.ns .u8 b)) (hy : BytesL b) (hl : b.length ≤ 10000) (h4 : 4 ≤ b.length) (hO : openB b = o) :
   Calls Tryd.prog 48 #[.slice p b.length c] w0 fun e w' => ∃ (p' : Option Addr) (c' : Nat), e = .returned (.tuple #[.slice p' (openC b).length c', .bool o]) ∧ w'.ownsRow w0.heap.size 5 1 (.slice p' (openC b).length c') (openC b).length ((openC b).map (Value.int .u8)) ∧ Below w0.heap.size w0 w' := by
 obtain ⟨n, hn⟩ : ∃ n, b.length = n + 4 := ⟨b.length - 4, by omega⟩
 have hc := h0.ns_out.cap
 have hN := h0.ns_out.nums
 rw [hn] at hN hc ⊢
 refine (open_own p n c b w0 hT h01 hN hn hc.1 (bytesLB hy) (by omega)).mono fun e w' h => ?_
 obtain ⟨u, rfl, hown, hbel⟩ := h
 obtain ⟨p', c', rfl⟩ := ownsRow_shape hown
 rw [hO]
 exact ⟨p', c', rfl, hown, hbel⟩
end Go.Proofs.YtogjhjiapinmcaaDoor.K
