/- msg: crc.Open of what was sealed, and of nothing; a message's bytes in parts. -/
import Derived.Test.YtmoghepeggohhaaDoorMsg5
import Derived.Test.YtmoghepeggohhaaDoorG3
namespace Go.Proofs.YtmoghepeggohhaaDoor.K
open Go.ChangeShapes Go.WideShapes Go.ChangeAt Go.RowKit
set_option linter.unusedVariables false
set_option linter.unusedSimpArgs false
theorem open_seal (l : List Int) : openB (sealC l) = true ∧ openC (sealC l) = l := by
 have hl : (l ++ fourC (sumC [l])).length - 4 = l.length := by rw [List.length_append, fourC_len]; omega
 have h1 : openB (l ++ fourC (sumC [l])) = true := by
   rw [openB, decide_eq_true_eq, hl, List.take_left, List.drop_left]
   exact ⟨by rw [List.length_append, fourC_len]; omega, rfl⟩
 exact ⟨h1, by unfold sealC; rw [openC, if_pos h1, hl, List.take_left]⟩
theorem open_own_ok (l : List Int) (p : Option Addr) (c : Nat) (w0 : World) (hT : TabOk w0) (h01 : 1 ≤ w0.heap.size) (h0 : Rd (fun _ => True) w0 (.slice p (sealC l).length c) (.ns .u8 (sealC l))) (hy : BytesL l) (hl : l.length ≤ 9000) :
   Calls Tryd.prog 16 #[.slice p (sealC l).length c] w0 fun e w' => ∃ (p' : Option Addr) (c' : Nat), e = .returned (.tuple #[.slice p' l.length c', .bool true]) ∧ w'.ownsRow w0.heap.size 5 1 (.slice p' l.length c') l.length (l.map (Value.int .u8)) ∧ Below w0.heap.size w0 w' := by
 have h := open_x (o := true) (sealC l) p c w0 hT h01 h0 (sealBytes hy) (by rw [sealC_len]; omega) (by rw [sealC_len]; omega) (open_seal l).1
 rw [(open_seal l).2] at h
 exact h
theorem open_none (w0 : World) :
   Calls Tryd.prog 16 #[.slice none 0 0] w0 fun e w' => ∃ (p' : Option Addr) (c' : Nat), e = .returned (.tuple #[.slice p' 0 c', .bool false]) ∧ Below w0.heap.size w0 w' := by
 refine (open_short none 0 0 [] w0 rfl (by decide)).mono fun e w' h => ?_
 obtain ⟨u, rfl, hN, hb⟩ := h
 have h1 : openB [] = false := by decide
 have h2 : openC [] = [] := by rw [openC, h1]; rfl
 rw [h2] at hN
 obtain ⟨p, c, rfl, -⟩ := hN
 rw [h1]
 exact ⟨p, c, rfl, hb⟩
theorem body_parts (m : MV) : ∃ b1 b2 b3 b4 b5 b6 b7 b8 b9 b10 b11 b12 b13 b14 b15 b16 : List Int, bodyM m = enc m.k ++ b1 ∧ b1 = enc m.g ++ b2 ∧ b2 = enc m.f ++ b3 ∧ b3 = enc m.t ++ b4 ∧ b4 = enc m.n.te ++ b5 ∧ b5 = enc m.n.ix ++ b6 ∧ b6 = enc m.n.lt ++ b7 ∧ b7 = enc m.n.co ++ b8 ∧ b8 = enc (bitI m.n.ok) ++ b9 ∧ b9 = enc 0 ++ b10 ∧ b10 = enc (bitI (decide (m.k = 7))) ++ b11 ∧ b11 = baseM m ++ b12 ∧ b12 = enc (m.da.length : Int) ++ (m.da ++ b13) ∧ b13 = enc m.n.vo ++ b14 ∧ b14 = enc m.n.ch ++ b15 ∧ b15 = enc m.n.ma ++ b16 ∧ b16 = enc m.n.fl ++ [] := by
 refine ⟨_, _, _, _, _, _, _, _, _, _, _, _, _, _, _, _, ?_, rfl, rfl, rfl, rfl, rfl, rfl, rfl, rfl, rfl, rfl, rfl, rfl, rfl, rfl, rfl, rfl⟩
 simp [bodyM, preM, numsL, tailL, encs, List.append_assoc]
theorem bEq_x (xs ys : List Int) (p q : Option Addr) (c d : Nat) (w0 : World) (h1 : Rd (fun _ => True) w0 (.slice p xs.length c) (.ns .u8 xs)) (h2 : Rd (fun _ => True) w0 (.slice q ys.length d) (.ns .u8 ys)) (hx : BytesL xs) (hy : BytesL ys) :
   Calls Tryd.prog 19 #[.slice p xs.length c, .slice q ys.length d] w0 fun e w' => e = .returned (.bool (decide (xs = ys))) ∧ Below w0.heap.size w0 w' := by
 refine (equal_any w0 _ _ xs ys h1.ns_out.nums h2.ns_out.nums hx hy).mono fun e w' h => ?_
 obtain ⟨rfl, rfl⟩ := h
 exact ⟨rfl, Below.refl _ _⟩
theorem bEq_yes (xs : List Int) (p q : Option Addr) (c d : Nat) (w0 : World) (h1 : Rd (fun _ => True) w0 (.slice p xs.length c) (.ns .u8 xs)) (h2 : Rd (fun _ => True) w0 (.slice q xs.length d) (.ns .u8 xs)) (hx : BytesL xs) :
   Calls Tryd.prog 19 #[.slice p xs.length c, .slice q xs.length d] w0 fun e w' => e = .returned (.bool true) ∧ Below w0.heap.size w0 w' := by
 have h := bEq_x xs xs p q c d w0 h1 h2 hx hx
 rw [decide_eq_true rfl] at h
 exact h
def sameB (a b : MV) : Bool := decide ((a.k, a.g, a.f, a.t, a.n) = (b.k, b.g, b.f, b.t, b.n)) && (decide ((a.bi, a.bt, a.cf, a.bd) = (b.bi, b.bt, b.cf, b.bd)) && decide (a.da = b.da))
end Go.Proofs.YtmoghepeggohhaaDoor.K
