/- A store of a struct into a block that is known, by its letters; one block changed, others later. For any program. -/
import Derived.Test.YtkfcpnmdmoeioaaGen
namespace Go.Proofs.Ytkfcpnmdmoeioaa.K
open Go.ChangeShapes Go.WideShapes Go.ChangeAt Go.RowKit
set_option linter.unusedVariables false

section
variable {P : Program} {ops : Array Oper} {rest : List Oper} {a : Act} {w : World} {Q : Exit → Act → World → Prop}
theorem wpList_storeB {g : Nat} {e : TypeId} {cs : List Value} (h : Blk w g e cs) {d : Option Tmp} {ty tt : TypeId} {pos : String} {af : Array Edge} (x y : Operand)
    (o : Nat) (xs : List Value) (hx : a.eval x = .pointer (some ⟨g, o, none⟩)) (hy : a.eval y = .agg xs.toArray) (hfit : o + xs.length ≤ cs.length)
    (hi : (P.info? ty).map (·.size) = some xs.length) (h1 : ∀ v ∈ xs, v.oneCell' = true)
    (hK : ∀ w', Blk w' g e (cs.take o ++ xs ++ cs.drop (o + xs.length)) → Keep (fun k => k = g) w w' → wpList P ops Q rest (a.put d undef) w') : wpList P ops Q (⟨d, .store ty x y, tt, pos, af, none⟩ :: rest) a w :=
  wpList_store_blk rfl h ty x y rfl o xs hx hy hfit hi h1 (fun w' h1 h2 => hK w' h1 (h2 _ rfl))
end
theorem Only.thenBelow {B : Nat} {a b c : World} (h : Only B a b) (k : Below b.heap.size b c) : Only B a c :=
  ⟨k.os.trans h.os, k.tape.trans h.tape, k.output.trans h.output, Nat.le_trans h.size k.size, fun i hi hn => (k.block i (Nat.lt_of_lt_of_le hi h.size)).trans (h.block i hi hn)⟩
theorem Only.ofKeep {B : Nat} {a b : World} (h : Keep (fun k => k = B) a b) : Only B a b := ⟨h.1, h.2.1, h.2.2.1, h.2.2.2.1, fun i hi hn => h.2.2.2.2 i hi (fun e => hn (by rw [show i = B from e]))⟩
theorem Only.keep {B : Nat} {a b : World} (h : Only B a b) : Keep (fun k => k = B) a b := ⟨h.os, h.tape, h.output, h.size, fun i hi hn => h.block i hi (fun e => hn (show i = B from (by injection e)))⟩
theorem numR_le (bs : List Int) (e most : Int) (m0 : 0 ≤ most) : 0 ≤ (numR bs e most).1 ∧ (numR bs e most).1 ≤ most := by
  unfold numR
  split
  · cases dec 0 0 bs with
    | err er => exact ⟨Int.le_refl _, m0⟩
    | ok n k =>
      show 0 ≤ (if most < (n : Int) then ((0 : Int), ([] : List Int), (22 : Int)) else ((n : Int), bs.drop k, 0)).1 ∧ (if most < (n : Int) then ((0 : Int), ([] : List Int), (22 : Int)) else ((n : Int), bs.drop k, 0)).1 ≤ most
      split
      · exact ⟨Int.le_refl _, m0⟩
      · show 0 ≤ (n : Int) ∧ (n : Int) ≤ most
        omega
  · exact ⟨Int.le_refl _, m0⟩
theorem numR_len (bs : List Int) (e most : Int) : (numR bs e most).2.1.length ≤ bs.length := by
  unfold numR
  split
  · cases dec 0 0 bs with
    | err er => exact Nat.zero_le _
    | ok n k =>
      show (if most < (n : Int) then ((0 : Int), ([] : List Int), (22 : Int)) else ((n : Int), bs.drop k, 0)).2.1.length ≤ _
      split
      · exact Nat.zero_le _
      · show (bs.drop k).length ≤ _
        rw [List.length_drop]; omega
  · exact Nat.le_refl _
theorem numR_sub (bs : List Int) (e most : Int) : ∀ x ∈ (numR bs e most).2.1, x ∈ bs := by
  unfold numR
  split
  · cases dec 0 0 bs with
    | err er => intro x hx; cases hx
    | ok n k =>
      show ∀ x ∈ (if most < (n : Int) then ((0 : Int), ([] : List Int), (22 : Int)) else ((n : Int), bs.drop k, 0)).2.1, _
      split
      · intro x hx; cases hx
      · intro x hx; exact List.mem_of_mem_drop hx
  · intro x hx; exact hx
theorem lumpR_sub (bs : List Int) (e most : Int) : ∀ x ∈ (lumpR bs e most).1, x ∈ bs := by
  unfold lumpR
  split
  · split
    · intro x hx; cases hx
    · intro x hx; exact numR_sub _ _ _ x (List.mem_of_mem_take hx)
  · intro x hx; cases hx
end Go.Proofs.Ytkfcpnmdmoeioaa.K
