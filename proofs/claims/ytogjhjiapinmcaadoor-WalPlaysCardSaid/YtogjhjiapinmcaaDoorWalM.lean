/- Records as bytes in sectors: the mathematics. -/
import Derived.Test.YtogjhjiapinmcaaDoorWalB
import Derived.Test.YtogjhjiapinmcaaDoorStr6
namespace Go.Proofs.YtogjhjiapinmcaaDoor.K
open Go.ChangeShapes Go.WideShapes Go.ChangeAt Go.RowKit
set_option linter.unusedVariables false
set_option linter.unusedSimpArgs false

def genB (g : Int) : List Int := (List.range 8).map fun i => g / 2 ^ (8 * i) % 256
theorem genB_len (g : Int) : (genB g).length = 8 := rfl
theorem gz_len (g : Int) {k : Nat} (hk : k ≤ 8) : ((genB g).take k ++ List.replicate (8 - k) 0).length = 8 := by
 rw [List.length_append, List.length_take, List.length_replicate, genB_len]; omega
theorem gz_set (g : Int) : ∀ {k : Nat}, k < 8 → ((genB g).take k ++ List.replicate (8 - k) 0).set k (g / 2 ^ (8 * k) % 256) = (genB g).take (k + 1) ++ List.replicate (8 - (k + 1)) 0
 | 0, _ => rfl
 | 1, _ => rfl
 | 2, _ => rfl
 | 3, _ => rfl
 | 4, _ => rfl
 | 5, _ => rfl
 | 6, _ => rfl
 | 7, _ => rfl
 | n + 8, h => by omega
theorem genB_bytes (g : Int) : BytesL (genB g) := fun x hx => by
 obtain ⟨i, -, rfl⟩ := List.mem_map.1 hx
 omega
theorem shg {k : Nat} (hk : k < 8) : min (8 * (k : Int)).toNat IntKind.u64.bits = 8 * k := by
 have : IntKind.u64.bits = 64 := rfl
 omega
theorem two_nn (n : Nat) : (0 : Int) ≤ 2 ^ n := Int.le_of_lt (Int.pow_pos (by decide))
def secN (n : Nat) : Nat := (n + 47) / 48
def recN (n : Nat) : Nat := (enc (n : Int)).length + n + 4
def needN : List (List Int) → Nat
 | [] => 0
 | b :: t => secN (recN b.length) + needN t
theorem needN_app : ∀ (a b : List (List Int)), needN (a ++ b) = needN a + needN b
 | [], b => by simp [needN]
 | x :: a, b => by rw [List.cons_append, needN, needN_app a b, needN]; omega
theorem recN_le {n : Nat} : recN n ≤ n + 14 := by
 have := (enc_len (n : Int)).1
 unfold recN; omega
theorem recN_ge {n : Nat} : n + 5 ≤ recN n := by
 have := (enc_len (n : Int)).2
 unfold recN; omega
theorem needN_take {ls : List (List Int)} {k : Nat} (hk : k < ls.length) : needN (ls.take (k + 1)) = needN (ls.take k) + secN (recN (ls.getD k []).length) := by
 rw [List.take_succ_eq_append_getElem hk, needN_app, List.getD, List.getElem?_eq_getElem hk]; rfl
theorem needN_le {B : Nat} : ∀ {ls : List (List Int)}, (∀ l ∈ ls, l.length ≤ B) → needN ls ≤ ls.length * (B + 62)
 | [], _ => Nat.zero_le _
 | b :: t, h => by
   have h1 := h b List.mem_cons_self
   have h2 := needN_le (ls := t) (fun l hl => h l (List.mem_cons_of_mem _ hl))
   have h3 := recN_le (n := b.length)
   rw [needN, List.length_cons, Nat.add_mul, Nat.one_mul]
   unfold secN
   omega
def recV (b : List Int) : List Int := sealC (enc b.length ++ b)
theorem recV_len (b : List Int) : (recV b).length = recN b.length := by
 unfold recV recN; rw [sealC_len, List.length_append]
end Go.Proofs.YtogjhjiapinmcaaDoor.K
