/- What EntryReads' walk holds. -/
import Derived.Test.YtkfcpnmdmoeioaaEnts2
import Derived.Test.YtkfcpnmdmoeioaaAb7
import Derived.Test.YtkfcpnmdmoeioaaRE7
import Derived.Test.YtkfcpnmdmoeioaaEntry8
namespace Go.Proofs.Ytkfcpnmdmoeioaa.K
open Go.ChangeShapes Go.WideShapes Go.ChangeAt Go.RowKit
set_option linter.unusedVariables false


theorem left_cel (B n c : Nat) (p : Option Addr) (w : World) (h : w.cell? ⟨B, 0, none⟩ = some (.slice p n c)) :
    Calls Try.prog 17 #[.pointer (some ⟨B, 0, none⟩)] w fun en w' => en = .returned (.int .i64 n) ∧ w = w' := by
  go_enter Try.func17, Try.ntmps17
  go_wp2
  go_ret
  exact ⟨rfl, rfl⟩
theorem reader_of {X : Cx} {w0 w : World} {M : Mm} (m : MemOk X w0 M w) {i j g l c : Nat} {e : TypeId} {p : Option Addr} {bs : List Int} (hb : lk M i = some (.box g e [.slice p l c, .int .i64 0])) (hd : lk M j = some (.dat (.slice p l c) (.ns .u8 bs))) (hlt : bs.length = 0 ∨ ∃ b o, p = some ⟨b, o, none⟩ ∧ b < g) (hy : ∀ x ∈ bs, 0 ≤ x ∧ x ≤ 255) : IsReader w g (.slice p l c) bs 0 := by
  have hB := (m.ok i _ hb).1
  obtain ⟨a, c', e1, hc, hz⟩ := (m.rd hd).ns_out
  injection e1 with e1 e2 e3
  subst e1; subst e2; subst e3
  refine ⟨hB.cell 0, hB.cell 1, hB.free 0, hB.free 1, ⟨_, _, rfl, hc.1, hc.2, ?_⟩, hy⟩
  rcases hz with hz | ⟨b, off, rfl, h1, h2, h3⟩
  · exact .inl hz
  · rcases hlt with hlt | ⟨b', o', e4, h5⟩
    · exact .inl hlt
    · injection e4 with e4; injection e4 with e4 e5; subst e4; subst e5
      exact .inr ⟨_, _, rfl, h5, h3⟩
theorem reader_range {w : World} {B : Nat} {v : Value} {bs : List Int} {e : Int} (h : IsReader w B v bs e) : w.rangeAt B 0 [v, .int .i64 e] := fun j x hj => by
  match j, hj with
  | 0, hj => simp at hj; subst hj; exact h.1
  | 1, hj => simp at hj; subst hj; exact h.2.1
theorem reader_shape {w : World} {B : Nat} {v : Value} {bs : List Int} {e : Int} (h : IsReader w B v bs e) : ∃ p c, v = .slice p bs.length c := by
  obtain ⟨_, _, _, _, ⟨p, c, e1, _⟩, _⟩ := h; exact ⟨p, c, e1⟩
theorem numsLt_cap {N : Nat} {k : IntKind} {w : World} {v : Value} {zs : List Int} (h : NumsLt N k w v zs) : ∀ p c, v = .slice p zs.length c → zs.length ≤ c ∧ c ≤ maxLen := by
  obtain ⟨a, c, rfl, h1, h2, _⟩ := h
  intro p c' e; injection e with _ _ e; subst e; exact ⟨h1, h2⟩

/-- The k-th entry, its bytes, what is laid of them. -/
def entA (l : List Int) (k : Nat) : Int × Int × Int × List Int := entOf 1 (termN l (k + 1)) (l.getD k 0) k
def entY (l : List Int) (k : Nat) : List Int := entP (entA l k).1 (entA l k).2.1 (entA l k).2.2.1 (entA l k).2.2.2
def bentB (b : List Int) (at' : Nat) (x : Int) : List Int := b.set (at' % b.length) (xor8 (b.getD (at' % b.length) 0) x)
def allN (l : List Int) (at' : Nat) (x : Int) : Nat → List (List Int)
  | 0 => []
  | k + 1 => allN l at' x k ++ if (entY l k).length = 0 then [] else [entY l k, bentB (entY l k) at' x, (entY l k).take (at' % (entY l k).length)]
def lsD (ls : List (List Int)) : List (List D) := ls.map fun b => [.ns .u8 b]
theorem ents_row (l : List Int) : ∀ n k, k < n → ((entsN 1 l n).map entD)[k]? = some [.v (.int .i64 (entA l k).1), .v (.int .i64 (entA l k).2.1), .v (.int .i64 (entA l k).2.2.1), .ns .u8 (entA l k).2.2.2]
  | 0, k, h => by omega
  | n + 1, k, h => by
    rw [entsN, List.map_append]
    by_cases e : k < n
    · rw [List.getElem?_append_left (by simp [entsN_len]; exact e)]; exact ents_row l n k e
    · obtain rfl : k = n := by omega
      rw [List.getElem?_append_right (by simp [entsN_len])]
      simp [entsN_len, entD, entA]
def ByteL (b : List Int) : Prop := ∀ x ∈ b, 0 ≤ x ∧ x ≤ 255
theorem ByteL.set {b : List Int} (h : ByteL b) (i : Nat) {z : Int} (hz : 0 ≤ z ∧ z ≤ 255) : ByteL (b.set i z) := fun x hx => by
  rcases List.mem_or_eq_of_mem_set hx with h1 | h1
  · exact h x h1
  · rw [h1]; exact hz
theorem ByteL.take {b : List Int} (h : ByteL b) (i : Nat) : ByteL (b.take i) := fun x hx => h x (List.mem_of_mem_take hx)
theorem bentB_ok {b : List Int} (h : ByteL b) (at' : Nat) (x : Int) : ByteL (bentB b at' x) := h.set _ (xor8_bd _ _)
end Go.Proofs.Ytkfcpnmdmoeioaa.K
