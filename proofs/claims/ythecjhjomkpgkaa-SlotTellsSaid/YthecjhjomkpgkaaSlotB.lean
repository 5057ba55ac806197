/- SlotTells' walk: one string of bytes. -/
import Derived.Test.YthecjhjomkpgkaaSlotA
import Derived.Test.YthecjhjomkpgkaaSlot6
namespace Go.Proofs.Ythecjhjomkpgkaa.K
open Go.ChangeShapes Go.WideShapes Go.ChangeAt Go.RowKit
set_option linter.unusedVariables false

/-- Bytes that both read alike. -/
def Str (w : World) (v : Value) (bs : List Int) : Prop := IsNums .u8 w v bs ∧ (∀ x ∈ bs, 0 ≤ x ∧ x ≤ 255) ∧ ∃ p c, v = .slice p bs.length c ∧ (bs.length = 64 → 64 ≤ c)
theorem Str.below {w W : World} {v : Value} {bs : List Int} (h : Str w v bs) (hb : Below w.heap.size w W) : Str W v bs := ⟨h.1.below hb (Nat.le_refl _), h.2.1, h.2.2⟩
theorem sread_any (w : World) (v : Value) (bs : List Int) (h : Str w v bs) : Calls Try.prog 13 #[v] w (ReadPost w (readS bs)) := by
  obtain ⟨hn, hb, p, c, rfl, hc⟩ := h
  by_cases h64 : bs.length = 64
  · rw [h64] at hn ⊢
    obtain ⟨a', c', e1, h0 | ⟨b, o, e2, -, -⟩⟩ := id hn
    · omega
    · injection e1 with e1 e3 e4
      subst e1 e2
      exact sread_64 w b o c bs hn h64 (hc h64) hb
  · exact sread_long w p bs.length c bs rfl h64
theorem pread_any (w : World) (v : Value) (bs : List Int) (h : Str w v bs) : Calls Try.prog 14 #[v] w (ReadPost w (readS bs)) := by
  obtain ⟨hn, hb, p, c, rfl, hc⟩ := h
  by_cases h64 : bs.length = 64
  · rw [h64] at hn ⊢
    obtain ⟨a', c', e1, h0 | ⟨b, o, e2, -, -⟩⟩ := id hn
    · omega
    · injection e1 with e1 e3 e4
      subst e1 e2
      exact pread_64 w b o c bs hn h64 (hc h64) hb
  · exact pread_long w p bs.length c bs rfl h64
end Go.Proofs.Ythecjhjomkpgkaa.K
