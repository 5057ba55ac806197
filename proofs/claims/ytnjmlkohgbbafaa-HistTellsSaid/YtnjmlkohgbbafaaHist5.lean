/- mementolaw13.some; mementoref13.SameHist of what is alike. -/
import Derived.Test.YtnjmlkohgbbafaaHist4
namespace Go.Proofs.Ytnjmlkohgbbafaa.K
open Go.ChangeShapes Go.WideShapes Go.ChangeAt Go.RowKit
set_option linter.unusedVariables false

def sumK (y : List Int) : Nat → Int
  | 0 => 0
  | k + 1 => sumK y k + (y.getD k 0 % 4 + 1)
def someK (y : List Int) : Nat → List (Int × List Int)
  | 0 => []
  | k + 1 => someK y k ++ [(sumK y (k + 1), [y.getD k 0])]
theorem sumK_bd (y : List Int) : ∀ k : Nat, (k : Int) ≤ sumK y k ∧ sumK y k ≤ 4 * k
  | 0 => by simp [sumK]
  | k + 1 => by
    have := sumK_bd y k
    rw [sumK]
    omega
theorem someK_len (y : List Int) : ∀ k, (someK y k).length = k
  | 0 => rfl
  | k + 1 => by rw [someK, List.length_append, someK_len y k]; rfl
theorem tmod4 (n : Nat) : (n : Int).tmod 4 = ((n % 4 : Nat) : Int) := by
  rw [Int.tmod_eq_emod_of_nonneg (by omega)]; omega

def SomePost (w : World) (y : List Int) (e : Ending) (w' : World) : Prop := ∃ v, e = .returned v ∧ OwnVers w' w.heap.size v (someK y y.length) ∧ Below w.heap.size w w'

set_option maxRecDepth 100000 in
set_option maxHeartbeats 1000000 in
theorem some_any (w : World) (a : Option Addr) (len cap : Nat) (y : List Int) (hy : IsNums .u8 w (.slice a len cap) y) (hl : y.length = len) (hcap : len ≤ cap) (hcm : cap ≤ 9223372036854775807) (hn : len ≤ 1000) (hb : ∀ j, j < y.length → 0 ≤ y.getD j 0 ∧ y.getD j 0 ≤ 255) :
    Calls Try.prog 25 #[.slice a len cap] w (SomePost w y) := by
  have HY := Lib.hid hy
  have HBY := Lib.hid hb
  have HCAP := Lib.hid hcap
  clear hy hb hcap
  go_enter Try.func25, Try.ntmps25
  go_wp2
  go_loopw [3, 4, 5] (fun u s i wr => ∃ k : Nat, k ≤ len ∧ i = .int .i64 k ∧ s = .int .i64 (sumK y k) ∧ OwnVers wr w.heap.size u (someK y k) ∧ Below w.heap.size w wr) (fun _ _ i _ => len - (intOf i).toNat)
  case atStart => exact ⟨0, Nat.zero_le _, rfl, rfl, OwnVers.nil _ _, Below.refl _ _⟩
  case round =>
    obtain ⟨k, hk, rfl, rfl, ⟨rs, hrk, hown, hoff⟩, hbel⟩ := hrel
    by_cases hlt : k < len
    · obtain ⟨a', c', e1, h0 | ⟨b, off, e2, hblt, hcell⟩⟩ := id HY.out
      · omega
      injection e1 with e1 e3 e4
      clear e3 e4
      subst e1
      subst e2
      have hbk := HBY.out k (by omega)
      obtain ⟨bn, hbn9⟩ : ∃ bn : Nat, y.getD k 0 = (bn : Int) := ⟨(y.getD k 0).toNat, by omega⟩
      have hcl := hcell k (by omega)
      have hsm : someK y (k + 1) = someK y k ++ [(sumK y (k + 1), [y.getD k 0])] := rfl
      have hs1 : sumK y (k + 1) = sumK y k + (y.getD k 0 % 4 + 1) := rfl
      rw [hbn9] at hcl hbk hsm hs1
      obtain ⟨q, hq⟩ : ∃ q, bn % 4 = q := ⟨_, rfl⟩
      have hq4 : q < 4 := by omega
      have hq4I : (q : Int) < 4 := by omega
      have hq0I : (0 : Int) ≤ q := by omega
      have ht4 : (bn : Int).tmod 4 = (q : Int) := by rw [tmod4, hq]
      have hs2 : sumK y (k + 1) = sumK y k + ((q : Int) + 1) := by rw [hs1]; omega
      have hbd := sumK_bd y k
      have hlen : rs.length = k := by have := congrArg List.length hrk; rw [someK_len] at this; simpa using this
      obtain ⟨Sm, hSm⟩ : ∃ S, sumK y k = S := ⟨_, rfl⟩
      rw [hSm] at hbd hs2 ⊢
      have hS0 : 0 ≤ Sm := by omega
      have hS1 : Sm ≤ 100000 := by omega
      have hcr : wr.cell? ⟨b, off + k, none⟩ = some (.int .u8 bn) := by rw [hbel.cell hblt]; exact hcl
      have hkc : (k : Int) + 1 ≤ cap := by have := HCAP.out; omega
      have hkn : ¬ k = cap := by have := HCAP.out; omega
      have hkn2 : ¬ cap = k := by omega
      have hkI : (k : Int) ≤ 1000 := by omega
      have HS2 := Lib.hid hs2
      have HSM := Lib.hid hsm
      have HRK := Lib.hid hrk
      have HO := Lib.hid hown
      have HOFF := Lib.hid hoff
      have HBL := Lib.hid hbel
      have HLK := Lib.hid hlen
      have HCL := Lib.hid hcl
      clear hcell hbk hbn9 hs1 hs2 hsm hbd hSm hrk hown hoff hbel hlen hcl hq hkc
      have hk1 : (k : Int) + 1 ≤ len := by omega
      have hlc : (len : Int) ≤ cap := by have := HCAP.out; omega
      have how : ∀ o, (wr.alloc o).ownsRow w.heap.size 54 2 u3 rs.length (rs.flatMap VR.cells) := fun o => own_keep HO.out (Keep.alloc (fun _ => False) _ _) (fun _ _ h => h)
      have HOW := Lib.hid how
      clear how
      go_wp2_with (first | ((with_reducible refine wpList_buildS1 41 54 (.tmp 28) [.int .i64 (Sm + ((q : Int) + 1)), .slice (some ⟨b, off + k, none⟩) 1 (cap - k)] _ 32 Try.underlying41 infoVer ?_ ?_ ?_ ?_); (simp); (simp); exact rfl) | ((with_reducible refine wpList_appW (.tmp 21) (.tmp 29) 41 w.heap.size 54 _ 2 32 Try.underlying41 infoVer rfl ?_ u3 rs.length (rs.flatMap VR.cells) (HOW.out _) ⟨wr.heap.size, 0, none⟩ 1 1 [.int .i64 (Sm + ((q : Int) + 1)), .slice (some ⟨b, off + k, none⟩) 1 (cap - k)] ?_ (verCells wr _ _) ?_ ?_ ?_ ?_ ?_ ?_ ?_); omega; exact rfl; (intro v hv; simp at hv; rcases hv with rfl | rfl <;> rfl); (have := HLK.out; unfold maxLen; omega); (have := HLK.out; omega); (have := HBL.out.size; simp; omega); exact rfl; exact rfl; intro v6 w6 hown6 hg6 hv6; have HO6 := Lib.hid hown6; have HG6 := Lib.hid hg6; have HV6 := Lib.hid hv6; clear hown6 hg6 hv6))
      go_roundw
      case rel =>
        have hz := HBL.out.size
        have hnn : NumsOff (fun j => u3.ownBlock = some j ∨ j = wr.heap.size + 1) wr (.slice (some ⟨b, off + k, none⟩) 1 (cap - k)) [(bn : Int)] := by
          refine ⟨_, _, rfl, .inr ⟨b, off + k, rfl, Nat.lt_of_lt_of_le hblt hz, ?_, fun j hj => ?_⟩⟩
          · rintro (h | h)
            · have := (HO.out.lt b h).1; omega
            · omega
          · obtain rfl : j = 0 := by simpa using hj
            rw [Nat.add_zero, HBL.out.cell hblt]
            exact HCL.out
        have hfin := OwnVers.snoc (r := ⟨Sm + ((q : Int) + 1), [(bn : Int)], .slice (some ⟨b, off + k, none⟩) 1 (cap - k)⟩) _ HOFF.out (Below.refl _ _) hnn HG6.out HV6.out HO6.out
        have hal : (wr.alloc (.cells #[.int .i64 (Sm + ((q : Int) + 1)), .slice (some ⟨b, off + k, none⟩) 1 (cap - k)] 54)).heap.size = wr.heap.size + 1 := by simp
        refine ⟨k + 1, by omega, by go_num, by rw [HS2.out], ?_, (HBL.out.alloc hz _).grown HG6.out (by omega) (fun j hj => (HO.out.lt j hj).1)⟩
        rw [HSM.out, HS2.out, ← HRK.out]
        exact hfin
      case measure => simp [intOf]; omega
    · obtain rfl : k = len := by omega
      go_wp2
      go_ret
      exact ⟨_, rfl, ⟨rs, by rw [hrk, hl], hown, hoff⟩, hbel⟩
end Go.Proofs.Ytnjmlkohgbbafaa.K
