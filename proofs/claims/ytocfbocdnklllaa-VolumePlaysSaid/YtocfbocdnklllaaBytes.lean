/- Appending a slice that reads as a list of numbers; bytes as strings; lemmas for any program. -/
import Derived.Test.YtocfbocdnklllaaNums
import Derived.Laws.AppendOwnNone
import Derived.Laws.BytesArg
import Derived.Laws.BitsLemmas
import Derived.Lib.AppendZerosOnto
import Derived.Lib.AppendZeros
import Derived.Lib.SliceRun
namespace Go.Proofs.Ytocfbocdnklllaa.K
open Go.ChangeShapes Go.WideShapes Go.ChangeAt Go.RowKit

theorem run_app_none {P : Program} {w : World} {base : Nat} {t ty e : TypeId} {i : TypeInfo} {size : Nat} (ht : P.underlying t = some (.slice e)) (hi : P.info? e = some i) {v : Value} {n : Nat} {xs : List Value} (hown : w.ownsRow base e size v n xs) (c : Nat) :
   (Builtin.append_ #[t, t] ty #[v, .slice none 0 c]).run P w = .ok v w := by
 rcases hown.2 with ⟨rfl, rfl⟩ | ⟨g, cap, cur, rfl, _, _, hle, _, _, _⟩
 · simp [Builtin.append_, run_underlying ht, sizeOf, typeInfo, hi, Builtin.lenOf, Builtin.firstCells]
 · have hnc : ¬ cap < n := by omega
   simp [Builtin.append_, run_underlying ht, sizeOf, typeInfo, hi, Builtin.lenOf, Builtin.firstCells, hnc, storeCells]

theorem conv_str {P : Program} {w : World} {v : Value} {bs : List Int} (h : IsNums .u8 w v bs) (src e : TypeId) (hs : P.underlying src = some (.slice e)) (he : P.underlying e = some (.int .u8)) :
   ∀ dst, P.underlying dst = some .string → (convert src dst v).run P w = .ok (.string (strOfNums bs)) w := by
 intro dst hd
 obtain ⟨p, c, rfl, hp⟩ := h
 by_cases h0 : bs.length = 0
 · obtain rfl := List.length_eq_zero_iff.1 h0
   cases p with
   | none => exact run_convert_bytes_nil w src e hs he _ _ dst hd
   | some ad =>
     have hl : (loadCells ad 0).run P w = .ok ([] : List Value).toArray w := run_loadCells_list (P := P) w ad [] (by simp)
     show (convert src dst (.slice (some ad) 0 c)).run P w = _
     rw [run_convert_bytes_string w src dst e _ 0 c hs he hd, run_bytesToString w _ 0 c [] (by simpa using hl)]
     rfl
 · rcases hp with hp | ⟨b, off, rfl, hblk, hc⟩
   · exact absurd hp h0
   · exact run_convert_bytes_arg w src e hs he b off bs.length c bs rfl hc dst hd

end Go.Proofs.Ytocfbocdnklllaa.K
