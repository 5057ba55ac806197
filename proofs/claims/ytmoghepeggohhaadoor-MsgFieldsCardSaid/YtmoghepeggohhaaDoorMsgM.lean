/- msg: the mathematics of messages without entries. -/
import Derived.Test.YtmoghepeggohhaaDoorG3
namespace Go.Proofs.YtmoghepeggohhaaDoor.K
open Go.ChangeShapes Go.WideShapes Go.ChangeAt Go.RowKit
set_option linter.unusedVariables false
set_option linter.unusedSimpArgs false

def inB (n e : Int) : Bool := decide (0 ≤ n) && decide (n < e)
def bitI (b : Bool) : Int := if b then 1 else 0
structure NV where
 te : Int
 ix : Int
 lt : Int
 co : Int
 ok : Bool
 vo : Int
 ch : Int
 ma : Int
 fl : Int
deriving DecidableEq
def namedV (k : Int) (n : NV) : NV :=
 if k = 1 ∨ k = 3 then ⟨n.te, n.ix, n.lt, 0, false, 0, 0, 0, 0⟩
 else if k = 2 ∨ k = 4 then ⟨n.te, 0, 0, 0, n.ok, 0, 0, 0, 0⟩
 else if k = 5 then ⟨n.te, n.ix, n.lt, n.co, false, 0, 0, 0, 0⟩
 else if k = 6 then ⟨n.te, n.ix, 0, 0, n.ok, 0, 0, 0, 0⟩
 else if k = 7 then ⟨n.te, 0, 0, 0, false, 0, 0, 0, 0⟩
 else if k = 9 then ⟨0, 0, 0, 0, false, n.vo, n.ch, n.ma, n.fl⟩
 else ⟨0, 0, 0, 0, false, 0, 0, 0, 0⟩
def namedB (k : Int) : Bool := decide (1 ≤ k ∧ k ≤ 9)
def timesN (n : NV) : List Int := [n.te, n.ix, n.lt, n.co, n.ma, n.fl]
def numsB (n : NV) : Bool := (timesN n).all (fun x => inB x 1099511627777) && (inB n.vo 8 && inB n.ch 256)
theorem numsB_no {n : NV} {k : Nat} (hk : k < (timesN n).length) (h : inB ((timesN n).getD k 0) 1099511627777 = false) : numsB n = false := by
 unfold numsB
 rw [Bool.and_eq_false_iff]
 left
 rw [List.all_eq_false]
 refine ⟨(timesN n).getD k 0, ?_, by rw [h]; simp⟩
 rw [List.getD, List.getElem?_eq_getElem hk]; exact List.getElem_mem hk
theorem numsB_all {n : NV} (h : ∀ k, k < 6 → inB ((timesN n).getD k 0) 1099511627777 = true) : numsB n = (inB n.vo 8 && inB n.ch 256) := by
 have h0 := h 0 (by decide)
 have h1 := h 1 (by decide)
 have h2 := h 2 (by decide)
 have h3 := h 3 (by decide)
 have h4 := h 4 (by decide)
 have h5 := h 5 (by decide)
 simp only [timesN, List.getD_cons_zero, List.getD_cons_succ] at h0 h1 h2 h3 h4 h5
 simp only [numsB, timesN, List.all_cons, List.all_nil, h0, h1, h2, h3, h4, h5, Bool.and_true, Bool.true_and]
structure MV where
 k : Int
 g : Int
 f : Int
 t : Int
 n : NV
 bi : Int
 bt : Int
 cf : List Int
 bd : List Int
 da : List Int
def listsB (m : MV) : Bool := (if m.k = 7 then baseOk m.bi m.bt m.cf m.bd else decide ((m.bi, m.bt, m.cf, m.bd) = (0, 0, [], []))) && (if m.k = 8 then decide (m.da.length ≤ 65535) else decide (m.da.length = 0))
def msgR (m : MV) : Bool := namedB m.k && (decide (namedV m.k m.n = m.n) && (numsB m.n && (listsB m && (inB m.g 8 && (inB m.f 7 && inB m.t 7)))))
theorem numR_own {x : Int} (rest : List Int) {mx : Int} (h0 : 0 ≤ x) (h1 : x ≤ mx) (h2 : mx ≤ 18446744073709551615) : numR (enc x ++ rest) 0 mx = (x, rest, 0) := by
 rw [numR_val mx (dec_enc x h0 (by omega) rest), if_neg (by omega)]
 simp [Int.toNat_of_nonneg h0]
theorem encs_cons (x : Int) (l : List Int) : encs (x :: l) = enc x ++ encs l := by simp [encs]
end Go.Proofs.YtmoghepeggohhaaDoor.K
