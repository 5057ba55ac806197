/- Append of both programs, whatever becomes of it. -/
import Derived.Test.YtogjhjiapinmcaaDoorWalRn
import Derived.Test.YtogjhjiapinmcaaDoorWalP
namespace Go.Proofs.YtogjhjiapinmcaaDoor.K
open Go.ChangeShapes Go.WideShapes Go.ChangeAt Go.RowKit
set_option linter.unusedVariables false
set_option linter.unusedSimpArgs false


def codeA (f to N n : Nat) : Nat := if to < f + N then 27 else if n < f + N then 25 else 0
def cntA (f to N n : Nat) : Nat := if to < f + N then 0 else if n < f + N then n - f else N
def posA (f to N n : Nat) : Nat := if to < f + N then 0 else if n < f + N then 0 else f + N
theorem append_c (X : Cx) (K : Dk) {B S : Nat} (f to : Nat) (gn : Int) (b : List Int) (pb : Option Addr) (cb : Nat) (w0 : World) {n : Nat} (hn0 : K.secs.length = n) (hK : K.ok B S) (hl : K.l = -1) (hn : K.uns.length ≤ 1000000) (hft : f ≤ to) (hfl : f ≤ n) (hto : to ≤ 1000000) (hbb : BytesL b) (hbl : b.length ≤ 9000) (h01 : 1 ≤ w0.heap.size) (m0 : MemOk X w0 [(1, K.rb B S), (2, K.ru), (3, K.rs S), (4, .dat (.slice pb b.length cb) (.ns .u8 b)), (5, tabR)] w0) :
   Calls Tryd.prog 11 #[.pointer (some ⟨B, 0, none⟩), .int .i64 f, .int .i64 to, .int .u64 gn, .slice pb b.length cb] w0 fun e w' => e = .returned (.tuple #[.int .i64 (posA f to (secN (recN b.length)) n), .int .i64 (codeA f to (secN (recN b.length)) n)]) ∧ ∃ K9 : Dk, K9.ok B S ∧ K9.l = -1 ∧ K9.secs = putK K.secs f gn (recV b) (cntA f to (secN (recN b.length)) n) ∧ K9.uns.length = K.uns.length + (cntA f to (secN (recN b.length)) n) ∧ MemOk X w0 [(1, K9.rb B S), (2, K9.ru), (3, K9.rs S), (4, .dat (.slice pb b.length cb) (.ns .u8 b)), (5, tabR)] w' := by
 subst hn0
 by_cases h1 : to < f + (secN (recN b.length))
 · refine (append_no X K f to gn b pb cb w0 hft h1 hto hbl h01 m0).mono fun e w' h => ?_
   unfold posA codeA cntA
   rw [if_pos h1, if_pos h1, if_pos h1]
   exact ⟨h.1, K, hK, hl, rfl, rfl, h.2⟩
 · by_cases h2 : K.secs.length < f + (secN (recN b.length))
   · refine (append_p X K f to gn b pb cb w0 hK hl hn (by omega) hfl h2 hto hbb hbl h01 m0).mono fun e w' h => ?_
     unfold posA codeA cntA
     rw [if_neg h1, if_neg h1, if_neg h1, if_pos h2, if_pos h2, if_pos h2]
     obtain ⟨he, K9, a1, a2, a3, a4, a5⟩ := h
     exact ⟨he, K9, a1, a2, a3, by rw [a4, unsK_len], a5⟩
   · refine (append_v X K f to gn b pb cb w0 rfl rfl hK hl hn (by omega) (by omega) hto hbb hbl h01 m0).mono fun e w' h => ?_
     unfold posA codeA cntA
     rw [if_neg h1, if_neg h1, if_neg h1, if_neg h2, if_neg h2, if_neg h2]
     obtain ⟨he, K9, a1, a2, a3, a4, a5⟩ := h
     exact ⟨he, K9, a1, a2, a3, by rw [a4, unsK_len], a5⟩
theorem rappend_c (X : Cx) (B : Nat) (secs : List (List Int)) (wl : List (Int × List Int)) (f to : Nat) (gn : Int) (b : List Int) (pS pl pb : Option Addr) (cS cl cb : Nat) (w0 : World) {n : Nat} (hn0 : secs.length = n) (hbb : BytesL b) (hbl : b.length ≤ 9000) (hto : to ≤ 1000000) (hwl : wl.length ≤ 100000) (hft : f ≤ to) (hfl : f ≤ n) (m0 : MemOk X w0 [(1, .box B 60 [.slice pS secs.length cS, .slice pl wl.length cl, .int .i64 (-1)]), (2, .dat (.slice pS secs.length cS) (.l 1 (secs.map bD))), (3, .dat (.slice pl wl.length cl) (.l 2 (wl.map wD))), (4, .dat (.slice pb b.length cb) (.ns .u8 b))] w0) :
   Calls Tryd.prog 12 #[.pointer (some ⟨B, 0, none⟩), .int .i64 f, .int .i64 to, .int .u64 gn, .slice pb b.length cb] w0 fun e w' => e = .returned (.tuple #[.int .i64 (posA f to (secN (recN b.length)) n), .int .i64 (codeA f to (secN (recN b.length)) n)]) ∧ ∃ (p' : Option Addr) (c' : Nat), MemOk X w0 [(1, .box B 60 [.slice pS secs.length cS, .slice p' (wl ++ wlK f gn (recV b) (cntA f to (secN (recN b.length)) n)).length c', .int .i64 (-1)]), (2, .dat (.slice pS secs.length cS) (.l 1 (secs.map bD))), (3, .dat (.slice p' (wl ++ wlK f gn (recV b) (cntA f to (secN (recN b.length)) n)).length c') (.l 2 ((wl ++ wlK f gn (recV b) (cntA f to (secN (recN b.length)) n)).map wD))), (4, .dat (.slice pb b.length cb) (.ns .u8 b))] w' := by
 subst hn0
 by_cases h1 : to < f + (secN (recN b.length))
 · refine (rappend_no X B secs wl f to gn b pS pl pb cS cl cb w0 hbb hbl hto hwl hft h1 m0).mono fun e w' h => ?_
   unfold posA codeA cntA
   rw [if_pos h1, if_pos h1, if_pos h1]
   have e9 : wl ++ wlK f gn (recV b) 0 = wl := by simp [wlK]
   rw [e9]
   exact ⟨h.1, pl, cl, h.2⟩
 · by_cases h2 : secs.length < f + (secN (recN b.length))
   · refine (rappend_p X B secs wl f to gn b pS pl pb cS cl cb w0 hbb hbl hto hwl (by omega) hfl h2 m0).mono fun e w' h => ?_
     unfold posA codeA cntA
     rw [if_neg h1, if_neg h1, if_neg h1, if_pos h2, if_pos h2, if_pos h2]
     exact h
   · refine (rappend_v X B secs wl f to gn b pS pl pb cS cl cb w0 hbb hbl hto hwl (by omega) (by omega) m0).mono fun e w' h => ?_
     unfold posA codeA cntA
     rw [if_neg h1, if_neg h1, if_neg h1, if_neg h2, if_neg h2, if_neg h2]
     exact h
theorem curV_snoc {secs : List (List Int)} {wl : List (Int × List Int)} {i : Nat} {e : Int × List Int} : curV secs (wl ++ [e]) i = if e.1 = (i : Int) then e.2 else curV secs wl i := by
 unfold curV
 rw [List.foldl_append]
 rfl
theorem cur_set {secs V : List (List Int)} {wl : List (Int × List Int)} {n : Nat} (hV : ∀ i, i < n → curV secs wl i = V.getD i []) (hl : V.length = n) (j : Nat) (x : List Int) : ∀ i, i < n → curV secs (wl ++ [((j : Int), x)]) i = (V.set j x).getD i [] := by
 intro i hi
 rw [curV_snoc]
 by_cases h : j = i
 · subst h
   rw [if_pos rfl, getD_set_eq (by omega)]
 · rw [if_neg (by omega), getD_set_ne h, hV i hi]
theorem cur_put {secs V : List (List Int)} {wl : List (Int × List Int)} {n f : Nat} {gn : Int} {r : List Int} (hV : ∀ i, i < n → curV secs wl i = V.getD i []) (hl : V.length = n) : ∀ k, ∀ i, i < n → curV secs (wl ++ wlK f gn r k) i = (putK V f gn r k).getD i []
 | 0 => by
   have e9 : wl ++ wlK f gn r 0 = wl := by simp [wlK]
   rw [e9]; exact hV
 | k + 1 => by
   have h := cur_set (cur_put (f := f) (gn := gn) (r := r) hV hl k) (by rw [putK_len]; exact hl) (f + k) (chunkP gn r k)
   rw [← wlK_snoc, pad_chunk]
   exact h
theorem cntA_le {f to N n : Nat} (h : f ≤ n) : cntA f to N n ≤ n := by
 unfold cntA
 split
 · omega
 · split <;> omega
theorem posA_ok {f to N n : Nat} (h : codeA f to N n = 0) : f ≤ posA f to N n ∧ posA f to N n ≤ to ∧ posA f to N n ≤ n := by
 unfold codeA at h
 unfold posA
 split at h
 · omega
 · rename_i h1
   rw [if_neg h1]
   split at h
   · omega
   · rename_i h2
     rw [if_neg h2]
     omega
theorem two_all {α : Type} {P : α → Prop} {a b : α} (h1 : P a) (h2 : P b) : ∀ x ∈ [a, b], P x := fun x hx => by
 rcases List.mem_cons.1 hx with rfl | hx
 · exact h1
 · rw [List.mem_singleton.1 hx]; exact h2
theorem scanF_len {secs : List (List Int)} {to gn : Int} (hs : ∀ s ∈ secs, Sec s) : ∀ (m : Nat) (f : Int), (scanF secs to gn m f).1.length ≤ secs.length - f.toNat
 | 0, f => Nat.zero_le _
 | m + 1, f => by
   by_cases hf : f < to
   · cases hR : readV secs f to gn with
     | none => rw [scanF_none hf hR]; exact Nat.zero_le _
     | some x =>
       obtain ⟨b, n⟩ := x
       have h := readV_at hR hs
       have ih := scanF_len (to := to) (gn := gn) hs m (f + n)
       unfold scanF
       rw [if_pos hf, hR]
       dsimp only
       rw [List.length_cons]
       omega
   · rw [scanF_end hf]; exact Nat.zero_le _
theorem place_v (a : Int) (b r : Nat) (w0 : World) (hr : a % (b : Int) = r) (hb : 0 < b) (hb2 : b ≤ 1000) (a0 : -9223372036854775808 ≤ a) (a1 : a ≤ 9223372036854775807) :
   Calls Tryd.prog 10 #[.int .i64 a, .int .i64 b] w0 fun e w' => e = .returned (.int .i64 r) ∧ Below w0.heap.size w0 w' := by
 rw [← hr]; exact place_x a b w0 hb hb2 a0 a1
theorem kwrite_c (X : Cx) (K : Dk) {B S : Nat} (i : Nat) (b : List Int) (v : Value) (w0 : World) {n : Nat} (hn0 : K.secs.length = n) (hK : K.ok B S) (hl : K.l = -1) (hn : K.uns.length ≤ 1000000) (hi : i < n) (hb : b.length ≤ 64) (hy : BytesL b) (m : MemOk X w0 [(1, K.rb B S), (2, K.ru), (3, K.rs S), (4, .dat v (.ns .u8 b))] w0) :
   Calls Tryd.prog 18 #[.pointer (some ⟨B, 0, none⟩), .int .i64 i, v] w0 fun e w' => e = .returned (.int .i64 0) ∧ ∃ K9 : Dk, K9.ok B S ∧ K9.l = -1 ∧ K9.secs = K.secs.set i (pad b) ∧ K9.uns.length = K.uns.length + 1 ∧ MemOk X w0 [(1, K9.rb B S), (2, K9.ru), (3, K9.rs S), (4, .dat v (.ns .u8 b))] w' := by
 subst hn0
 refine (kwrite hK m i hi hb hy hl (by omega)).mono fun e w' h => ?_
 obtain ⟨he, vu, cur, h1, h2⟩ := h
 exact ⟨he, _, h1, rfl, rfl, by rw [List.length_append]; rfl, h2⟩
theorem rscan_c (X : Cx) (B : Nat) (secs V : List (List Int)) (wl : List (Int × List Int)) (f to gn : Int) (pS pl : Option Addr) (cS cl : Nat) (w0 : World) {n : Nat} (hn0 : secs.length = n) (hVl : V.length = n) (hV : ∀ i, i < n → curV secs wl i = V.getD i []) (hVs : ∀ s ∈ V, Sec s) (hwl : wl.length ≤ 1000000) (hsl : n ≤ 100) (hf0 : -1000 ≤ f) (hf1 : f ≤ 1000) (ht0 : -9223372036854775808 ≤ to) (ht1 : to ≤ 9223372036854775807) (g0 : 0 ≤ gn) (g1 : gn ≤ 18446744073709551615) {L : List (List Int)} {o : Int} (hS : scanF V to gn (to - f).toNat f = (L, o)) (m0 : MemOk X w0 [(1, .box B 60 [.slice pS secs.length cS, .slice pl wl.length cl, .int .i64 (-1)]), (2, .dat (.slice pS secs.length cS) (.l 1 (secs.map bD))), (3, .dat (.slice pl wl.length cl) (.l 2 (wl.map wD)))] w0) :
   Calls Tryd.prog 16 #[.pointer (some ⟨B, 0, none⟩), .int .i64 f, .int .i64 to, .int .u64 gn] w0 fun e w' => ∃ (p : Option Addr) (c : Nat), e = .returned (.tuple #[.slice p L.length c, .int .i64 o]) ∧ MemOk X w0 [(1, .box B 60 [.slice pS secs.length cS, .slice pl wl.length cl, .int .i64 (-1)]), (2, .dat (.slice pS secs.length cS) (.l 1 (secs.map bD))), (3, .dat (.slice pl wl.length cl) (.l 2 (wl.map wD))), (4, .dat (.slice p L.length c) (.l 1 (L.map bD)))] w' := by
 subst hn0
 by_cases hf : f < 0
 · rw [scanF_neg hf] at hS
   injection hS with e1 e2
   subst e1; subst e2
   refine (rscan_neg X B secs wl f to gn pS pl cS cl w0 hf m0).mono fun e w' h => ?_
   obtain ⟨he, m⟩ := h
   have m1 := m.dat 4 rfl (v := .slice none 0 0) (d := .l 1 []) (.l0 none 0 1)
   exact ⟨none, 0, he, m1.only [1, 2, 3, 4]⟩
 · obtain ⟨q, rfl⟩ : ∃ q : Nat, f = (q : Int) := ⟨f.toNat, by omega⟩
   refine (rscan_x X B secs V wl q to gn pS pl cS cl w0 hVl hV hVs hwl hsl (by omega) ht0 ht1 g0 g1 m0).mono fun e w' h => ?_
   rw [hS] at h
   exact h
end Go.Proofs.YtogjhjiapinmcaaDoor.K
