/- Facts on numbers that the reference's one wants. -/
import Derived.Test.YtogjhjiapinmcaaDoorWalR5
namespace Go.Proofs.YtogjhjiapinmcaaDoor.K
open Go.ChangeShapes Go.WideShapes Go.ChangeAt Go.RowKit
set_option linter.unusedVariables false
set_option linter.unusedSimpArgs false

theorem dec_app (t : List Int) : ∀ (b : List Int) (u k n j : Nat), dec u k b = .ok n j → dec u k (b ++ t) = .ok n j ∧ j ≤ k + b.length ∧ k ≤ j
 | [], u, k, n, j, h => by simp [dec] at h
 | x :: r, u, k, n, j, h => by
   rw [List.cons_append]
   rw [dec] at h ⊢
   split at h
   · cases h
   · rename_i h1
     rw [if_neg h1]
     split at h
     · rename_i h2
       rw [if_pos h2]
       injection h with e1 e2
       subst e1; subst e2
       exact ⟨rfl, by rw [List.length_cons]; omega, by omega⟩
     · rename_i h2
       rw [if_neg h2]
       obtain ⟨a1, a2, a3⟩ := dec_app t r _ _ n j h
       exact ⟨a1, by rw [List.length_cons]; omega, by omega⟩
theorem dec_err_pos : ∀ {b : List Int} {u k : Nat} {er : Int}, dec u k b = .err er → 0 < er
 | [], u, k, er, h => by simp [dec] at h; omega
 | x :: r, u, k, er, h => by
   rw [dec] at h
   split at h
   · injection h with h; omega
   · split at h
     · cases h
     · exact dec_err_pos h
theorem numR_more {b y : List Int} {n : Int} {mx : Int} (h : numR b 0 mx = (n, y, 0)) (t : List Int) : numR (b ++ t) 0 mx = (n, y ++ t, 0) := by
 unfold numR at h ⊢
 rw [if_pos rfl] at h ⊢
 cases hd : dec 0 0 b with
 | err er =>
   rw [hd] at h
   dsimp only at h
   injection h with _ h
   injection h with _ h
   have := dec_err_pos hd
   omega
 | ok v j =>
   obtain ⟨h1, h2, -⟩ := dec_app t b 0 0 v j hd
   rw [hd] at h
   rw [h1]
   dsimp only at h ⊢
   split at h
   · injection h with _ h
     injection h with _ h
     omega
   · rename_i hm
     rw [if_neg hm]
     injection h with e1 h
     injection h with e2 _
     rw [e1, ← e2, List.drop_append_of_le_length (by omega)]
theorem num_gen {s : List Int} {g : Int} (hl : 8 ≤ s.length) (hs : ∀ x ∈ s, 0 ≤ x ∧ x ≤ 255) (g0 : 0 ≤ g) (g1 : g ≤ 18446744073709551615) : ((num8 s 8 : Nat) : Int) = g ↔ s.take 8 = genB g := by
 match s, hl with
 | a0 :: a1 :: a2 :: a3 :: a4 :: a5 :: a6 :: a7 :: r, _ =>
   have h0 := hs a0 (by simp)
   have h1 := hs a1 (by simp)
   have h2 := hs a2 (by simp)
   have h3 := hs a3 (by simp)
   have h4 := hs a4 (by simp)
   have h5 := hs a5 (by simp)
   have h6 := hs a6 (by simp)
   have h7 := hs a7 (by simp)
   have e1 : ((num8 (a0 :: a1 :: a2 :: a3 :: a4 :: a5 :: a6 :: a7 :: r) 8 : Nat) : Int) = a0 + a1 * 256 + a2 * 65536 + a3 * 16777216 + a4 * 4294967296 + a5 * 1099511627776 + a6 * 281474976710656 + a7 * 72057594037927936 := by
     simp only [num8, List.getD_cons_zero, List.getD_cons_succ, Nat.zero_add, Nat.mul_zero, Nat.pow_zero, Nat.mul_one, Nat.reduceMul, Nat.reducePow, Nat.reduceAdd]
     omega
   have e2 : genB g = [g % 256, g / 256 % 256, g / 65536 % 256, g / 16777216 % 256, g / 4294967296 % 256, g / 1099511627776 % 256, g / 281474976710656 % 256, g / 72057594037927936 % 256] := by
     simp [genB, List.range, List.range.loop]
   rw [e1, e2]
   simp only [List.take_succ_cons, List.take_zero, List.cons.injEq, and_true]
   constructor
   · intro h; refine ⟨?_, ?_, ?_, ?_, ?_, ?_, ?_, ?_⟩ <;> omega
   · rintro ⟨q0, q1, q2, q3, q4, q5, q6, q7⟩; omega
theorem srcB {S : Nat → Prop} {w : World} {u : Value} {zs : List Int} (h : Rd S w u (.ns .u8 zs)) : SrcOk S w u 1 (zs.map nB) := by
 obtain ⟨a, c, rfl, hc, h1⟩ := h.ns_out
 refine ⟨a, c, zs.map (fun z => [Value.int .u8 z]), by rw [List.length_map], by simp, ?_, ?_, ?_, ?_⟩
 · intro x hx
   obtain ⟨z, -, rfl⟩ := List.mem_map.1 hx
   exact ⟨rfl, fun y hy => by simp at hy; subst hy; rfl⟩
 · intro r hr
   obtain ⟨z, -, rfl⟩ := List.mem_map.1 hr
   rfl
 · intro j q c r x d a1 a2 a3 a4
   rw [List.getElem?_map] at a1 a2
   cases hz : zs[j]? with
   | none => rw [hz] at a1; cases a1
   | some z =>
     rw [hz] at a1 a2
     injection a1 with a1; injection a2 with a2
     subst a1; subst a2
     match q with
     | 0 => injection a3 with a3; injection a4 with a4; subst a3; subst a4; exact .v _
     | q + 1 => cases a3
 · rcases h1 with h1 | ⟨b, off, e, hS, hb, hcell⟩
   · exact .inl (by rw [List.length_map]; exact h1)
   · refine .inr ⟨_, e, fun j u hj => ?_⟩
     have hfl : (zs.map (fun z => [Value.int .u8 z])).flatten = zs.map (Value.int .u8) := by
       clear hcell hj h hc
       induction zs with
       | nil => rfl
       | cons z r ih => simpa using ih
     rw [hfl, List.getElem?_map] at hj
     cases hz : zs[j]? with
     | none => rw [hz] at hj; cases hj
     | some z =>
       rw [hz] at hj
       injection hj with hj
       have hlt := (List.getElem?_eq_some_iff.1 hz).1
       have := hcell j hlt
       rw [List.getD, hz] at this
       rw [Addr.add_lit, this, ← hj]; rfl
end Go.Proofs.YtogjhjiapinmcaaDoor.K
