/- mementoref3.PutSlot. -/
import Derived.Test.YthecjhjomkpgkaaSlot8
import Derived.Test.YthecjhjomkpgkaaApp
namespace Go.Proofs.Ythecjhjomkpgkaa.K
open Go.ChangeShapes Go.WideShapes Go.ChangeAt Go.RowKit
set_option linter.unusedVariables false

theorem own_base {w : World} {B B' : Nat} {e : TypeId} {size : Nat} {v : Value} {n : Nat} {xs : List Value} (h : w.ownsRow B e size v n xs) (hb : B' ≤ B) : w.ownsRow B' e size v n xs := by
  refine ⟨h.1, ?_⟩
  rcases h.2 with hn | ⟨g, cap, cur, e1, hbg, rest⟩
  · exact .inl hn
  · exact .inr ⟨g, cap, cur, e1, Nat.le_trans hb hbg, rest⟩
theorem own_keep {bad : Nat → Prop} {w W : World} {base : Nat} {e : TypeId} {size : Nat} {v : Value} {n : Nat} {xs : List Value} (h : w.ownsRow base e size v n xs) (hk : Keep bad w W) (hb : ∀ k, v.ownBlock = some k → ¬ bad k) : W.ownsRow base e size v n xs := ownsRow_keep h hk hb
/-- 'append(v, x...)' of bytes. -/
theorem run_appN {P : Program} (w : World) (base : Nat) (t ty e : TypeId) (k : IntKind) (bytes : Nat) (ht : P.underlying t = some (.slice e)) (hinf : (P.info? e).map (fun i => (i.zero, i.size, i.bytes)) = some (some (.int k 0), 1, bytes)) (hb8 : bytes ≤ 8)
    (v : Value) (n : Nat) (xs : List Value) (hown : w.ownsRow base e 1 v n xs) (u : Value) (zs : List Int) (hu : IsNums k w u zs) (hn : n + zs.length ≤ 1000000000) (hbase : base ≤ w.heap.size) :
    ∃ v' w', (Builtin.append_ #[t, t] ty #[v, u]).run P w = .ok v' w' ∧ w'.ownsRow base e 1 v' (n + zs.length) (xs ++ zs.map (Value.int k)) ∧ Below base w w' := by
  obtain ⟨i0, hi, hz0, hz1, hz2⟩ := info_parts hinf
  have hbn : (n + zs.length) * bytes ≤ 140737488355328 := Nat.le_trans (Nat.mul_le_mul_left _ hb8) (by omega)
  obtain ⟨p, c, rfl, hp⟩ := hu
  have main : ∀ ad : Addr, p = some ad → (∀ j v, (zs.map (Value.int k))[j]? = some v → w.cell? (ad.add j) = some v) → ∃ v' w', (Builtin.append_ #[t, t] ty #[v, .slice p zs.length c]).run P w = .ok v' w' ∧ w'.ownsRow base e 1 v' (n + zs.length) (xs ++ zs.map (Value.int k)) ∧ Below base w w' := by
    intro ad hpa hcells
    obtain ⟨v', w', hr, h2, h3, _⟩ := run_append_own (P := P) w base t ty e i0 (.int k 0) 1 bytes ht hi hz0 hz1 hz2 rfl (by decide) v n xs hown ad zs.length c (zs.map (Value.int k)) (by simp) hcells (by intro u hu; obtain ⟨y, _, rfl⟩ := List.mem_map.1 hu; rfl) (by unfold maxLen; omega) hbn hbase
    rw [hpa]
    exact ⟨v', w', hr, h2, (Below.refl _ w).grown h3 hbase (fun j hj => (hown.lt j hj).1)⟩
  by_cases h0 : zs.length = 0
  · obtain rfl := List.length_eq_zero_iff.1 h0
    cases p with
    | none => exact ⟨v, w, run_app_none ht hi hown c, by simpa using hown, Below.refl _ _⟩
    | some ad => exact main ad rfl (by simp)
  · rcases hp with hp | ⟨b, off, rfl, hblk, hc⟩
    · exact absurd hp h0
    · refine main _ rfl ?_
      intro j u hj
      have hjn : j < zs.length := by
        have := (List.getElem?_eq_some_iff.1 hj).1
        simpa using this
      rw [Addr.add_lit, hc j hjn]
      simp [hjn] at hj
      subst hj
      simp [List.getD, hjn]
section
variable {P : Program} {a : Act} {w : World} {K : Act → World → Prop} {Q : Exit → Act → World → Prop}
theorem wp_appN {o : Oper} (s x : Operand) (t : TypeId) (ho : o.op = .call { callee := .builtin .append, args := #[s, x], argTypes := #[t, t] })
    (base : Nat) (e : TypeId) (k : IntKind) (bytes : Nat) (ht : P.underlying t = some (.slice e)) (hinf : (P.info? e).map (fun i => (i.zero, i.size, i.bytes)) = some (some (.int k 0), 1, bytes)) (hb8 : bytes ≤ 8)
    (v : Value) (n : Nat) (xs : List Value) (hown : w.ownsRow base e 1 v n xs) (u : Value) (zs : List Int) (hu : IsNums k w u zs) (hn : n + zs.length ≤ 1000000000) (hbase : base ≤ w.heap.size) (hs : a.eval s = v) (hx : a.eval x = u)
    (h : ∀ v' w', w'.ownsRow base e 1 v' (n + zs.length) (xs ++ zs.map (Value.int k)) → Below base w w' → K (a.put o.dst v') w') : o.wp P a w K Q := by
  obtain ⟨v', w', hr, h2, h3⟩ := run_appN (P := P) w base t o.type e k bytes ht hinf hb8 v n xs hown u zs hu hn hbase
  unfold Oper.wp execOp
  simp only [ho, resolve, invoke, builtin, Sem.run_bind, Sem.run_pure, Result.andThen_ok, List.map_toArray, List.map_cons, List.map_nil, hs, hx, hr]
  exact h v' w' h2 h3
end
def lenOf : Value → Nat
  | .slice _ n _ => n
  | _ => 0

set_option maxRecDepth 100000 in
set_option maxHeartbeats 1000000 in
theorem pput_any (w : World) (c g A : Nat) (a : Int) (hmx : (a = (A : Int)) ∨ (a < 0 ∧ A = 0)) (hA1 : A ≤ 9223372036854775807) :
    Calls Try.prog 11 #[.agg #[.int .u64 c, .int .u64 g, .int .i64 a]] w fun e w' => ∃ u, e = .returned u ∧ w'.ownsRow w.heap.size 5 1 u 64 (B8 (slotB c g A)) ∧ Below w.heap.size w w' := by
  obtain ⟨mx, hmxe⟩ : ∃ mx, (if a < 0 then (0 : Int) else a) = mx := ⟨_, rfl⟩
  have HW : Hid (IntKind.u64.wrap mx = (A : Int)) := Lib.hid (by
    rw [← hmxe]
    rcases hmx with rfl | ⟨h1, rfl⟩
    · rw [if_neg (by omega), IntKind.wrap_u64]; omega
    · rw [if_pos h1, IntKind.wrap_u64]; rfl)
  have HMX := Lib.hid hmxe
  clear hmx hmxe
  have B1 : Hid (Below w.heap.size w (w.alloc (.cells #[.int .u64 c, .int .u64 g, .int .i64 a] 31))) := Lib.hid ((Below.refl _ w).alloc (Nat.le_refl _) _)
  have X1 : Hid (Blk (w.alloc (.cells #[.int .u64 c, .int .u64 g, .int .i64 a] 31)) w.heap.size 31 [.int .u64 c, .int .u64 g, .int .i64 a]) := Lib.hid (Blk.alloc w 31 #[.int .u64 c, .int .u64 g, .int .i64 a])
  have Z1 : Hid ((w.alloc (.cells #[.int .u64 c, .int .u64 g, .int .i64 a] 31)).heap.size = w.heap.size + 1) := Lib.hid (by simp)
  go_enter Try.func11, Try.ntmps11
  go_wp2_with fail
  obtain ⟨w1, hw1⟩ : ∃ x, w.alloc (.cells #[.int .u64 c, .int .u64 g, .int .i64 a] 31) = x := ⟨_, rfl⟩
  rw [hw1] at B1 X1 Z1 ⊢
  obtain ⟨M, hM⟩ : ∃ M, w1.drew.heap.size = M := ⟨_, rfl⟩
  have MZ : Hid (w.heap.size + 1 = M) := Lib.hid (by rw [← hM]; exact Z1.out.symm)
  have hx : ∀ W, Keep (fun _ => False) w1.drew W → Blk W w.heap.size 31 [.int .u64 c, .int .u64 g, .int .i64 a] := fun W hW => (X1.out.keep (Keep.drew (fun _ => False) _) (fun h => h)).keep hW (fun h => h)
  have HX0 := Lib.hid (fun W hW => (hx W hW).cell 0)
  have HX1 := Lib.hid (fun W hW => (hx W hW).cell 1)
  have HX2 := Lib.hid (fun W hW => (hx W hW).cell 2)
  clear hx hw1
  refine regionE_begin 12 (fun W => Keep (fun _ => False) w1.drew W) (by kernel_rfl) ?_
  refine stepE_any 0 (some 4) (v := ?va0) (fun _ => Keep.refl _ _) rfl (by rfl) (by kernel_rfl) (by kernel_rfl) (by kernel_rfl) (by decide) (fun _ _ _ h => h) (by rfl) ?ya0 ?na0
  case ya0 => intro W; go_simp; try with_reducible rfl
  try simp only [Act.put, List.setIfInBounds_toArray, List.set_cons_zero, List.set_cons_succ]
  refine stepE_read 1 16 (some 5) (v := ?va1) (Keep.refl _ _) rfl (by rfl) (by kernel_rfl) (by kernel_rfl) (by kernel_rfl) (by kernel_rfl) (by kernel_rfl) (fun _ _ _ h => h) (by rfl) ?ya1 ?na1
  case ya1 => intro W hW; have q := HX0.out W hW; go_simp; try with_reducible rfl
  try simp only [Act.put, List.setIfInBounds_toArray, List.set_cons_zero, List.set_cons_succ]
  refine stepE_any 3 (some 7) (v := ?va3) (fun _ => Keep.refl _ _) rfl (by rfl) (by kernel_rfl) (by kernel_rfl) (by kernel_rfl) (by decide) (fun _ _ _ h => h) (by rfl) ?ya3 ?na3
  case ya3 => intro W; go_simp; try with_reducible rfl
  try simp only [Act.put, List.setIfInBounds_toArray, List.set_cons_zero, List.set_cons_succ]
  refine stepE_read 4 16 (some 8) (v := ?va4) (Keep.refl _ _) rfl (by rfl) (by kernel_rfl) (by kernel_rfl) (by kernel_rfl) (by kernel_rfl) (by kernel_rfl) (fun _ _ _ h => h) (by rfl) ?ya4 ?na4
  case ya4 => intro W hW; have q := HX1.out W hW; go_simp; try with_reducible rfl
  try simp only [Act.put, List.setIfInBounds_toArray, List.set_cons_zero, List.set_cons_succ]
  refine stepE_any 7 (some 11) (v := ?va7) (fun _ => Keep.refl _ _) rfl (by rfl) (by kernel_rfl) (by kernel_rfl) (by kernel_rfl) (by decide) (fun _ _ _ h => h) (by rfl) ?ya7 ?na7
  case ya7 => intro W; go_simp; try with_reducible rfl
  try simp only [Act.put, List.setIfInBounds_toArray, List.set_cons_zero, List.set_cons_succ]
  refine stepE_read 8 16 (some 12) (v := ?va8) (Keep.refl _ _) rfl (by rfl) (by kernel_rfl) (by kernel_rfl) (by kernel_rfl) (by kernel_rfl) (by kernel_rfl) (fun _ _ _ h => h) (by rfl) ?ya8 ?na8
  case ya8 => intro W hW; have q := HX2.out W hW; go_simp; try with_reducible rfl
  try simp only [Act.put, List.setIfInBounds_toArray, List.set_cons_zero, List.set_cons_succ]
  refine stepE_any 9 (some 13) (v := .int .i64 mx) (fun _ => Keep.refl _ _) rfl (by rfl) (by kernel_rfl) (by kernel_rfl) (by kernel_rfl) (by decide) (fun _ _ _ h => h) (by rfl) ?ya9 ?na9
  case ya9 => intro W; go_simp; rw [HMX.out]; try with_reducible rfl
  try simp only [Act.put, List.setIfInBounds_toArray, List.set_cons_zero, List.set_cons_succ]
  refine stepE_any 10 (some 14) (v := ?va10) (fun _ => Keep.refl _ _) rfl (by rfl) (by kernel_rfl) (by kernel_rfl) (by kernel_rfl) (by decide) (fun _ _ _ h => h) (by rfl) ?ya10 ?na10
  case ya10 => intro W; go_simp; try with_reducible rfl
  try simp only [Act.put, List.setIfInBounds_toArray, List.set_cons_zero, List.set_cons_succ]
  -- 2: call:48 -> 6
  refine stepE_only 2 rfl (by kernel_rfl) (by rfl) (fun K' hK => ?_)
  go_simp
  refine (eight_any _ c).mono ?_
  rintro e w2 ⟨u2, rfl, ho2, hb2⟩
  rw [hM] at ho2 hb2
  refine hK _ _ (Keep.ofBelow (by rw [hM]; exact hb2)) ?_
  have O2 := Lib.hid ho2
  have BB2 := Lib.hid hb2
  clear ho2 hb2
  clear hK K'
  try simp only [Act.put, List.setIfInBounds_toArray, List.set_cons_zero, List.set_cons_succ]
  -- 5: call:48 -> 9
  refine stepE_only 5 rfl (by kernel_rfl) (by rfl) (fun K' hK => ?_)
  go_simp
  refine (eight_any _ g).mono ?_
  rintro e w3 ⟨u3, rfl, ho3, hb3⟩
  have hm2 : M ≤ w2.heap.size := by have := BB2.out.size; omega
  have O3 := Lib.hid (own_keep O2.out (Keep.ofBelow (bad := fun _ => False) hb3) (fun _ _ h => h))
  have P3 := Lib.hid (own_base ho3 hm2)
  have BB3 := Lib.hid (BB2.out.trans (hb3.mono hm2))
  refine hK _ _ (Keep.ofBelow (by rw [hM]; exact BB3.out)) ?_
  clear ho3 hb3 hm2 O2 BB2
  clear hK K'
  try simp only [Act.put, List.setIfInBounds_toArray, List.set_cons_zero, List.set_cons_succ]
  -- 6: builtin:append -> 10
  refine stepE_only 6 rfl (by kernel_rfl) (by rfl) (fun K' hK => ?_)
  refine wp_appN (.tmp 6) (.tmp 9) 25 rfl M 5 .u8 1 Try.underlying25 info_u8 (by omega) u2 8 (B8 (le8 c)) O3.out u3 (le8 g) (IsNums.ofOwn P3.out) (by rw [le8_len]; omega) (by have := BB3.out.size; omega) (by rfl) (by rfl) (fun v4 w4 hown4 hb4 => ?_)
  have O4 := Lib.hid (show w4.ownsRow M 5 1 v4 16 (B8 (le8 c ++ le8 g)) by rw [B8_append]; exact hown4)
  have BB4 := Lib.hid (BB3.out.trans hb4)
  refine hK _ _ (Keep.ofBelow (by rw [hM]; exact BB4.out)) ?_
  clear hown4 hb4 O3 P3 BB3
  clear hK K'
  try simp only [Act.put, List.setIfInBounds_toArray, List.set_cons_zero, List.set_cons_succ]
  -- 11: call:48 -> 15
  refine stepE_only 11 rfl (by kernel_rfl) (by rfl) (fun K' hK => ?_)
  go_simp
  rw [HW.out]
  refine (eight_any _ A).mono ?_
  rintro e w5 ⟨u5, rfl, ho5, hb5⟩
  have hm4 : M ≤ w4.heap.size := by have := BB4.out.size; omega
  have O5 := Lib.hid (own_keep O4.out (Keep.ofBelow (bad := fun _ => False) hb5) (fun _ _ h => h))
  have P5 := Lib.hid (own_base ho5 hm4)
  have BB5 := Lib.hid (BB4.out.trans (hb5.mono hm4))
  refine hK _ _ (Keep.ofBelow (by rw [hM]; exact BB5.out)) ?_
  clear ho5 hb5 hm4 O4 BB4
  clear hK K'
  try simp only [Act.put, List.setIfInBounds_toArray, List.set_cons_zero, List.set_cons_succ]
  -- 12: builtin:append -> 16
  refine stepE_end 12 rfl (by kernel_rfl) (by rfl) (by rfl) (fun K' hK => ?_)
  refine wp_appN (.tmp 10) (.tmp 15) 25 rfl M 5 .u8 1 Try.underlying25 info_u8 (by omega) v4 16 (B8 (le8 c ++ le8 g)) O5.out u5 (le8 A) (IsNums.ofOwn P5.out) (by rw [le8_len]; omega) (by have := BB5.out.size; omega) (by rfl) (by rfl) (fun v6 w6 hown6 hb6 => ?_)
  have O6 := Lib.hid (show w6.ownsRow M 5 1 v6 24 (B8 (le8 c ++ le8 g ++ le8 A)) by rw [B8_append]; exact hown6)
  have BB6 := Lib.hid (BB5.out.trans hb6)
  refine hK _ _ ?_
  try simp only [List.getElem_toArray, List.getElem_cons_succ, List.getElem_cons_zero]
  clear hown6 hb6 O5 P5 BB5
  clear hK K'
  try simp only [Act.put, List.setIfInBounds_toArray, List.set_cons_zero, List.set_cons_succ]
  refine stepE_any 13 (some 3) (v := ?va13) (fun h => (Bool.false_ne_true (h.symm.trans (by rfl))).elim) rfl (by rfl) (by kernel_rfl) (by kernel_rfl) (by kernel_rfl) (by decide) (fun _ _ _ h => h) (by rfl) ?ya13 ?na13
  case ya13 => intro W; go_simp; try with_reducible rfl
  try simp only [Act.put, List.setIfInBounds_toArray, List.set_cons_zero, List.set_cons_succ]
  refine wpAnyE_done (by kernel_rfl) ?_ _
  clear HX0 HX1 HX2
  obtain ⟨L24, hL24⟩ : ∃ l, le8 c ++ le8 g ++ le8 A = l := ⟨_, rfl⟩
  have HL24 := Lib.hid hL24
  rw [hL24] at O6
  clear hL24
  have hx6 : Blk w6 w.heap.size 31 [.int .u64 c, .int .u64 g, .int .i64 a] := (X1.out.keep (Keep.drew (fun _ => False) _) (fun h => h)).below BB6.out (by have := MZ.out; omega)
  have X6 := Lib.hid hx6
  have B6 := Lib.hid (B1.out.drew.trans (BB6.out.mono (by have := MZ.out; omega)))
  have hM6 : M ≤ w6.heap.size := by have := BB6.out.size; omega
  have M6 := Lib.hid hM6
  clear hx6 hM6 hM BB6 B1 X1 Z1
  obtain ⟨p6, c6, hv6⟩ := ownsRow_shape O6.out
  subst hv6
  clear HW HMX
  go_wp2
  go_loopw [3] (fun s wr => ∃ k : Nat, k ≤ 32 ∧ wr.ownsRow M 5 1 s (24 + k) (B8 (L24 ++ List.replicate k 0)) ∧ Below M w6 wr) (fun s _ => 56 - lenOf s)
  case atStart => exact ⟨0, Nat.zero_le _, by simpa using O6.out, Below.refl _ _⟩
  case round =>
    obtain ⟨k, hk, hown, hbel⟩ := hrel
    obtain ⟨ps, cs, hs⟩ := ownsRow_shape hown
    subst hs
    have HO := Lib.hid hown
    have HB := Lib.hid hbel
    have hsz : M ≤ wr.heap.size := by have := M6.out; have := hbel.size; omega
    clear hown hbel
    by_cases hlt : k < 32
    · have hkI : ((24 + k : Nat) : Int) < 56 := by omega
      go_wp2_with (at_builtin; refine wpList_app1 rfl _ _ 25 rfl M 5 .u8 1 Try.underlying25 info_u8 (by omega) _ _ _ rfl HO.out _ 1 rfl (by omega) hsz ?_; intro v' w' hown' hb'; have HO' := Lib.hid hown'; have HB' := Lib.hid hb'; clear hown' hb')
      go_roundw
      case rel =>
        refine ⟨k + 1, by omega, ?_, HB.out.trans HB'.out⟩
        rw [List.replicate_succ', ← List.append_assoc, B8_append]
        exact HO'.out
      case measure =>
        obtain ⟨pz, cz, hz⟩ := ownsRow_shape HO'.out
        rw [hz]
        simp [lenOf]; omega
    · obtain rfl : k = 32 := by omega
      have hxr : Blk wr w.heap.size 31 [.int .u64 c, .int .u64 g, .int .i64 a] := X6.out.below HB.out (by have := MZ.out; omega)
      have x0 := hxr.cell 0
      have h56 : (24 + 32 : Nat) = 56 := rfl
      rw [h56] at HO ⊢
      have BR := Lib.hid (B6.out.trans (HB.out.mono (by have := MZ.out; omega)))
      clear hxr h56
      rw [show ((56 : Nat)) = 56 from rfl]
      go_wp2_with fail
      refine (eight_any wr c).mono ?_
      rintro e w7 ⟨u7, rfl, ho7, hb7⟩
      have O7 := Lib.hid (own_keep HO.out (Keep.ofBelow (bad := fun _ => False) hb7) (fun _ _ h => h))
      have P7 : Hid (IsNums .u8 w7 u7 (le8 c)) := Lib.hid (IsNums.ofOwn ho7)
      have M7 : Hid (M ≤ w7.heap.size) := Lib.hid (by have := hb7.size; omega)
      have B7 := Lib.hid (BR.out.trans (hb7.mono BR.out.size))
      obtain ⟨p7, c7, hu7⟩ := ownsRow_shape ho7
      subst hu7
      clear ho7 hb7
      go_wp2_with (at_builtin; (refine wpList_appN rfl (.tmp 23) (.tmp 26) 25 rfl M 5 .u8 1 Try.underlying25 info_u8 (by omega) _ 56 _ rfl O7.out _ (le8 c) rfl P7.out (by rw [le8_len]; omega) M7.out ?_); intro v8 w8 hown8 hb8; have O8 := Lib.hid hown8; have B8' := Lib.hid hb8; clear hown8 hb8)
      go_ret
      refine ⟨_, rfl, ?_, B7.out.trans (B8'.out.mono (by have := MZ.out; omega))⟩
      have h9 := own_base O8.out (show w.heap.size ≤ M by have := MZ.out; omega)
      have e9 : slotB c g A = L24 ++ List.replicate 32 0 ++ le8 c := by rw [← HL24.out]; rfl
      rw [e9, B8_append]
      exact h9
end Go.Proofs.Ythecjhjomkpgkaa.K
