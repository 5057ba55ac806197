/- Slices of structs of a number and bytes (api.Version). -/
import Derived.Test.YtnjmlkohgbbafaaApp
namespace Go.Proofs.Ytnjmlkohgbbafaa.K
open Go.ChangeShapes Go.WideShapes Go.ChangeAt Go.RowKit
set_option linter.unusedVariables false

/-- A version as it lies in memory. -/
structure VR where
  seq : Int
  data : List Int
  val : Value
def VR.key (r : VR) : Int × List Int := (r.seq, r.data)
def VR.cells (r : VR) : List Value := [.int .i64 r.seq, r.val]
/-- Its number, its bytes are such. -/
def KeyOk (k : Int × List Int) : Prop := -9223372036854775808 ≤ k.1 ∧ k.1 ≤ 9223372036854775807 ∧ k.2.length ≤ 1000000 ∧ ∀ x ∈ k.2, 0 ≤ x ∧ x ≤ 255
/-- The cells of so many versions lie there. -/
def RowsAt (w : World) (v : Value) (rs : List VR) : Prop :=
  ∃ a c, v = .slice a rs.length c ∧ rs.length ≤ c ∧ ((rs.length = 0 ∧ (a = none → c = 0)) ∨ ∃ b off, a = some ⟨b, off, none⟩ ∧ b < w.heap.size ∧ ∀ k, k < rs.length → w.rangeAt b (off + k * 2) (VR.cells (rs.getD k ⟨0, [], .slice none 0 0⟩)))
/-- A slice that reads as these versions. -/
def Vers (w : World) (v : Value) (ks : List (Int × List Int)) : Prop :=
  ∃ rs : List VR, rs.map VR.key = ks ∧ RowsAt w v rs ∧ ∀ r ∈ rs, IsNums .u8 w r.val r.data
/-- A row of versions of one's own, whose bytes lie elsewhere. -/
def OwnVers (w : World) (base : Nat) (v : Value) (ks : List (Int × List Int)) : Prop :=
  ∃ rs : List VR, rs.map VR.key = ks ∧ w.ownsRow base 54 2 v rs.length (rs.flatMap VR.cells) ∧ ∀ r ∈ rs, NumsOff (fun k => v.ownBlock = some k) w r.val r.data
theorem VR.len (r : VR) : r.cells.length = 2 := rfl
theorem VR.one {w : World} {r : VR} (h : IsNums .u8 w r.val r.data) : ∀ v ∈ r.cells, v.oneCell' = true := by
  obtain ⟨a, c, hv, _⟩ := h
  intro v hm
  simp only [VR.cells, List.mem_cons, List.not_mem_nil, or_false] at hm
  rcases hm with rfl | rfl
  · rfl
  · rw [hv]; rfl
theorem RowsAt.below {w w' : World} {v : Value} {rs : List VR} (h : RowsAt w v rs) (hb : Below w.heap.size w w') : RowsAt w' v rs := by
  obtain ⟨a, c, rfl, hc, h | ⟨b, off, rfl, h1, h2⟩⟩ := h
  · exact ⟨a, c, rfl, hc, .inl h⟩
  · refine ⟨_, c, rfl, hc, .inr ⟨b, off, rfl, Nat.lt_of_lt_of_le h1 hb.size, fun k hk j u hj => ?_⟩⟩
    rw [hb.cell h1]; exact h2 k hk j u hj
theorem Vers.below {w w' : World} {v : Value} {ks : List (Int × List Int)} (h : Vers w v ks) (hb : Below w.heap.size w w') : Vers w' v ks := by
  obtain ⟨rs, e, h1, h2⟩ := h
  exact ⟨rs, e, h1.below hb, fun r hr => (h2 r hr).below hb (Nat.le_refl _)⟩
theorem Vers.len {w : World} {v : Value} {ks : List (Int × List Int)} (h : Vers w v ks) : ∃ a c, v = .slice a ks.length c ∧ ks.length ≤ c := by
  obtain ⟨rs, rfl, ⟨a, c, rfl, hc, _⟩, _⟩ := h
  exact ⟨a, c, by rw [List.length_map], by rw [List.length_map]; exact hc⟩
theorem Vers.nil (w : World) : Vers w (.slice none 0 0) [] := ⟨[], rfl, ⟨none, 0, rfl, Nat.le_refl _, .inl ⟨rfl, fun _ => rfl⟩⟩, by simp⟩
theorem OwnVers.nil (w : World) (base : Nat) : OwnVers w base (.slice none 0 0) [] := ⟨[], rfl, World.ownsRow_nil _ _ _ _, by simp⟩
theorem OwnVers.vers {w : World} {base : Nat} {v : Value} {ks : List (Int × List Int)} (h : OwnVers w base v ks) : Vers w v ks := by
  obtain ⟨rs, e, h1, h2⟩ := h
  refine ⟨rs, e, ?_, fun r hr => (h2 r hr).nums⟩
  rcases h1.2 with ⟨rfl, h0⟩ | ⟨g, cap, cur, rfl, hbg, hgg, hle, hcm, hsz, htk⟩
  · exact ⟨none, 0, by rw [h0], by omega, .inl ⟨h0, fun _ => rfl⟩⟩
  · refine ⟨_, cap, rfl, hle, .inr ⟨g, 0, rfl, (Array.getElem?_eq_some_iff.1 hgg).1, fun k hk j u hj => ?_⟩⟩
    have hj2 : j < 2 := (List.getElem?_eq_some_iff.1 hj).1
    have := h1.cells (g := g) rfl (k * 2 + j) u (by rw [parts_at VR.cells 2 rs k j ⟨0, [], .slice none 0 0⟩ (fun s _ => rfl) hk hj2]; exact hj)
    rw [Addr.add_lit, Nat.zero_add] at this
    rw [Nat.zero_add]; exact this
theorem OwnVers.below {w w' : World} {base : Nat} {v : Value} {ks : List (Int × List Int)} (h : OwnVers w base v ks) (hb : Below w.heap.size w w') : OwnVers w' base v ks := by
  obtain ⟨rs, e, h1, h2⟩ := h
  refine ⟨rs, e, ?_, fun r hr => (h2 r hr).keep (bad' := fun _ => False) (Keep.ofBelow hb) (fun _ h => h.elim)⟩
  refine ⟨h1.1, ?_⟩
  rcases h1.2 with hn | ⟨g, cap, cur, e1, hbg, hgg, rest⟩
  · exact .inl hn
  · exact .inr ⟨g, cap, cur, e1, hbg, by rw [hb.block g (Array.getElem?_eq_some_iff.1 hgg).1]; exact hgg, rest⟩

theorem OwnVers.base {w : World} {B B' : Nat} {v : Value} {ks : List (Int × List Int)} (h : OwnVers w B v ks) (hb : B' ≤ B) : OwnVers w B' v ks := by
  obtain ⟨rs, e, h1, h2⟩ := h
  refine ⟨rs, e, ⟨h1.1, ?_⟩, h2⟩
  rcases h1.2 with hn | ⟨g, cap, cur, e1, hbg, rest⟩
  · exact .inl hn
  · exact .inr ⟨g, cap, cur, e1, Nat.le_trans hb hbg, rest⟩
theorem own_keep {bad : Nat → Prop} {w W : World} {base : Nat} {e : TypeId} {size : Nat} {v : Value} {n : Nat} {xs : List Value} (h : w.ownsRow base e size v n xs) (hk : Keep bad w W) (hb : ∀ k, v.ownBlock = some k → ¬ bad k) : W.ownsRow base e size v n xs := by
  refine ⟨h.1, ?_⟩
  rcases h.2 with hn | ⟨g, cap, cur, rfl, hbg, hgg, rest⟩
  · exact .inl hn
  · refine .inr ⟨g, cap, cur, rfl, hbg, ?_, rest⟩
    rw [hk.2.2.2.2 g (Array.getElem?_eq_some_iff.1 hgg).1 (hb g rfl)]
    exact hgg
theorem zeroVer : (Try.prog.info? 54).bind (·.zero) = some (.agg #[.int .i64 0, .slice none 0 0]) := by kernel_rfl
theorem infoVer : (Try.prog.info? 54).map (fun i => (i.zero, i.size, i.bytes)) = some (some (.agg #[.int .i64 0, .slice none 0 0]), 2, 32) := by kernel_rfl
theorem infoVr : (Try.prog.info? 54).map (·.size) = some 2 := by kernel_rfl

/-- 'append(v, x...)' of bytes. -/
theorem run_appN {P : Program} (w : World) (base : Nat) (t ty e : TypeId) (k : IntKind) (bytes : Nat) (ht : P.underlying t = some (.slice e)) (hinf : (P.info? e).map (fun i => (i.zero, i.size, i.bytes)) = some (some (.int k 0), 1, bytes)) (hb8 : bytes ≤ 8)
    (v : Value) (n : Nat) (xs : List Value) (hown : w.ownsRow base e 1 v n xs) (u : Value) (zs : List Int) (hu : IsNums k w u zs) (hn : n + zs.length ≤ 1000000000) (hbase : base ≤ w.heap.size) :
    ∃ v' w', (Builtin.append_ #[t, t] ty #[v, u]).run P w = .ok v' w' ∧ w'.ownsRow base e 1 v' (n + zs.length) (xs ++ zs.map (Value.int k)) ∧ Below base w w' := by
  obtain ⟨i0, hi, hz0, hz1, hz2⟩ := info_parts hinf
  have hbn : (n + zs.length) * bytes ≤ 140737488355328 := Nat.le_trans (Nat.mul_le_mul_left _ hb8) (by omega)
  obtain ⟨p, c, rfl, hp⟩ := hu
  have main : ∀ ad : Addr, p = some ad → (∀ j v, (zs.map (Value.int k))[j]? = some v → w.cell? (ad.add j) = some v) → ∃ v' w', (Builtin.append_ #[t, t] ty #[v, .slice p zs.length c]).run P w = .ok v' w' ∧ w'.ownsRow base e 1 v' (n + zs.length) (xs ++ zs.map (Value.int k)) ∧ Below base w w' := by
    intro ad hpa hcells
    obtain ⟨v', w', hr, h2, h3, _⟩ := run_append_own (P := P) w base t ty e i0 (.int k 0) 1 bytes ht hi hz0 hz1 hz2 rfl (by decide) v n xs hown ad zs.length c (zs.map (Value.int k)) (by simp) hcells (by intro u hu; obtain ⟨y, _, rfl⟩ := List.mem_map.1 hu; rfl) (by unfold maxLen; omega) hbn hbase
    rw [hpa]
    exact ⟨v', w', hr, h2, (Below.refl _ w).grown h3 hbase (fun j hj => (hown.lt j hj).1)⟩
  by_cases h0 : zs.length = 0
  · obtain rfl := List.length_eq_zero_iff.1 h0
    cases p with
    | none => exact ⟨v, w, run_app_none ht hi hown c, by simpa using hown, Below.refl _ _⟩
    | some ad => exact main ad rfl (by simp)
  · rcases hp with hp | ⟨b, off, rfl, hblk, hc⟩
    · exact absurd hp h0
    · refine main _ rfl ?_
      intro j u hj
      have hjn : j < zs.length := by
        have := (List.getElem?_eq_some_iff.1 hj).1
        simpa using this
      rw [Addr.add_lit, hc j hjn]
      simp [hjn] at hj
      subst hj
      simp [List.getD, hjn]
section
variable {P : Program} {a : Act} {w : World} {K : Act → World → Prop} {Q : Exit → Act → World → Prop}
theorem wp_appN {o : Oper} (s x : Operand) (t : TypeId) (ho : o.op = .call { callee := .builtin .append, args := #[s, x], argTypes := #[t, t] })
    (base : Nat) (e : TypeId) (k : IntKind) (bytes : Nat) (ht : P.underlying t = some (.slice e)) (hinf : (P.info? e).map (fun i => (i.zero, i.size, i.bytes)) = some (some (.int k 0), 1, bytes)) (hb8 : bytes ≤ 8)
    (v : Value) (n : Nat) (xs : List Value) (hown : w.ownsRow base e 1 v n xs) (u : Value) (zs : List Int) (hu : IsNums k w u zs) (hn : n + zs.length ≤ 1000000000) (hbase : base ≤ w.heap.size) (hs : a.eval s = v) (hx : a.eval x = u)
    (h : ∀ v' w', w'.ownsRow base e 1 v' (n + zs.length) (xs ++ zs.map (Value.int k)) → Below base w w' → K (a.put o.dst v') w') : o.wp P a w K Q := by
  obtain ⟨v', w', hr, h2, h3⟩ := run_appN (P := P) w base t o.type e k bytes ht hinf hb8 v n xs hown u zs hu hn hbase
  unfold Oper.wp execOp
  simp only [ho, resolve, invoke, builtin, Sem.run_bind, Sem.run_pure, Result.andThen_ok, List.map_toArray, List.map_cons, List.map_nil, hs, hx, hr]
  exact h v' w' h2 h3
end
theorem NumsOff.ofOwn {bad : Nat → Prop} {w : World} {base : Nat} {e : TypeId} {v : Value} {n : Nat} {zs : List Int} (h : w.ownsRow base e 1 v n (zs.map (Value.int .u8))) (hb : ∀ k, base ≤ k → k < w.heap.size → ¬ bad k) : NumsOff bad w v zs := by
  have hn : n = zs.length := by have := h.1; simpa using this.symm
  subst hn
  rcases h.2 with ⟨rfl, h0⟩ | ⟨g, cap, cur, rfl, hg, hbk, h1, h2, h3, h4⟩
  · obtain rfl := List.length_eq_zero_iff.1 h0; exact NumsOff.nil _ _ none 0
  · have hlt := (Array.getElem?_eq_some_iff.1 hbk).1
    refine ⟨_, cap, rfl, .inr ⟨g, 0, rfl, hlt, hb g hg hlt, fun j hj => ?_⟩⟩
    have := h.cellAt j (by omega)
    rw [Nat.zero_add, this]
    simp [hj, List.getD]
end Go.Proofs.Ytnjmlkohgbbafaa.K
