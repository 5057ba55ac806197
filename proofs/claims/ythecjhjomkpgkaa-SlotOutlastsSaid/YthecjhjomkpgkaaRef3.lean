/- mementoref3's disk: Write. -/
import Derived.Test.YthecjhjomkpgkaaRef2
namespace Go.Proofs.Ythecjhjomkpgkaa.K
open Go.ChangeShapes Go.WideShapes Go.ChangeAt Go.RowKit
set_option linter.unusedVariables false

theorem NumsOff.ofOwn {bad : Nat → Prop} {w : World} {base : Nat} {e : TypeId} {v : Value} {n : Nat} {zs : List Int} (h : w.ownsRow base e 1 v n (zs.map (Value.int .u8))) (hb : ∀ k, base ≤ k → k < w.heap.size → ¬ bad k) : NumsOff bad w v zs := by
  have hn : n = zs.length := by have := h.1; simpa using this.symm
  subst hn
  rcases h.2 with ⟨rfl, h0⟩ | ⟨g, cap, cur, rfl, hg, hbk, h1, h2, h3, h4⟩
  · obtain rfl := List.length_eq_zero_iff.1 h0; exact NumsOff.nil _ _ none 0
  · have hlt := (Array.getElem?_eq_some_iff.1 hbk).1
    refine ⟨_, cap, rfl, .inr ⟨g, 0, rfl, hlt, hb g hg hlt, fun j hj => ?_⟩⟩
    have := h.cellAt j (by omega)
    rw [Nat.zero_add, this]
    simp [hj, List.getD]
theorem NumsC.ofOwn {bad : Nat → Prop} {w : World} {base : Nat} {e : TypeId} {v : Value} {n : Nat} {zs : List Int} (h : w.ownsRow base e 1 v n (zs.map (Value.int .u8))) (hb : ∀ k, base ≤ k → k < w.heap.size → ¬ bad k) : NumsC bad w v zs := by
  have hn : n = zs.length := by have := h.1; simpa using this.symm
  have ho := NumsOff.ofOwn h hb
  rcases h.2 with ⟨rfl, h0⟩ | ⟨g, cap, cur, rfl, hg, hbk, h1, h2, h3, h4⟩
  · exact ⟨none, 0, by rw [← hn, h0], by rw [← hn, h0]; exact Nat.le_refl _, ho⟩
  · exact ⟨_, cap, by rw [hn], by rw [← hn]; exact h1, ho⟩
theorem infoWw : (Try.prog.info? 106).map (fun i => (i.zero, i.size, i.bytes)) = some (some (.agg #[.int .i64 0, .slice none 0 0]), 2, 32) := by kernel_rfl
theorem WR.len (r : WR) : r.cells.length = 2 := rfl
theorem WR.ones {bad : Nat → Prop} {w : World} {rs : List WR} (h : ∀ r ∈ rs, NumsC bad w r.val r.data) : ∀ u ∈ rs.flatMap WR.cells, u.oneCell' = true := by
  intro u hu
  obtain ⟨r, hr, hm⟩ := List.mem_flatMap.1 hu
  obtain ⟨a, c, hv, -⟩ := h r hr
  simp only [WR.cells, List.mem_cons, List.not_mem_nil, or_false] at hm
  rcases hm with rfl | rfl
  · rfl
  · rw [hv]; rfl
theorem WR.flat (w : World) (b off : Nat) (rs : List WR) (hr : ∀ k, k < rs.length → w.rangeAt b (off + k * 2) (WR.cells (rs.getD k WR.zero))) (j : Nat) (u : Value) (hj : (rs.flatMap WR.cells)[j]? = some u) : w.cell? ((⟨b, off, none⟩ : Addr).add j) = some u := by
  have hlen : (rs.flatMap WR.cells).length = rs.length * 2 := parts_len WR.cells 2 rs (fun s _ => rfl)
  have hjl : j < rs.length * 2 := by rw [← hlen]; exact (List.getElem?_eq_some_iff.1 hj).1
  have h2 : j % 2 < 2 := Nat.mod_lt _ (by decide)
  have hk : j / 2 < rs.length := by omega
  have he : j = j / 2 * 2 + j % 2 := by omega
  rw [he, parts_at WR.cells 2 rs (j / 2) (j % 2) WR.zero (fun s _ => rfl) hk h2] at hj
  have := hr (j / 2) hk (j % 2) u hj
  rw [Addr.add_lit]
  rw [show off + j = off + j / 2 * 2 + j % 2 by omega]
  exact this
theorem WR.ofOwn {w : World} {base : Nat} {v : Value} {rs : List WR} {bad : Nat → Prop} (h1 : w.ownsRow base 106 2 v rs.length (rs.flatMap WR.cells)) (hb : ∀ k, bad k → k < base) : ∃ a c, v = .slice a rs.length c ∧ rs.length ≤ c ∧ ((rs.length = 0 ∧ (a = none → c = 0)) ∨ ∃ b off, a = some ⟨b, off, none⟩ ∧ b < w.heap.size ∧ ¬ bad b ∧ ∀ k, k < rs.length → w.rangeAt b (off + k * 2) (WR.cells (rs.getD k WR.zero))) := by
  rcases h1.2 with ⟨rfl, h0⟩ | ⟨g, cap, cur, rfl, hbg, hgg, hle, hcm, hsz, htk⟩
  · exact ⟨none, 0, by rw [h0], by omega, .inl ⟨h0, fun _ => rfl⟩⟩
  · refine ⟨_, cap, rfl, hle, .inr ⟨g, 0, rfl, (Array.getElem?_eq_some_iff.1 hgg).1, fun h => by have := hb g h; omega, fun k hk j u hj => ?_⟩⟩
    have hj2 : j < 2 := (List.getElem?_eq_some_iff.1 hj).1
    have := h1.cells (g := g) rfl (k * 2 + j) u (by rw [parts_at WR.cells 2 rs k j WR.zero (fun s _ => rfl) hk hj2]; exact hj)
    rw [Addr.add_lit, Nat.zero_add] at this
    rw [Nat.zero_add]; exact this

theorem wpList_appR {ops : Array Oper} {rest : List Oper} {d : Option Tmp} {tt : TypeId} {pos : String} {af : Array Edge} {a : Act} {Q : Exit → Act → World → Prop} {w : World} (s x : Operand) (base : Nat) (v : Value) (n : Nat) (xs : List Value) (hown : w.ownsRow base 106 2 v n xs) (u : Value) (rs : List WR) (bad : Nat → Prop)
    (hu : ∃ a c, u = .slice a rs.length c ∧ rs.length ≤ c ∧ ((rs.length = 0 ∧ (a = none → c = 0)) ∨ ∃ b off, a = some ⟨b, off, none⟩ ∧ b < w.heap.size ∧ ¬ bad b ∧ ∀ k, k < rs.length → w.rangeAt b (off + k * 2) (WR.cells (rs.getD k WR.zero)))) (hone : ∀ c ∈ rs.flatMap WR.cells, c.oneCell' = true) (hn : n + rs.length ≤ 1000000000) (hbase : base ≤ w.heap.size) (hs : a.eval s = v) (hx : a.eval x = u)
    (h : ∀ v' w', w'.ownsRow base 106 2 v' (n + rs.length) (xs ++ rs.flatMap WR.cells) → w.grownBy w' v.ownBlock → (v'.ownBlock = v.ownBlock ∨ v'.ownBlock = some w.heap.size) → wpList Try.prog ops Q rest (a.put d v') w') :
    wpList Try.prog ops Q (⟨d, .call { callee := .builtin .append, args := #[s, x], argTypes := #[93, 93] }, tt, pos, af, none⟩ :: rest) a w := by
  obtain ⟨p, c, rfl, hc, hp⟩ := hu
  have hlen : (rs.flatMap WR.cells).length = rs.length * 2 := parts_len WR.cells 2 rs (fun s _ => rfl)
  have main : ∀ ad : Addr, p = some ad → (∀ j u, (rs.flatMap WR.cells)[j]? = some u → w.cell? (ad.add j) = some u) → wpList Try.prog ops Q (⟨d, .call { callee := .builtin .append, args := #[s, x], argTypes := #[93, 93] }, tt, pos, af, none⟩ :: rest) a w := fun ad hpa hnews =>
    wpList_appW s x 93 base 106 _ 2 32 Try.underlying93 infoWw rfl (by omega) v n xs hown ad rs.length c (rs.flatMap WR.cells) hlen hnews hone (by unfold maxLen; omega) (by omega) hbase hs (by rw [hx, hpa]) h
  rcases hp with ⟨h0, hnone⟩ | ⟨b, off, rfl, hb, -, hrow⟩
  · obtain rfl := List.length_eq_zero_iff.1 h0
    cases p with
    | none =>
      obtain rfl := hnone rfl
      obtain ⟨i0, hi, -, -, -⟩ := info_parts infoWw
      refine wpList_plain rfl fun _ hK => ?_
      unfold Oper.wp execOp
      simp only [resolve, invoke, builtin, Sem.run_bind, Sem.run_pure, Result.andThen_ok, List.map_toArray, List.map_cons, List.map_nil, hs, hx]
      simp only [List.length_nil, run_app_none Try.underlying93 hi hown 0, Result.andThen_ok]
      exact hK _ _ (h v w (by simpa using hown) ⟨rfl, rfl, rfl, Nat.le_refl _, fun _ _ _ => rfl⟩ (.inl rfl))
    | some ad => exact main ad rfl (by simp)
  · exact main _ rfl (WR.flat w b off rs hrow)
theorem wrCells (w5 : World) (sq : Int) (x : Value) : ∀ j u, ([.int .i64 sq, x] : List Value)[j]? = some u → (w5.alloc (.cells #[.int .i64 sq, x] 106)).cell? ((⟨w5.heap.size, 0, none⟩ : Addr).add j) = some u := fun j u hj => by
  rw [Addr.add_lit, Nat.zero_add, (Blk.alloc w5 106 #[.int .i64 sq, x]).cell]
  simpa using hj
end Go.Proofs.Ythecjhjomkpgkaa.K
