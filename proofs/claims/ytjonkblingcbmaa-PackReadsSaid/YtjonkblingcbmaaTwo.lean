/- Two slices of the call's own, appended to in turn: where an append's block lies; lemmas for any program. -/
import Derived.Test.YtjonkblingcbmaaBytes
namespace Go.Proofs.Ytjonkblingcbmaa.K
open Go.ChangeShapes Go.WideShapes Go.ChangeAt Go.RowKit

/-- An append to a row of one's own stays in its block, or goes to a new one. -/
theorem append_block {P : Program} {w : World} {base : Nat} {t ty e : TypeId} {i : TypeInfo} {z : Value} {bytes : Nat} (ht : P.underlying t = some (.slice e)) (hi : P.info? e = some i) (hz : i.zero = some z) (hsize : i.size = 1) (hby : i.bytes = bytes)
    {v : Value} {n : Nat} {xs : List Value} (hown : w.ownsRow base e 1 v n xs) {a : Addr} {m c : Nat} {news : List Value} (hl : news.length = m) (hnews : ∀ j u, news[j]? = some u → w.cell? (a.add j) = some u) (h1 : ∀ u ∈ news, u.oneCell' = true)
    (h63 : n + m ≤ 1000000000) (hbytes : bytes ≤ 24) {v' : Value} {w' : World} (hr : (Builtin.append_ #[t, t] ty #[v, .slice (some a) m c]).run P w = .ok v' w') :
    v'.ownBlock = v.ownBlock ∨ v'.ownBlock = some w.heap.size := by
  subst hby
  have hb2 : (n + m) * i.bytes ≤ 140737488355328 := by
    have : (n + m) * i.bytes ≤ 1000000000 * 24 := Nat.mul_le_mul h63 hbytes
    omega
  rcases hown.2 with ⟨rfl, rfl⟩ | ⟨g, cap, cur, rfl, hbg, hg, hnc, hcm, hcs, htake⟩
  · by_cases hm : m = 0
    · subst hm
      have hn : news = [] := List.eq_nil_of_length_eq_zero hl
      subst hn
      have h2 : (Builtin.append_ #[t, t] ty #[.slice none 0 0, .slice (some a) 0 c]).run P w = .ok (.slice none 0 0) w := by
        simp [Builtin.append_, run_underlying ht, sizeOf, typeInfo, hi, Builtin.lenOf, Builtin.firstCells, loadCells, loadCellsFrom]
      rw [h2] at hr
      injection hr with e1 e2
      subst e1
      exact .inl rfl
    · have h2 := run_append_nil (P := P) w t ty e i z ht hi hz a m c news (by rw [hsize]; omega) hnews (by omega) (by omega) (by simp only [Nat.zero_add] at hb2; omega)
      rw [h2] at hr
      injection hr with e1 e2
      subst e1
      exact .inr rfl
  · by_cases hroom : n + m ≤ cap
    · have h2 := run_append_room (P := P) w t ty e i ht hi g n cap cur hg a m c news (by rw [hsize]; omega) hnews h1 hroom (by rw [hsize]; omega)
      rw [h2] at hr
      injection hr with e1 e2
      subst e1
      exact .inl rfl
    · have holds : ∀ j u, xs[j]? = some u → w.cell? ((⟨g, 0, none⟩ : Addr).add j) = some u := hown.cells (g := g) rfl
      have h2 := run_append_grow (P := P) w t ty e i z ht hi hz ⟨g, 0, none⟩ n cap xs (by rw [hown.1, hsize]) holds a m c news (by rw [hsize]; omega) hnews (by omega) (by omega) (growslice_fits (by omega) hb2)
      rw [h2] at hr
      injection hr with e1 e2
      subst e1
      exact .inr rfl

/-- Rows of one's own that lie apart. -/
def Apart (v u : Value) : Prop := ∀ g, v.ownBlock = some g → u.ownBlock ≠ some g
theorem Apart.symm {v u : Value} (h : Apart v u) : Apart u v := fun g h1 h2 => h g h2 h1

/-- 'append(v, x...)' with v of the call's own, x any slice that reads as numbers; another row of one's own, u, stays as it is. -/
theorem wp_appN2 {P : Program} {o : Oper} {a : Act} {w : World} {K : Act → World → Prop} {Q : Exit → Act → World → Prop} (s x : Operand) (t : TypeId)
    (ho : o.op = .call { callee := .builtin .append, args := #[s, x], argTypes := #[t, t] })
    (base : Nat) (e : TypeId) (k : IntKind) (bytes : Nat) (ht : P.underlying t = some (.slice e)) (hi : (P.info? e).map (fun i => (i.zero, i.size, i.bytes)) = some (some (.int k 0), 1, bytes)) (hb8 : bytes ≤ 8)
    (v : Value) (n : Nat) (xs : List Value) (hs : a.eval s = v) (hown : w.ownsRow base e 1 v n xs)
    (u : Value) (zs : List Int) (hx : a.eval x = u) (hu : IsNums k w u zs) (hn : n + zs.length ≤ 1000000000) (hbase : base ≤ w.heap.size)
    (y : Value) (ny : Nat) (ys : List Value) (ey : TypeId) (hy : w.ownsRow base ey 1 y ny ys) (hap : Apart v y)
    (h : ∀ v' w', w'.ownsRow base e 1 v' (n + zs.length) (xs ++ zs.map (Value.int k)) → w'.ownsRow base ey 1 y ny ys → Apart v' y → Below base w w' → K (a.put o.dst v') w') : o.wp P a w K Q := by
  obtain ⟨i0, hi, hz0, hz1, hz2⟩ := info_parts hi
  obtain ⟨p, c, rfl, hp⟩ := hu
  have hne : y.ownBlock = none ∨ y.ownBlock ≠ v.ownBlock := by
    cases hyb : y.ownBlock with
    | none => exact .inl rfl
    | some g =>
      right
      intro e
      exact hap g e.symm hyb
  have main : ∀ ad : Addr, p = some ad → (∀ j v, (zs.map (Value.int k))[j]? = some v → w.cell? (ad.add j) = some v) → o.wp P a w K Q := by
    intro ad hpa hcells
    subst hpa
    have hone : ∀ u ∈ zs.map (Value.int k), u.oneCell' = true := by
      intro u hu
      obtain ⟨y, _, rfl⟩ := List.mem_map.1 hu
      rfl
    have hbn : (n + zs.length) * bytes ≤ 140737488355328 := Nat.le_trans (Nat.mul_le_mul_left _ hb8) (by omega)
    obtain ⟨v', w', hr, h2, h3, h4⟩ := run_append_own (P := P) w base t o.type e i0 (.int k 0) 1 bytes ht hi hz0 hz1 hz2 rfl (by decide) v n xs hown ad zs.length c (zs.map (Value.int k)) (by simp) hcells hone (by unfold maxLen; omega) hbn hbase
    have hblk := append_block ht hi hz0 hz1 hz2 hown (by simp) hcells hone (by omega) (by omega) hr
    refine Lib.wp_append_run w s x t t ho v _ hs hx v' w' hr (h v' w' h2 (hy.kept h3 hne) ?_ ((Below.refl _ w).grown h3 hbase (fun j hj => (hown.lt j hj).1)))
    intro g hg
    rcases hblk with hb | hb
    · exact hap g (hb ▸ hg)
    · intro hyg
      have := (hy.lt g hyg).2
      rw [hb] at hg
      injection hg with hg
      omega
  by_cases h0 : zs.length = 0
  · obtain rfl := List.length_eq_zero_iff.1 h0
    cases p with
    | none => exact Lib.wp_append_run w s x t t ho v _ hs hx v w (run_app_none ht hi hown c) (h v w (by simpa using hown) hy hap (Below.refl _ _))
    | some ad => exact main ad rfl (by simp)
  · rcases hp with hp | ⟨b, off, rfl, hblk, hc⟩
    · exact absurd hp h0
    · refine main _ rfl ?_
      intro j u hj
      have hjn : j < zs.length := by
        have := (List.getElem?_eq_some_iff.1 hj).1
        simpa using this
      rw [Addr.add_lit, hc j hjn]
      simp [hjn] at hj
      subst hj
      simp [List.getD, hjn]
end Go.Proofs.Ytjonkblingcbmaa.K
