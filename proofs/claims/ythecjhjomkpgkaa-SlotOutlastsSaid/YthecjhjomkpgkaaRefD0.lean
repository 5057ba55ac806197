/- mementoref3.Crash. -/
import Derived.Test.YthecjhjomkpgkaaRefC
import Derived.Deep.QuietTactic
namespace Go.Proofs.Ythecjhjomkpgkaa.K
open Go.ChangeShapes Go.WideShapes Go.ChangeAt Go.RowKit
set_option linter.unusedVariables false

def keptR (rs : List WR) (mask : Int) : Nat → List WR
  | 0 => []
  | k + 1 => keptR rs mask k ++ if bit mask k then [rs.getD k WR.zero] else []
def keptW (wl : List (Int × List Int)) (mask : Int) : Nat → List (Int × List Int)
  | 0 => []
  | k + 1 => keptW wl mask k ++ if bit mask k then [wl.getD k (0, [])] else []
theorem keptR_len (rs : List WR) (mask : Int) : ∀ k, (keptR rs mask k).length ≤ k
  | 0 => Nat.le_refl _
  | k + 1 => by
    have := keptR_len rs mask k
    rw [keptR, List.length_append]
    split
    · simp; omega
    · simp; omega
theorem keptR_mem {rs : List WR} {mask : Int} : ∀ k, k ≤ rs.length → ∀ r ∈ keptR rs mask k, r ∈ rs
  | 0, _, r, hr => by simp [keptR] at hr
  | k + 1, hk, r, hr => by
    rw [keptR] at hr
    rcases List.mem_append.1 hr with hr | hr
    · exact keptR_mem k (by omega) r hr
    · split at hr
      · obtain rfl : r = rs.getD k WR.zero := by simpa using hr
        rw [List.getD_eq_getElem?_getD, List.getElem?_eq_getElem (show k < rs.length by omega)]
        exact List.getElem_mem _
      · simp at hr
theorem keptR_key {rs : List WR} {mask : Int} : ∀ k, k ≤ rs.length → (keptR rs mask k).map WR.key = keptW (rs.map WR.key) mask k
  | 0, _ => rfl
  | k + 1, hk => by
    rw [keptR, keptW, List.map_append, keptR_key k (by omega)]
    congr 1
    split
    · simp [List.getD, show k < rs.length by omega]
    · rfl
/-- What a crash makes of the writes that it keeps. -/
def tornW (secs : List (List Int)) (kw : List (Int × List Int)) (torn : Int) : List (Int × List Int) :=
  if 0 < kw.length ∧ 0 ≤ torn ∧ torn < 64 then kw.set (kw.length - 1) ((kw.getD (kw.length - 1) (0, [])).1, (kw.getD (kw.length - 1) (0, [])).2.take torn.toNat ++ (curOf kw (kw.getD (kw.length - 1) (0, [])).1 (secs.getD (kw.getD (kw.length - 1) (0, [])).1.toNat []) (kw.length - 1)).drop torn.toNat) else kw
def rcrashed (secs : List (List Int)) (wl : List (Int × List Int)) (mask torn : Int) : List (List Int) :=
  settleN secs (tornW secs (keptW wl mask (min wl.length 64)) torn) (tornW secs (keptW wl mask (min wl.length 64)) torn).length
theorem infoWz : (Try.prog.info? 106).map (·.size) = some 2 := by kernel_rfl
theorem WR.cell0 {w : World} {base : Nat} {g n c : Nat} {R : List WR} (h : w.ownsRow base 106 2 (.slice (some ⟨g, 0, none⟩) n c) n (R.flatMap WR.cells)) (j : Nat) (hj : j < R.length) : w.cell? ⟨g, j * 2, none⟩ = some (.int .i64 (R.getD j WR.zero).pos) ∧ w.cell? ⟨g, j * 2 + 1, none⟩ = some (R.getD j WR.zero).val := by
  constructor
  · have := h.cells (g := g) rfl (j * 2 + 0) (.int .i64 (R.getD j WR.zero).pos) (by rw [parts_at WR.cells 2 R j 0 WR.zero (fun s _ => rfl) hj (by omega)]; rfl)
    rw [Addr.add_lit, Nat.zero_add] at this
    exact this
  · have := h.cells (g := g) rfl (j * 2 + 1) (R.getD j WR.zero).val (by rw [parts_at WR.cells 2 R j 1 WR.zero (fun s _ => rfl) hj (by omega)]; rfl)
    rw [Addr.add_lit, Nat.zero_add] at this
    exact this

theorem cur_ok {kw : List (Int × List Int)} {i : Int} {s0 : List Int} (hs : Sec s0) (hw : ∀ q ∈ kw, Sec q.2) : ∀ k, k ≤ kw.length → Sec (curOf kw i s0 k)
  | 0, _ => hs
  | k + 1, hk => by
    unfold curOf
    split
    · exact hw _ (by rw [List.getD_eq_getElem?_getD, List.getElem?_eq_getElem (show k < kw.length by omega)]; exact List.getElem_mem _)
    · exact cur_ok hs hw k (by omega)
theorem seg_get {α : Type} (cur xs : List α) (o j : Nat) (h : o + xs.length ≤ cur.length) : (cur.take o ++ xs ++ cur.drop (o + xs.length))[j]? = if o ≤ j ∧ j < o + xs.length then xs[j - o]? else cur[j]? := by
  have hl : (cur.take o).length = o := by rw [List.length_take]; omega
  by_cases h1 : j < o
  · rw [List.append_assoc, List.getElem?_append_left (by omega), List.getElem?_take, if_pos h1, if_neg (by omega)]
  · rw [List.append_assoc, List.getElem?_append_right (by omega), hl]
    by_cases h2 : j < o + xs.length
    · rw [List.getElem?_append_left (by omega), if_pos ⟨by omega, h2⟩]
    · rw [List.getElem?_append_right (by omega), List.getElem?_drop, if_neg (by omega)]
      congr 1
      omega
theorem IsNums.takeAt {k : IntKind} {w : World} {b o n c : Nat} {bs : List Int} (h : IsNums k w (.slice (some ⟨b, o, none⟩) n c) bs) (j : Nat) (hj : j ≤ bs.length) : IsNums k w (.slice (some ⟨b, o, none⟩) j c) (bs.take j) := by
  obtain ⟨a', c', e1, h0 | ⟨b', o', e2, h1, h2⟩⟩ := h
  · have : j = 0 := by omega
    subst this
    exact IsNums.nil _ _ _ _
  · injection e1 with e1 e3 e4
    subst e1
    injection e2 with e2
    injection e2 with e2 e5
    subst e2 e5
    refine ⟨_, c, by rw [List.length_take, Nat.min_eq_left hj], .inr ⟨b, o, rfl, h1, fun i hi => ?_⟩⟩
    rw [List.length_take, Nat.min_eq_left hj] at hi
    rw [h2 i (by omega)]
    simp [List.getD, List.getElem?_take, hi]
/-- A row of writes in which one is another one. -/
theorem WOff.setLast {F : Nat → Prop} {w w5 : World} {g n c : Nat} {R : List WR} {cur : List Value} (hcur : cur.length ≥ R.length * 2) (htk : cur.take (R.length * 2) = R.flatMap WR.cells) (hF : ∀ k, F k → k < w.heap.size) (hg : w.heap.size ≤ g) (m : Nat) (hm : m < R.length) (r : WR) (hb5 : Blk w5 g 106 (cur.take (m * 2) ++ WR.cells r ++ cur.drop (m * 2 + 2))) (hR : ∀ r ∈ R, NumsC F w r.val r.data) (hw5 : Below w.heap.size w w5) (hr : NumsC F w5 r.val r.data) (hn : n = R.length) (hc : n ≤ c) : WOff F w5 (.slice (some ⟨g, 0, none⟩) n c) ((R.map WR.key).set m r.key) := by
  subst hn
  refine ⟨R.set m r, by rw [List.map_set], ⟨some ⟨g, 0, none⟩, c, by rw [List.length_set], by rw [List.length_set]; exact hc, .inr ⟨g, 0, rfl, hb5.lt, fun h => by have := hF g h; omega, fun k hk => ?_⟩⟩, fun r' hr' => ?_⟩
  · rw [List.length_set] at hk
    intro j v hv
    have hj2 : j < 2 := (List.getElem?_eq_some_iff.1 hv).1
    rw [Nat.zero_add, hb5.cell]
    have hs := seg_get cur (WR.cells r) (m * 2) (k * 2 + j) (by show m * 2 + 2 ≤ _; omega)
    rw [show m * 2 + (WR.cells r).length = m * 2 + 2 from rfl] at hs
    rw [hs]
    by_cases e : m = k
    · subst e
      rw [if_pos (by omega), show m * 2 + j - m * 2 = j by omega, ← hv]
      congr 2
      simp [List.getD, hm]
    · rw [if_neg (by omega)]
      have h9 : (cur.take (R.length * 2))[k * 2 + j]? = some v := by
        rw [htk, parts_at WR.cells 2 R k j WR.zero (fun s _ => rfl) hk hj2, ← hv]
        congr 2
        simp [List.getD, List.getElem?_set_ne e]
      rw [List.getElem?_take, if_pos (by omega)] at h9
      exact h9
  · rcases List.mem_or_eq_of_mem_set hr' with h | h
    · exact (hR r' h).keep (Keep.ofBelow (bad := fun _ => False) hw5) (fun _ h => h.elim)
    · rw [h]; exact hr

def RCrashPost (F : Nat → Prop) (w : World) (B : Nat) (secs : List (List Int)) (e : Ending) (w' : World) : Prop := e = .returned (.tuple #[]) ∧ RDisk F w' B secs [] (-1) ∧ Keep (fun k => k = B) w w'
theorem rcrash_end {F : Nat → Prop} {w w6 : World} {B : Nat} {secs : List (List Int)} {wl : List (Int × List Int)} {l l6 : Int} (h : RDisk F w B secs wl l) {vs6 : Value} {k : Nat} {kw : List (Int × List Int)} (hso : ∀ s ∈ settleN secs kw k, Sec s) (hr : RHead w6 B vs6 (.slice none 0 0) l6) (hl : LOff F w6 vs6 (settleN secs kw k)) (hk : Keep (fun k => k = B) w w6) :
    RCrashPost F w B (settleN secs kw k) (.returned (.tuple #[])) (w6.setCell ⟨B, 2, none⟩ (.int .i64 (-1))) := by
  have k1 : Keep (fun k => k = B) w6 (w6.setCell ⟨B, 2, none⟩ (.int .i64 (-1))) := Keep.setCell (bad := fun k => k = B) rfl _
  refine ⟨rfl, ⟨⟨vs6, .slice none 0 0, hr.setCell 2 _, hl.keep k1 (fun k e => by rw [e]; exact h.fB), ⟨[], rfl, ⟨none, 0, rfl, Nat.le_refl _, .inl ⟨rfl, fun _ => rfl⟩⟩, fun r hr => absurd hr (by simp)⟩⟩, h.fB, fun k hF => Nat.lt_of_lt_of_le (h.fbd k hF) (hk.trans k1).size, hso, fun q hq => absurd hq (by simp), by rw [settleN_len]; exact h.many, Nat.zero_le _, by omega, by omega⟩, hk.trans k1⟩

end Go.Proofs.Ythecjhjomkpgkaa.K
