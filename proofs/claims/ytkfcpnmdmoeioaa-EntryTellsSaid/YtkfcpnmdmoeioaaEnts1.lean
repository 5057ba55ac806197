/- Rows of entries of one's own; mementoseat.Entries. -/
import Derived.Test.YtkfcpnmdmoeioaaRE3
namespace Go.Proofs.Ytkfcpnmdmoeioaa.K
open Go.ChangeShapes Go.WideShapes Go.ChangeAt Go.RowKit
set_option linter.unusedVariables false


/-- An entry as it lies in memory. -/
structure ER where
  ix : Int
  tm : Int
  kd : Int
  data : List Int
  val : Value
def ER.key (r : ER) : Int × Int × Int × List Int := (r.ix, r.tm, r.kd, r.data)
def ER.cells (r : ER) : List Value := [.int .i64 r.ix, .int .i64 r.tm, .int .i64 r.kd, r.val]
def ER.zero : ER := ⟨0, 0, 0, [], .slice none 0 0⟩
theorem ER.len (r : ER) : r.cells.length = 4 := rfl
/-- A row of entries of one's own, whose data lie elsewhere. -/
def OwnEnts (w : World) (base : Nat) (v : Value) (ks : List (Int × Int × Int × List Int)) : Prop :=
  ∃ rs : List ER, rs.map ER.key = ks ∧ w.ownsRow base 24 4 v rs.length (rs.flatMap ER.cells) ∧ ∀ r ∈ rs, NumsOff (fun k => v.ownBlock = some k) w r.val r.data
theorem OwnEnts.nil (w : World) (base : Nat) : OwnEnts w base (.slice none 0 0) [] := ⟨[], rfl, World.ownsRow_nil _ _ _ _, by simp⟩
theorem OwnEnts.later {w w' : World} {base : Nat} {v : Value} {ks : List (Int × Int × Int × List Int)} (h : OwnEnts w base v ks) (hb : Below w.heap.size w w') : OwnEnts w' base v ks := by
  obtain ⟨rs, e, h1, h2⟩ := h
  exact ⟨rs, e, own_keep h1 (Keep.ofBelow (bad := fun _ => False) hb) (fun _ _ h => h), fun r hr => (h2 r hr).keep (bad' := fun _ => False) (Keep.ofBelow hb) (fun _ h => h.elim)⟩
theorem OwnEnts.len {w : World} {base : Nat} {v : Value} {ks : List (Int × Int × Int × List Int)} (h : OwnEnts w base v ks) : ∃ p c, v = .slice p ks.length c := by
  obtain ⟨rs, rfl, h1, h2⟩ := h
  obtain ⟨p, c, e⟩ := ownsRow_shape h1
  exact ⟨p, c, by rw [e, List.length_map]⟩
/-- One more entry, whose data lie elsewhere, behind the row. -/
theorem OwnEnts.snoc {w w' : World} {base : Nat} {v v' : Value} {rs : List ER} (h2 : ∀ r ∈ rs, NumsOff (fun k => v.ownBlock = some k) w r.val r.data) (r : ER) (hr : NumsOff (fun k => v.ownBlock = some k ∨ k = w.heap.size) w r.val r.data)
    (hown : w'.ownsRow base 24 4 v' (rs.length + 1) (rs.flatMap ER.cells ++ r.cells)) (hg : w.grownBy w' v.ownBlock) (hv : v'.ownBlock = v.ownBlock ∨ v'.ownBlock = some w.heap.size) : OwnEnts w' base v' (rs.map ER.key ++ [r.key]) := by
  have kk : Keep (fun k => v.ownBlock = some k) w w' := ⟨hg.os, hg.tape, hg.output, hg.size, fun j hj hn => hg.block j hj (fun e => hn e.symm)⟩
  have ho : ∀ k, v'.ownBlock = some k → v.ownBlock = some k ∨ k = w.heap.size := fun k hk => by
    rcases hv with e | e
    · left; rw [← e]; exact hk
    · right; rw [e] at hk; injection hk with hk; exact hk.symm
  refine ⟨rs ++ [r], by rw [List.map_append]; rfl, by rw [List.length_append, List.flatMap_append]; simpa using hown, fun q hq => ?_⟩
  rcases List.mem_append.1 hq with hq | hq
  · have h9 : NumsOff (fun k => v.ownBlock = some k ∨ k = w.heap.size) w q.val q.data := (h2 q hq).mono (fun k hk e => e.elim id (fun e => absurd hk (by omega)))
    exact (h9.keep kk (fun _ h => .inl h)).mono (fun k _ e => ho k e)
  · obtain rfl : q = r := by simpa using hq
    exact (hr.keep kk (fun _ h => .inl h)).mono (fun k _ e => ho k e)
theorem infoEnt : (Try.prog.info? 24).map (fun i => (i.zero, i.size, i.bytes)) = some (some (.agg #[.int .i64 0, .int .i64 0, .int .i64 0, .slice none 0 0]), 4, 48) := by kernel_rfl

/-- The i-th of the entries of such bytes. -/
def entOf (F tm x i : Int) : Int × Int × Int × List Int :=
  (F + i, tm, if 230 < x then 2 else x / 5 % 2, if 230 < x then [x % 5, x / 5 % 2] else if x / 5 % 2 = 1 then [x, i] else [])
def termN (l : List Int) : Nat → Int
  | 0 => 1
  | k + 1 => termN l k + l.getD k 0 % 5 / 4
def entsN (F : Int) (l : List Int) : Nat → List (Int × Int × Int × List Int)
  | 0 => []
  | k + 1 => entsN F l k ++ [entOf F (termN l (k + 1)) (l.getD k 0) k]
theorem entsN_len (F : Int) (l : List Int) : ∀ k, (entsN F l k).length = k
  | 0 => rfl
  | k + 1 => by rw [entsN, List.length_append, entsN_len F l k]; rfl
theorem termN_bd (l : List Int) (hb : ∀ j, j < l.length → 0 ≤ l.getD j 0 ∧ l.getD j 0 ≤ 255) : ∀ k, k ≤ l.length → 1 ≤ termN l k ∧ termN l k ≤ 1 + k
  | 0, _ => by unfold termN; omega
  | k + 1, hk => by
    have h1 := termN_bd l hb k (by omega)
    have h2 := hb k (by omega)
    unfold termN
    omega
end Go.Proofs.Ytkfcpnmdmoeioaa.K
