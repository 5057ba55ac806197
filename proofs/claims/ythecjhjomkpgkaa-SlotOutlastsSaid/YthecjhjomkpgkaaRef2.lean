/- mementoref3's disk as lists; Read. -/
import Derived.Test.YthecjhjomkpgkaaRef1
namespace Go.Proofs.Ythecjhjomkpgkaa.K
open Go.ChangeShapes Go.WideShapes Go.ChangeAt Go.RowKit
set_option linter.unusedVariables false

/-- A slice that reads as these numbers, none of whose cells lies in a bad block, no longer than its room. -/
def NumsC (bad : Nat → Prop) (w : World) (v : Value) (zs : List Int) : Prop := ∃ a c, v = .slice a zs.length c ∧ zs.length ≤ c ∧ NumsOff bad w v zs
theorem NumsC.nums {bad : Nat → Prop} {w : World} {v : Value} {zs : List Int} (h : NumsC bad w v zs) : IsNums .u8 w v zs := by
  obtain ⟨_, _, _, _, h⟩ := h
  exact h.nums
theorem NumsC.keep {bad bad' : Nat → Prop} {w W : World} {v : Value} {zs : List Int} (h : NumsC bad w v zs) (hk : Keep bad' w W) (hb : ∀ k, bad' k → bad k) : NumsC bad W v zs := by
  obtain ⟨a, c, e, hc, h⟩ := h
  exact ⟨a, c, e, hc, h.keep hk hb⟩
theorem NumsC.mono {bad bad' : Nat → Prop} {w : World} {v : Value} {zs : List Int} (h : NumsC bad w v zs) (hb : ∀ k, k < w.heap.size → bad' k → bad k) : NumsC bad' w v zs := by
  obtain ⟨a, c, e, hc, h⟩ := h
  exact ⟨a, c, e, hc, h.mono hb⟩
/-- A slice of slices of bytes whose blocks are none of these. -/
def LOff (bad : Nat → Prop) (w : World) (v : Value) (ls : List (List Int)) : Prop :=
  ∃ a c, v = .slice a ls.length c ∧ (ls.length = 0 ∨ ∃ b off, a = some ⟨b, off, none⟩ ∧ b < w.heap.size ∧ ¬ bad b ∧ ∀ j, j < ls.length → ∃ u, w.cell? ⟨b, off + j, none⟩ = some u ∧ NumsC bad w u (ls.getD j []))
/-- A write as it lies in memory. -/
structure WR where
  pos : Int
  data : List Int
  val : Value
def WR.key (r : WR) : Int × List Int := (r.pos, r.data)
def WR.cells (r : WR) : List Value := [.int .i64 r.pos, r.val]
def WR.zero : WR := ⟨0, [], .slice none 0 0⟩
/-- A slice of structs of a number and bytes whose blocks are none of these. -/
def WOff (bad : Nat → Prop) (w : World) (v : Value) (ks : List (Int × List Int)) : Prop :=
  ∃ rs : List WR, rs.map WR.key = ks ∧ (∃ a c, v = .slice a rs.length c ∧ rs.length ≤ c ∧ ((rs.length = 0 ∧ (a = none → c = 0)) ∨ ∃ b off, a = some ⟨b, off, none⟩ ∧ b < w.heap.size ∧ ¬ bad b ∧ ∀ k, k < rs.length → w.rangeAt b (off + k * 2) (WR.cells (rs.getD k WR.zero)))) ∧ ∀ r ∈ rs, NumsC bad w r.val r.data
theorem WOff.at {bad : Nat → Prop} {w : World} {v : Value} {ks : List (Int × List Int)} (h : WOff bad w v ks) : ∃ a c, v = .slice a ks.length c ∧ (ks.length = 0 ∨ ∃ b off, a = some ⟨b, off, none⟩ ∧ b < w.heap.size ∧ ¬ bad b ∧ ∀ j, j < ks.length → ∃ u, w.cell? ⟨b, off + j * 2, none⟩ = some (.int .i64 (ks.getD j (0, [])).1) ∧ w.cell? ⟨b, off + j * 2 + 1, none⟩ = some u ∧ NumsC bad w u (ks.getD j (0, [])).2) := by
  obtain ⟨rs, rfl, ⟨a, c, rfl, hc, h0⟩, hd⟩ := h
  refine ⟨a, c, by rw [List.length_map], ?_⟩
  rw [List.length_map]
  rcases h0 with ⟨h0, -⟩ | ⟨b, off, rfl, h1, h2, h3⟩
  · exact .inl h0
  · refine .inr ⟨b, off, rfl, h1, h2, fun j hj => ?_⟩
    have hr := h3 j hj
    have hg : (rs.map WR.key).getD j (0, []) = WR.key (rs.getD j WR.zero) := by simp [List.getD, hj]
    have hm : rs.getD j WR.zero ∈ rs := by rw [List.getD_eq_getElem?_getD, List.getElem?_eq_getElem hj]; exact List.getElem_mem hj
    rw [hg]
    refine ⟨(rs.getD j WR.zero).val, ?_, hr 1 _ rfl, hd _ hm⟩
    have := hr 0 (.int .i64 (rs.getD j WR.zero).pos) rfl
    rw [Nat.add_zero] at this
    exact this
theorem LOff.keep {bad bad' : Nat → Prop} {w W : World} {v : Value} {ls : List (List Int)} (h : LOff bad w v ls) (hk : Keep bad' w W) (hb : ∀ k, bad' k → bad k) : LOff bad W v ls := by
  obtain ⟨a, c, rfl, h | ⟨b, off, rfl, h1, h2, h3⟩⟩ := h
  · exact ⟨a, c, rfl, .inl h⟩
  · refine ⟨_, c, rfl, .inr ⟨b, off, rfl, Nat.lt_of_lt_of_le h1 hk.size, h2, fun j hj => ?_⟩⟩
    obtain ⟨u, hu, hn⟩ := h3 j hj
    exact ⟨u, by rw [hk.cell (fun hh => h2 (hb _ hh)) h1]; exact hu, hn.keep hk hb⟩
theorem WOff.keep {bad bad' : Nat → Prop} {w W : World} {v : Value} {ks : List (Int × List Int)} (h : WOff bad w v ks) (hk : Keep bad' w W) (hb : ∀ k, bad' k → bad k) : WOff bad W v ks := by
  obtain ⟨rs, e, ⟨a, c, rfl, hc, h0⟩, hd⟩ := h
  refine ⟨rs, e, ⟨a, c, rfl, hc, ?_⟩, fun r hr => (hd r hr).keep hk hb⟩
  rcases h0 with h0 | ⟨b, off, rfl, h1, h2, h3⟩
  · exact .inl h0
  · exact .inr ⟨b, off, rfl, Nat.lt_of_lt_of_le h1 hk.size, h2, fun k hk' j u hj => by rw [hk.cell (fun hh => h2 (hb _ hh)) h1]; exact h3 k hk' j u hj⟩

/-- The reference's disk: sectors that are sure, writes since, the power. -/
structure RDisk (F : Nat → Prop) (w : World) (B : Nat) (secs : List (List Int)) (wl : List (Int × List Int)) (l : Int) : Prop where
  body : ∃ vs vl, RHead w B vs vl l ∧ LOff F w vs secs ∧ WOff F w vl wl
  fB : F B
  fbd : ∀ k, F k → k < w.heap.size
  secs_ok : ∀ s ∈ secs, Sec s
  wl_ok : ∀ k ∈ wl, (0 ≤ k.1 ∧ k.1 < secs.length) ∧ Sec k.2
  many : secs.length ≤ 1048576
  few : wl.length ≤ 1000000
  left0 : -1 ≤ l
  left1 : l ≤ 9223372036854775807
/-- The disk through changes of blocks that are none of its own, and none that it stands in. -/
theorem RDisk.keep {F bad : Nat → Prop} {w W : World} {B : Nat} {secs : List (List Int)} {wl : List (Int × List Int)} {l : Int} (h : RDisk F w B secs wl l) (hk : Keep bad w W) (hb : ∀ k, bad k → F k) (hB : ¬ bad B) : RDisk F W B secs wl l := by
  obtain ⟨vs, vl, h1, h2, h3⟩ := h.body
  exact ⟨⟨vs, vl, h1.keep hk hB, h2.keep hk hb, h3.keep hk hb⟩, h.fB, fun k hF => Nat.lt_of_lt_of_le (h.fbd k hF) hk.size, h.secs_ok, h.wl_ok, h.many, h.few, h.left0, h.left1⟩
theorem RDisk.later {F : Nat → Prop} {w W : World} {B : Nat} {secs : List (List Int)} {wl : List (Int × List Int)} {l : Int} (h : RDisk F w B secs wl l) (hk : Below w.heap.size w W) : RDisk F W B secs wl l := by
  obtain ⟨vs, vl, h1, h2, h3⟩ := h.body
  have kp : Keep (fun _ => False) w W := Keep.ofBelow hk
  exact ⟨⟨vs, vl, h1.below hk h1.lt, h2.keep kp (fun _ h => h.elim), h3.keep kp (fun _ h => h.elim)⟩, h.fB, fun k hF => Nat.lt_of_lt_of_le (h.fbd k hF) hk.size, h.secs_ok, h.wl_ok, h.many, h.few, h.left0, h.left1⟩

/-- What a sector is, k of the writes later. -/
def curOf (wl : List (Int × List Int)) (i : Int) (s0 : List Int) : Nat → List Int
  | 0 => s0
  | k + 1 => if (wl.getD k (0, [])).1 = i then (wl.getD k (0, [])).2 else curOf wl i s0 k

set_option maxRecDepth 100000 in
set_option maxHeartbeats 1000000 in
theorem rread_any {F : Nat → Prop} {w : World} {B : Nat} {secs : List (List Int)} {wl : List (Int × List Int)} {l : Int} (h : RDisk F w B secs wl l) (i : Nat) (hi : i < secs.length) :
    Calls Try.prog 60 #[.pointer (some ⟨B, 0, none⟩), .int .i64 i] w fun e w' => ∃ u, e = .returned u ∧ w'.ownsRow w.heap.size 5 1 u 64 (B8 (curOf wl i (secs.getD i []) wl.length)) ∧ Below w.heap.size w w' := by
  obtain ⟨vs, vl, h1, ⟨aS, cS, rfl, hS⟩, hWL⟩ := h.body
  obtain ⟨aL, cL, rfl, hLL⟩ := hWL.at
  clear hWL
  obtain h0 | ⟨bS, oS, rfl, hbS, -, hcS⟩ := hS
  · omega
  obtain ⟨u0, hu0, hn0⟩ := hcS i hi
  have hso := h.secs_ok (secs.getD i []) (by rw [List.getD_eq_getElem?_getD, List.getElem?_eq_getElem hi]; exact List.getElem_mem hi)
  have hwo := h.wl_ok
  have hfew := h.few
  have hmany := h.many
  obtain ⟨s0, hs0⟩ : ∃ s, secs.getD i [] = s := ⟨_, rfl⟩
  rw [hs0] at hn0 hso ⊢
  have b0 := h1.cell 0
  have b1 := h1.cell 1
  have hcur : ∀ k, k ≤ wl.length → Sec (curOf wl i s0 k) := by
    intro k
    induction k with
    | zero => exact fun _ => hso
    | succ k ih =>
      intro hk
      unfold curOf
      split
      · exact (hwo _ (by rw [List.getD_eq_getElem?_getD, List.getElem?_eq_getElem (show k < wl.length by omega)]; exact List.getElem_mem _)).2
      · exact ih (by omega)
  obtain ⟨p0, c0, hu0e, -⟩ := id hn0
  rw [hso.1] at hu0e
  subst hu0e
  have HLL := Lib.hid hLL
  have HCUR := Lib.hid hcur
  have HN0 := Lib.hid hn0.nums
  have hiI : (i : Int) < secs.length := by omega
  have hiM : (i : Int) ≤ 1048576 := by omega
  have hi0 : ¬ (i : Int) < 0 := by omega
  have hin : ¬ (secs.length : Int) ≤ i := by omega
  clear hwo hso hcur hLL hn0 h h1 hcS hs0
  go_enter Try.func60, Try.ntmps60
  go_wp2
  go_loopw [5, 6] (fun s q wr => ∃ k : Nat, k ≤ wl.length ∧ q = .int .i64 k ∧ (∃ p c, s = .slice p 64 c) ∧ IsNums .u8 w s (curOf wl i s0 k) ∧ wr = w) (fun _ q _ => wl.length - (intOf q).toNat)
  case atStart => exact ⟨0, Nat.zero_le _, rfl, ⟨p0, c0, rfl⟩, HN0.out, rfl⟩
  case round =>
    obtain ⟨k, hk, rfl, ⟨p, c, rfl⟩, hn, hw⟩ := hrel
    subst hw
    have NN := Lib.hid hn
    by_cases hlt : k < wl.length
    · obtain hz | ⟨bL, oL, rfl, hbL, -, hcL⟩ := HLL.out
      · omega
      obtain ⟨u, hx, hy, hnu⟩ := hcL k hlt
      obtain ⟨pu, cu, hue, -⟩ := id hnu
      have hsec : Sec (curOf wl i s0 (k + 1)) := HCUR.out (k + 1) hlt
      obtain ⟨j, hj⟩ : ∃ j, (wl.getD k (0, [])).1 = j := ⟨_, rfl⟩
      rw [hj] at hx
      have hkI : (k : Int) < wl.length := by omega
      have hkM : (k : Int) ≤ 1000000 := by omega
      have NU := Lib.hid hnu.nums
      have HJ := Lib.hid hj
      have HSEC := Lib.hid hsec
      by_cases he : j = i
      · have hst : curOf wl i s0 (k + 1) = (wl.getD k (0, [])).2 := by unfold curOf; rw [if_pos (HJ.out.trans he)]
        have h64 : ((wl.getD k (0, [])).2).length = 64 := by rw [← hst]; exact HSEC.out.1
        rw [h64] at hue
        subst hue
        have HST := Lib.hid hst
        subst he
        clear hst h64 hnu hn hj hsec hcL
        go_wp2
        go_roundw
        case rel => exact ⟨k + 1, by omega, by go_num, ⟨_, _, rfl⟩, by rw [HST.out]; exact NU.out, by first | rfl | trivial⟩
        case measure => simp [intOf]; omega
      · have hst : curOf wl i s0 (k + 1) = curOf wl i s0 k := by
          show (if (wl.getD k (0, [])).1 = i then _ else _) = _
          rw [if_neg (by rw [HJ.out]; exact he)]
        have HST := Lib.hid hst
        clear hst hnu hn hj hsec hcL hue
        go_wp2
        go_roundw
        case rel => exact ⟨k + 1, by omega, by go_num, ⟨_, _, rfl⟩, by rw [HST.out]; exact NN.out, by first | rfl | trivial⟩
        case measure => simp [intOf]; omega
    · obtain rfl : k = wl.length := by omega
      have h64 := (HCUR.out wl.length (Nat.le_refl _)).1
      obtain ⟨cc, hcc⟩ : ∃ x, curOf wl i s0 wl.length = x := ⟨_, rfl⟩
      rw [hcc] at h64 NN
      have HCC := Lib.hid hcc
      have H64 := Lib.hid h64
      clear hn h64 hcc
      go_wp2_with (at_builtin; (refine wpList_appN rfl (.const (.slice none 0 0)) (.tmp 52) 25 rfl wr.heap.size 5 .u8 1 Try.underlying25 info_u8 (by omega) _ 0 [] rfl (World.ownsRow_nil _ _ _ _) _ cc rfl NN.out (by rw [H64.out]; omega) (Nat.le_refl _) ?_); intro v1 w1 hown1 hb1; rw [H64.out, Nat.zero_add, List.nil_append] at hown1; have O1 := Lib.hid hown1; have B1 := Lib.hid hb1; clear hown1 hb1)
      go_ret
      exact ⟨_, rfl, by rw [HCC.out]; exact O1.out, B1.out⟩
end Go.Proofs.Ythecjhjomkpgkaa.K
