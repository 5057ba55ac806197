/- mementoref3's disk: Write's walk. -/
import Derived.Test.YthecjhjomkpgkaaRef3
namespace Go.Proofs.Ythecjhjomkpgkaa.K
open Go.ChangeShapes Go.WideShapes Go.ChangeAt Go.RowKit
set_option linter.unusedVariables false

def RWritePost (F : Nat → Prop) (w : World) (B : Nat) (secs : List (List Int)) (wl : List (Int × List Int)) (l : Int) (e : Ending) (w' : World) : Prop := e = .returned (.int .i64 0) ∧ RDisk F w' B secs wl l ∧ Keep (fun k => k = B) w w'

set_option maxRecDepth 100000 in
set_option maxHeartbeats 1000000 in
theorem rwrite_live {F : Nat → Prop} {w : World} {B : Nat} {secs : List (List Int)} {wl : List (Int × List Int)} {l : Int} (h : RDisk F w B secs wl l) (i : Nat) (hi : i < secs.length) (u : Value) (b : List Int) (hu : NumsOff (fun k => k = B) w u b) (hb : b.length ≤ 64) (hby : ∀ x ∈ b, 0 ≤ x ∧ x ≤ 255) (hl : (l != 0) = true) (hn : wl.length < 1000000) :
    Calls Try.prog 55 #[.pointer (some ⟨B, 0, none⟩), .int .i64 i, u] w (RWritePost F w B secs (wl ++ [((i : Int), pad b)]) (less l)) := by
  obtain ⟨vs, vl, h1, h2, h3⟩ := h.body
  obtain ⟨aS, cS, rfl, hS⟩ := id h2
  obtain ⟨pu, cu, rfl, -⟩ := id hu
  have hmany := h.many
  have hB := h1.lt
  have b0 := h1.cell 0
  have H1 := Lib.hid h1
  have H2 := Lib.hid h2
  have H3 := Lib.hid h3
  have HD := Lib.hid h
  have HU := Lib.hid hu
  have HBY := Lib.hid hby
  have HLV := Lib.hid hl
  have HN := Lib.hid hn
  have hiI : (i : Int) < secs.length := by omega
  have hiM : (i : Int) ≤ 1048576 := by omega
  have hi0 : ¬ (i : Int) < 0 := by omega
  have hin : ¬ (secs.length : Int) ≤ i := by omega
  have hb64 : ¬ (64 : Int) < b.length := by omega
  clear h1 h2 h3 h hu hby hl hn hS
  go_enter Try.func55, Try.ntmps55
  go_wp2_with fail
  refine (rspend_any w B _ vl l H1.out HD.out.left0 HD.out.left1).mono ?_
  rintro e w1 ⟨rfl, hr1, hk1⟩
  rw [HLV.out]
  have hsub : ∀ k, k = B → F k := fun k h => by rw [h]; exact HD.out.fB
  have SUB := Lib.hid hsub
  have h31 := H3.out.keep hk1 hsub
  have h21 := H2.out.keep hk1 hsub
  have hfb1 : ∀ k, F k → k < w1.heap.size := fun k hF => Nat.lt_of_lt_of_le (HD.out.fbd k hF) hk1.size
  have FB1 := Lib.hid hfb1
  clear hsub hfb1
  have hu1 := HU.out.keep hk1 (fun _ h => h)
  obtain ⟨rs, hrs, hrow, hdat⟩ := id h31
  have hrl : rs.length = wl.length := by have := congrArg List.length hrs; simpa using this
  obtain ⟨aL, cL, hvl, -⟩ := id hrow
  subst hvl
  have hB1 : B < w1.heap.size := hr1.lt
  have b1 := hr1.cell 1
  have R1 := Lib.hid hr1
  have K1 := Lib.hid hk1
  have L1 := Lib.hid h21
  have ROW := Lib.hid hrow
  have DAT := Lib.hid hdat
  have HRS := Lib.hid hrs
  have HRL := Lib.hid hrl
  have ONE := Lib.hid (WR.ones hdat)
  have U1 := Lib.hid hu1.nums
  clear h31 h21 hu1 hrs hrow hdat hrl hr1 hk1 b0
  go_wp2_with ((with_reducible refine wpList_appR (.const (.slice none 0 0)) (.tmp 28) w1.heap.size _ 0 [] (World.ownsRow_nil _ _ _ _) _ rs F ROW.out ONE.out ?_ (Nat.le_refl _) ?_ ?_ ?_); (have := HRL.out; have := HN.out; omega); exact rfl; exact rfl; intro v2 w2 hown2 hg2 hv2; rw [Nat.zero_add, List.nil_append] at hown2; obtain ⟨p2, c2, hv2e⟩ := ownsRow_shape hown2; have hb2 := (Below.refl w1.heap.size w1).grown hg2 (Nat.le_refl _) (fun j hj => by cases hj); have O2 := Lib.hid hown2; have B2 := Lib.hid hb2; subst hv2e; clear hown2 hg2 hv2 hb2)
  refine (sector_any w2 _ b (U1.out.below B2.out (Nat.le_refl _)) hb).mono ?_
  rintro e w3 ⟨u3, rfl, ho3, hb3⟩
  obtain ⟨p3, c3, hu3⟩ := ownsRow_shape ho3
  subst hu3
  have hpl : (pad b).length = 64 := (pad_ok hb HBY.out).1
  have HPL := Lib.hid hpl
  have O3 := Lib.hid (own_keep O2.out (Keep.ofBelow (bad := fun _ => False) hb3) (fun _ _ h => h))
  have B3 := Lib.hid (B2.out.trans (hb3.mono B2.out.size))
  have P3 := Lib.hid ho3
  have Z2 := Lib.hid B2.out.size
  have hown3a := own_keep O3.out (Keep.alloc (fun _ => False) w3 (.cells #[.int .i64 i, .slice p3 64 c3] 106)) (fun _ _ h => h)
  have OA := Lib.hid hown3a
  clear ho3 hb3 hown3a hpl U1 ROW
  go_wp2_with (first | ((with_reducible refine wpList_buildS1 93 106 (.tmp 33) [.int .i64 i, .slice p3 64 c3] _ 32 Try.underlying93 infoWw ?_ ?_ ?_ ?_); (simp); (simp); exact rfl) | ((with_reducible refine wpList_appW (.tmp 29) (.tmp 34) 93 w1.heap.size 106 _ 2 32 Try.underlying93 infoWw rfl ?_ _ rs.length (rs.flatMap WR.cells) OA.out ⟨w3.heap.size, 0, none⟩ 1 1 [.int .i64 i, .slice p3 64 c3] ?_ (wrCells w3 i _) ?_ ?_ ?_ ?_ ?_ ?_ ?_); omega; exact rfl; (intro v hv; simp at hv; rcases hv with rfl | rfl <;> rfl); (have := HRL.out; have := HN.out; unfold maxLen; omega); (have := HRL.out; have := HN.out; omega); (have := B3.out.size; simp; omega); exact rfl; exact rfl; intro v4 w4 hown4 hg4 hv4; obtain ⟨p4, c4, hv4e⟩ := ownsRow_shape hown4; have hb4 := (B3.out.alloc B3.out.size (.cells #[.int .i64 i, .slice p3 64 c3] 106)).grown hg4 (by have := B3.out.size; simp; omega) (fun j hj => (OA.out.lt j hj).1); have hB4 := R1.out.below hb4 hB1; have b4 := hB4.cell 1; have f4 := hB4.free 1; subst hv4e; have O4 := Lib.hid hown4; have G4 := Lib.hid hg4; have HB4 := Lib.hid hB4; have BB4 := Lib.hid hb4; clear hown4 hg4 hv4 hb4 hB4))
  go_ret
  have hst := HB4.out.setCell 1 (.slice p4 (rs.length + 1) c4)
  have hk4 : Keep (fun k => k = B) w4 (w4.setCell ⟨B, 1, none⟩ (.slice p4 (rs.length + 1) c4)) := Keep.setCell (bad := fun k => k = B) rfl _
  have hk14 : Keep (fun k => k = B) w1 (w4.setCell ⟨B, 1, none⟩ (.slice p4 (rs.length + 1) c4)) := (Keep.ofBelow (bad := fun k => k = B) BB4.out).trans hk4
  refine ⟨rfl, ⟨⟨_, .slice p4 (rs.length + 1) c4, hst, L1.out.keep hk14 SUB.out, ?_⟩, HD.out.fB, fun k hF => Nat.lt_of_lt_of_le (FB1.out k hF) hk14.size, HD.out.secs_ok, ?_, HD.out.many, ?_, ?_, ?_⟩, K1.out.trans hk14⟩
  · have hown : w4.ownsRow w1.heap.size 106 2 (.slice p4 (rs.length + 1) c4) (rs ++ [(⟨i, pad b, .slice p3 64 c3⟩ : WR)]).length ((rs ++ [(⟨i, pad b, .slice p3 64 c3⟩ : WR)]).flatMap WR.cells) := by
      rw [List.length_append, List.flatMap_append]; exact O4.out
    have hnew : NumsC F w4 (.slice p3 64 c3) (pad b) := by
      have h3 : NumsC (fun k => F k ∨ (Value.slice p2 rs.length c2).ownBlock = some k) w3 (.slice p3 64 c3) (pad b) := NumsC.ofOwn P3.out (by
        rintro j hj1 hj2 (h | h)
        · have := Z2.out; have := FB1.out j h; omega
        · have := (O2.out.lt j h).2; omega)
      have kk : Keep (fun k => F k ∨ (Value.slice p2 rs.length c2).ownBlock = some k) w3 w4 := (Keep.alloc _ w3 (.cells #[.int .i64 i, .slice p3 64 c3] 106)).trans ⟨G4.out.os, G4.out.tape, G4.out.output, G4.out.size, fun j hj hn => G4.out.block j hj (fun e => hn (.inr e.symm))⟩
      exact (h3.keep kk (fun _ h => h)).mono (fun k _ h => .inl h)
    refine WOff.keep (bad' := fun k => k = B) ⟨rs ++ [(⟨i, pad b, .slice p3 64 c3⟩ : WR)], by rw [List.map_append, HRS.out]; rfl, WR.ofOwn hown (fun k h => FB1.out k h), fun r hr => ?_⟩ hk4 SUB.out
    rcases List.mem_append.1 hr with hr | hr
    · exact (DAT.out r hr).keep (Keep.ofBelow (bad := fun _ => False) BB4.out) (fun _ h => h.elim)
    · obtain rfl : r = ⟨i, pad b, .slice p3 64 c3⟩ := by simpa using hr
      exact hnew
  · intro k hk
    rcases List.mem_append.1 hk with hk | hk
    · exact HD.out.wl_ok k hk
    · obtain rfl : k = (↑i, pad b) := by simpa using hk
      exact ⟨⟨by show (0 : Int) ≤ i; omega, hiI⟩, pad_ok hb HBY.out⟩
  · rw [List.length_append]; have := HN.out; show _ + 1 ≤ _; omega
  · have := HD.out.left0; unfold less; split <;> omega
  · have := HD.out.left1; unfold less; split <;> omega
end Go.Proofs.Ythecjhjomkpgkaa.K
