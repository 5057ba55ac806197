/- The reference's disk stands clear of what comes after it. -/
import Derived.Test.YthecjhjomkpgkaaRefB
namespace Go.Proofs.Ythecjhjomkpgkaa.K
open Go.ChangeShapes Go.WideShapes Go.ChangeAt Go.RowKit
set_option linter.unusedVariables false

theorem LOff.mono {bad bad' : Nat → Prop} {w : World} {v : Value} {ls : List (List Int)} (h : LOff bad w v ls) (hb : ∀ k, k < w.heap.size → bad' k → bad k) : LOff bad' w v ls := by
  obtain ⟨a, c, rfl, h | ⟨b, off, rfl, h1, h2, h3⟩⟩ := h
  · exact ⟨a, c, rfl, .inl h⟩
  · refine ⟨_, c, rfl, .inr ⟨b, off, rfl, h1, fun hh => h2 (hb _ h1 hh), fun j hj => ?_⟩⟩
    obtain ⟨u, hu, hn⟩ := h3 j hj
    exact ⟨u, hu, hn.mono hb⟩
theorem WOff.mono {bad bad' : Nat → Prop} {w : World} {v : Value} {ks : List (Int × List Int)} (h : WOff bad w v ks) (hb : ∀ k, k < w.heap.size → bad' k → bad k) : WOff bad' w v ks := by
  obtain ⟨rs, rfl, ⟨a, c, rfl, hc, h0⟩, hd⟩ := h
  refine ⟨rs, rfl, ⟨a, c, rfl, hc, ?_⟩, fun r hr => (hd r hr).mono hb⟩
  rcases h0 with h0 | ⟨b, off, rfl, h1, h2, h3⟩
  · exact .inl h0
  · exact .inr ⟨b, off, rfl, h1, fun hh => h2 (hb _ h1 hh), h3⟩
/-- Blocks that come after a disk are none of its own: it stands clear of them from then on. -/
theorem RDisk.extend {F F' bad : Nat → Prop} {w W : World} {B : Nat} {secs : List (List Int)} {wl : List (Int × List Int)} {l : Int} (h : RDisk F w B secs wl l) (hk : Keep bad w W) (hb : ∀ k, bad k → k < w.heap.size → F k) (hB : ¬ bad B) (h1 : ∀ k, F' k → F k ∨ w.heap.size ≤ k) (h2 : ∀ k, F' k → k < W.heap.size) (hF : F' B) : RDisk F' W B secs wl l := by
  obtain ⟨vs, vl, hh, hl, hw⟩ := h.body
  have hl' : LOff (fun k => bad k ∨ F' k) w vs secs := hl.mono (fun k hlt e => e.elim (fun e => hb k e hlt) (fun e => (h1 k e).elim id (fun e => absurd hlt (by omega))))
  have hw' : WOff (fun k => bad k ∨ F' k) w vl wl := hw.mono (fun k hlt e => e.elim (fun e => hb k e hlt) (fun e => (h1 k e).elim id (fun e => absurd hlt (by omega))))
  exact ⟨⟨vs, vl, hh.keep hk hB, (hl'.keep hk (fun _ e => .inl e)).mono (fun _ _ e => .inr e), (hw'.keep hk (fun _ e => .inl e)).mono (fun _ _ e => .inr e)⟩, hF, h2, h.secs_ok, h.wl_ok, h.many, h.few, h.left0, h.left1⟩
end Go.Proofs.Ythecjhjomkpgkaa.K
