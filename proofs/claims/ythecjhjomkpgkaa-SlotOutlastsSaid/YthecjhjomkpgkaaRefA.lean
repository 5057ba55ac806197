/- mementoref3: Write, Flush, Set without power. -/
import Derived.Test.YthecjhjomkpgkaaRef9
namespace Go.Proofs.Ythecjhjomkpgkaa.K
open Go.ChangeShapes Go.WideShapes Go.ChangeAt Go.RowKit
set_option linter.unusedVariables false

def RDeadPost (F : Nat → Prop) (w : World) (B : Nat) (secs : List (List Int)) (wl : List (Int × List Int)) (e : Ending) (w' : World) : Prop := e = .returned (.int .i64 26) ∧ RDisk F w' B secs wl 0 ∧ Keep (fun k => k = B) w w'
theorem RDisk.same {F : Nat → Prop} {w W : World} {B : Nat} {secs : List (List Int)} {wl : List (Int × List Int)} {l : Int} (h : RDisk F w B secs wl l) {vs vl : Value} (h1 : RHead w B vs vl l) (h2 : LOff F w vs secs) (h3 : WOff F w vl wl) {l' : Int} (hr : RHead W B vs vl l') (hk : Keep (fun k => k = B) w W) (l0 : -1 ≤ l') (l1 : l' ≤ 9223372036854775807) : RDisk F W B secs wl l' :=
  ⟨⟨vs, vl, hr, h2.keep hk (fun k e => by rw [e]; exact h.fB), h3.keep hk (fun k e => by rw [e]; exact h.fB)⟩, h.fB, fun k e => Nat.lt_of_lt_of_le (h.fbd k e) hk.size, h.secs_ok, h.wl_ok, h.many, h.few, l0, l1⟩

set_option maxRecDepth 100000 in
theorem rwrite_dead {F : Nat → Prop} {w : World} {B : Nat} {secs : List (List Int)} {wl : List (Int × List Int)} (h : RDisk F w B secs wl 0) (i : Nat) (hi : i < secs.length) (p : Option Addr) (n c : Nat) (hb : n ≤ 64) :
    Calls Try.prog 55 #[.pointer (some ⟨B, 0, none⟩), .int .i64 i, .slice p n c] w (RDeadPost F w B secs wl) := by
  obtain ⟨vs, vl, h1, h2, h3⟩ := h.body
  obtain ⟨aS, cS, rfl, -⟩ := id h2
  have hmany := h.many
  have b0 := h1.cell 0
  have H1 := Lib.hid h1
  have H2 := Lib.hid h2
  have H3 := Lib.hid h3
  have HD := Lib.hid h
  have hiI : (i : Int) < secs.length := by omega
  have hiM : (i : Int) ≤ 1048576 := by omega
  have hi0 : ¬ (i : Int) < 0 := by omega
  have hin : ¬ (secs.length : Int) ≤ i := by omega
  have hb64 : ¬ (64 : Int) < n := by omega
  clear h1 h2 h3 h
  go_enter Try.func55, Try.ntmps55
  go_wp2_with fail
  refine (rspend_any w B _ vl 0 H1.out (by omega) (by omega)).mono ?_
  rintro e w1 ⟨rfl, hr1, hk1⟩
  have R1 := Lib.hid hr1
  have K1 := Lib.hid hk1
  clear hr1 hk1 b0
  rw [show ((0 : Int) != 0) = false from rfl]
  go_wp2
  go_ret
  exact ⟨rfl, HD.out.same H1.out H2.out H3.out R1.out K1.out (by decide) (by decide), K1.out⟩

set_option maxRecDepth 100000 in
theorem rflush_dead {F : Nat → Prop} {w : World} {B : Nat} {secs : List (List Int)} {wl : List (Int × List Int)} (h : RDisk F w B secs wl 0) :
    Calls Try.prog 56 #[.pointer (some ⟨B, 0, none⟩)] w (RDeadPost F w B secs wl) := by
  obtain ⟨vs, vl, h1, h2, h3⟩ := h.body
  have H1 := Lib.hid h1
  have H2 := Lib.hid h2
  have H3 := Lib.hid h3
  have HD := Lib.hid h
  clear h1 h2 h3 h
  go_enter Try.func56, Try.ntmps56
  go_wp2_with fail
  refine (rspend_any w B _ vl 0 H1.out (by omega) (by omega)).mono ?_
  rintro e w1 ⟨rfl, hr1, hk1⟩
  have R1 := Lib.hid hr1
  have K1 := Lib.hid hk1
  clear hr1 hk1
  rw [show ((0 : Int) != 0) = false from rfl]
  go_wp2
  go_ret
  exact ⟨rfl, HD.out.same H1.out H2.out H3.out R1.out K1.out (by decide) (by decide), K1.out⟩
end Go.Proofs.Ythecjhjomkpgkaa.K
