/- pdisk: the calls that do nothing; the statements' known. -/
import Derived.Test.YtnjmlkohgbbafaaDisk6
import Derived.Lib.SlBytesConst
namespace Go.Proofs.Ytnjmlkohgbbafaa.K
open Go.ChangeShapes Go.WideShapes Go.ChangeAt Go.RowKit
set_option linter.unusedVariables false

theorem write_sector {w : World} {B S : Nat} {vu : Value} {secs : List (List Int)} {uns : List Un} {l : Int} (h : IsDisk w B S vu secs uns l) (i : Int) (hi : ¬ (0 ≤ i ∧ i < secs.length)) (u : Value) :
    Calls Try.prog 16 #[.pointer (some ⟨B, 0, none⟩), .int .i64 i, u] w fun e w' => e = .returned (.int .i64 25) ∧ w = w' := by
  go_enter Try.func16, Try.ntmps16
  go_wp2_with fail
  refine (diskhas_any B _ secs.length secs.length vu l i w h.head).mono ?_
  rintro e w' ⟨rfl, rfl⟩
  have hd : decide (0 ≤ i ∧ i < secs.length) = false := by simpa using hi
  rw [hd]
  clear hd hi
  go_wp2
  go_ret
  exact ⟨rfl, rfl⟩
theorem write_long {w : World} {B S : Nat} {vu : Value} {secs : List (List Int)} {uns : List Un} {l : Int} (h : IsDisk w B S vu secs uns l) (i : Nat) (hi : i < secs.length) (p : Option Addr) (n c : Nat) (hn : 64 < n) :
    Calls Try.prog 16 #[.pointer (some ⟨B, 0, none⟩), .int .i64 i, .slice p n c] w fun e w' => e = .returned (.int .i64 22) ∧ w = w' := by
  have hn' : (64 : Int) < n := by omega
  go_enter Try.func16, Try.ntmps16
  go_wp2_with fail
  refine (diskhas_any B _ secs.length secs.length vu l i w h.head).mono ?_
  rintro e w' ⟨rfl, rfl⟩
  have hd : decide ((0 : Int) ≤ i ∧ (i : Int) < secs.length) = true := by simp; omega
  rw [hd]
  clear hd hi
  go_wp2
  go_ret
  exact ⟨rfl, rfl⟩
theorem write_dead {w : World} {B S : Nat} {vu : Value} {secs : List (List Int)} {uns : List Un} (h : IsDisk w B S vu secs uns 0) (i : Nat) (hi : i < secs.length) (p : Option Addr) (n c : Nat) (hn : n ≤ 64) :
    Calls Try.prog 16 #[.pointer (some ⟨B, 0, none⟩), .int .i64 i, .slice p n c] w fun e w' => e = .returned (.int .i64 26) ∧ IsDisk w' B S vu secs uns 0 ∧ Keep (fun k => k = B) w w' := by
  have hn' : ¬ (64 : Int) < n := by omega
  go_enter Try.func16, Try.ntmps16
  go_wp2_with fail
  refine (diskhas_any B _ secs.length secs.length vu 0 i w h.head).mono ?_
  rintro e w' ⟨rfl, rfl⟩
  have hd : decide ((0 : Int) ≤ i ∧ (i : Int) < secs.length) = true := by simp; omega
  rw [hd]
  clear hd hi
  go_wp2_with fail
  refine (spend_disk h).mono ?_
  rintro e w1 ⟨rfl, h1, hk1⟩
  have HH := Lib.hid h1
  have HK := Lib.hid hk1
  clear h1 hk1
  go_wp2
  go_ret
  exact ⟨rfl, HH.out, HK.out⟩
theorem read_none {w : World} {B S : Nat} {vu : Value} {secs : List (List Int)} {uns : List Un} {l : Int} (h : IsDisk w B S vu secs uns l) (i : Int) (hi : ¬ (0 ≤ i ∧ i < secs.length)) :
    Calls Try.prog 19 #[.pointer (some ⟨B, 0, none⟩), .int .i64 i] w fun e w' => e = .returned (.slice none 0 0) ∧ w = w' := by
  go_enter Try.func19, Try.ntmps19
  go_wp2_with fail
  refine (diskhas_any B _ secs.length secs.length vu l i w h.head).mono ?_
  rintro e w' ⟨rfl, rfl⟩
  have hd : decide (0 ≤ i ∧ i < secs.length) = false := by simpa using hi
  rw [hd]
  clear hd hi
  go_wp2
  go_ret
  exact ⟨rfl, rfl⟩
theorem power_disk {w : World} {B S : Nat} {vu : Value} {secs : List (List Int)} {uns : List Un} {l : Int} (h : IsDisk w B S vu secs uns l) (m : Int) (m0 : 0 ≤ m) (m1 : m ≤ 9223372036854775807) :
    Calls Try.prog 21 #[.pointer (some ⟨B, 0, none⟩), .int .i64 m] w fun e w' => e = .returned (.tuple #[]) ∧ IsDisk w' B S vu secs uns m ∧ Keep (fun k => k = B) w w' := by
  refine (power_any B _ _ l m w h.head (by omega) m1).mono ?_
  rintro e w' ⟨rfl, rfl⟩
  rw [show max m (-1) = m by omega]
  exact ⟨rfl, h.setLeft m (by omega) m1⟩
theorem dead_disk {w : World} {B S : Nat} {vu : Value} {secs : List (List Int)} {uns : List Un} {l : Int} (h : IsDisk w B S vu secs uns l) :
    Calls Try.prog 20 #[.pointer (some ⟨B, 0, none⟩)] w fun e w' => e = .returned (.bool (l == 0)) ∧ w = w' := dead_any B _ _ l w h.head
theorem keepB_below {N : Nat} {w W : World} {B S : Nat} {vu : Value} {secs : List (List Int)} {uns : List Un} {l : Int} (h : IsDisk w B S vu secs uns l) (hk : Keep (fun k => k = B) w W) (hB : N ≤ S) : Below N w W :=
  h.below (hk.mono (fun k e => .inl e)) hB (by have := h.sec.lt; omega)

theorem NumsOff.litF {bad : Nat → Prop} (w : World) (zs : List Int) (N : Nat) (e : TypeId) (fr : Nat × Nat) (n c : Nat) (hN : N = w.heap.size) (hn : n = zs.length) (hb : ¬ bad N) : NumsOff bad (w.alloc (.cells (zs.map (Value.int .u8)).toArray e fr)) (.slice (some ⟨N, 0, none⟩) n c) zs := by
  subst hN; subst hn
  refine ⟨_, c, rfl, .inr ⟨_, 0, rfl, by simp, hb, fun j hj => ?_⟩⟩
  unfold World.cell? World.alloc
  simp [hj, List.getD]
theorem IsDisk.fresh {w : World} {B S : Nat} {vu : Value} {secs : List (List Int)} {uns : List Un} {l : Int} (h : IsDisk w B S vu secs uns l) : ¬ Mine B S vu w.heap.size := fun hm => by have := h.mine_lt _ hm; omega
theorem IsDisk.alloc {w : World} {B S : Nat} {vu : Value} {secs : List (List Int)} {uns : List Un} {l : Int} (h : IsDisk w B S vu secs uns l) (o : Obj) : IsDisk (w.alloc o) B S vu secs uns l := h.later ((Below.refl _ _).alloc (Nat.le_refl _) o)
theorem below_alloc {N : Nat} {a w : World} (h : Below N a w) (hN : N ≤ a.heap.size) (o : Obj) : Below N a (w.alloc o) := h.alloc (Nat.le_trans hN h.size) o

theorem known_crash : crashed [pad [120, 121, 122], zeros] [⟨0, pad [97, 98, 99], pad [120, 121, 122]⟩] 1 2 = [pad [120, 121, 99], zeros] := by decide +kernel

set_option maxRecDepth 100000 in
set_option maxHeartbeats 1000000 in
theorem known_any (w : World) : Calls Try.prog 14 #[] w fun e w' => e = .returned (.bool true) ∧ Below w.heap.size w w' := by
  have kc := fun (w : World) (C : Array Value) (n c : Nat) => Lib.run_convert_bytes_const (P := Try.prog) w 27 5 C n c Try.underlying27 Try.underlying5
  go_enter Try.func14, Try.ntmps14
  go_wp2_with fail
  refine (new_disk 2 w (by omega)).mono ?_
  rintro e w1 ⟨B, S, rfl, hS, h1, hb1⟩
  have hz1 := hb1.size
  have h1a := h1.alloc (.cells #[.int .u8 97, .int .u8 98, .int .u8 99] 5 (3, 4))
  have hba : Below w.heap.size w (w1.alloc (.cells #[.int .u8 97, .int .u8 98, .int .u8 99] 5 (3, 4))) := hb1.alloc hz1 _
  have hn1 := NumsOff.litF (bad := Mine B S (.slice none 0 0)) w1 [97, 98, 99] w1.heap.size 5 (3, 4) 3 3 rfl rfl h1.fresh
  have HN1 := Lib.hid hn1
  have HA := Lib.hid hba
  have H1 := Lib.hid h1a
  clear h1 hb1 h1a hba hn1 hz1
  go_wp2_with fail
  refine (write_live H1.out 0 (by simp) _ [97, 98, 99] HN1.out (by simp) (by decide) rfl (by simp)).mono ?_
  rintro e w2 ⟨rfl, vu2, h2, hk2, hv2⟩
  have hb2 : Below w.heap.size w w2 := HA.out.trans (H1.out.below hk2 hS HA.out.size)
  have h2' : IsDisk w2 B S vu2 [pad [97, 98, 99], zeros] [⟨0, zeros, pad [97, 98, 99]⟩] (-1) := h2
  have H2 := Lib.hid h2'
  have HB2 := Lib.hid hb2
  clear h2 hk2 hv2 hb2 h2' HN1 HA H1
  go_wp2_with fail
  refine (flush_live H2.out rfl).mono ?_
  rintro e w3 ⟨rfl, h3, hk3⟩
  have hb3 : Below w.heap.size w w3 := HB2.out.trans (keepB_below H2.out hk3 hS)
  have hz3 := hb3.size
  have h3' : IsDisk w3 B S (.slice none 0 0) [pad [97, 98, 99], zeros] [] (-1) := h3
  have h3a := h3'.alloc (.cells #[.int .u8 120, .int .u8 121, .int .u8 122] 5 (3, 4))
  have hn3 := NumsOff.litF (bad := Mine B S (.slice none 0 0)) w3 [120, 121, 122] w3.heap.size 5 (3, 4) 3 3 rfl rfl h3'.fresh
  have hb3a : Below w.heap.size w (w3.alloc (.cells #[.int .u8 120, .int .u8 121, .int .u8 122] 5 (3, 4))) := hb3.alloc hz3 _
  have HN3 := Lib.hid hn3
  have H3 := Lib.hid h3a
  have HB3 := Lib.hid hb3a
  clear h3 hk3 hb3 hz3 h3' h3a hn3 hb3a H2 HB2
  go_wp2_with fail
  refine (write_live H3.out 0 (by simp) _ [120, 121, 122] HN3.out (by simp) (by decide) rfl (by simp)).mono ?_
  rintro e w4 ⟨rfl, vu4, h4, hk4, hv4⟩
  have hb4 : Below w.heap.size w w4 := HB3.out.trans (H3.out.below hk4 hS HB3.out.size)
  have h4' : IsDisk w4 B S vu4 [pad [120, 121, 122], zeros] [⟨0, pad [97, 98, 99], pad [120, 121, 122]⟩] (-1) := h4
  have H4 := Lib.hid h4'
  have HB4 := Lib.hid hb4
  clear h4 hk4 hv4 hb4 h4' HN3 H3 HB3
  go_wp2_with fail
  refine (crash_any H4.out 1 2 (by omega) (by omega) (by omega) (by omega) (by simp)).mono ?_
  rintro e w5 ⟨rfl, h5, hk5⟩
  have hb5 : Below w.heap.size w w5 := HB4.out.trans (H4.out.below hk5 hS HB4.out.size)
  rw [known_crash] at h5
  have H5 := Lib.hid h5
  have HB5 := Lib.hid hb5
  clear h5 hk5 hb5 H4 HB4
  go_wp2_with fail
  refine (write_sector H5.out 2 (by simp) _).mono ?_
  rintro e w' ⟨rfl, rfl⟩
  go_wp2_with fail
  refine (read_disk H5.out 0 (by simp)).mono ?_
  rintro e w6 ⟨u6, rfl, hown6, hb6⟩
  have h6 := H5.out.later hb6
  have hb6' : Below w.heap.size w w6 := HB5.out.trans (hb6.mono HB5.out.size)
  have hn6 := IsNums.ofOwn (k := .u8) (zs := [120, 121, 99] ++ List.replicate 61 0) (n := 64) (by exact hown6)
  obtain ⟨p6, c6, rfl⟩ := ownsRow_shape hown6
  obtain ⟨b6, rfl, hlt6, hle6, hnum6⟩ : ∃ b, p6 = some ⟨b, 0, none⟩ ∧ b < w6.heap.size ∧ 64 ≤ c6 ∧ w5.heap.size ≤ b := by
    rcases hown6.2 with ⟨_, e0⟩ | ⟨g, cap, cur, e1, hbg, hgg, hle, _⟩
    · simp at e0
    · injection e1 with e1 e2 e3
      exact ⟨g, e1, (Array.getElem?_eq_some_iff.1 hgg).1, by omega, hbg⟩
  have hn7 : IsNums .u8 w6 (.slice (some ⟨b6, 0, none⟩) 3 c6) [120, 121, 99] := by
    obtain ⟨a, c, e1, h0 | ⟨b, off, e2, h7, h8⟩⟩ := hn6
    · simp at h0
    · injection e1 with e1 e3 e4
      subst e1
      injection e2 with e2
      injection e2 with e2 e5
      subst e2 e5
      refine ⟨_, c6, rfl, .inr ⟨_, 0, rfl, h7, fun j hj => ?_⟩⟩
      have := h8 j (by simp at hj ⊢; omega)
      rw [this]
      match j, hj with
      | 0, _ => rfl
      | 1, _ => rfl
      | 2, _ => rfl
  have H6 := Lib.hid h6
  have HB6 := Lib.hid hb6'
  have hB6 : b6 ≠ B := by have := HB5.out.size; have := H5.out.head.lt; omega
  have HN7 := Lib.hid hn7
  clear h6 hb6' hn7 hn6 hb6 hown6 H5 HB5
  have hcI : (64 : Int) ≤ c6 := by omega
  go_wp2_with fail
  refine (power_disk H6.out 1 (by omega) (by omega)).mono ?_
  rintro e w7 ⟨rfl, h7, hk7⟩
  have hb7 := keepB_below H6.out hk7 hS
  have hn7 := HN7.out.keepAt hk7 hB6
  have H7 := Lib.hid h7
  have HB7 := Lib.hid (HB6.out.trans hb7)
  have HN8 := Lib.hid hn7
  clear h7 hk7 hb7 hn7 H6 HB6 HN7
  go_wp2_with fail
  refine (flush_live H7.out rfl).mono ?_
  rintro e w8 ⟨rfl, h8, hk8⟩
  have hb8 := keepB_below H7.out hk8 hS
  have hn8 := HN8.out.keepAt hk8 hB6
  have h8' : IsDisk w8 B S (.slice none 0 0) [pad [120, 121, 99], zeros] [] 0 := h8
  have H8 := Lib.hid h8'
  have HB8 := Lib.hid (HB7.out.trans hb8)
  have HN9 := Lib.hid hn8
  clear h8 hk8 hb8 hn8 h8' H7 HB7 HN8
  go_wp2_with fail
  refine (flush_dead H8.out rfl).mono ?_
  rintro e w9 ⟨rfl, h9, hk9⟩
  have hb9 := keepB_below H8.out hk9 hS
  have hn9 := HN9.out.keepAt hk9 hB6
  have H9 := Lib.hid h9
  have HB9 := Lib.hid (HB8.out.trans hb9)
  have hconv := conv_str (P := Try.prog) hn9 27 5 Try.underlying27 Try.underlying5 9 Try.underlying9
  replace hconv : (convert 27 9 (.slice (some ⟨b6, 0, none⟩) 3 c6)).run Try.prog w9 = .ok (.string ⟨#[120, 121, 99]⟩) w9 := hconv
  clear h9 hk9 hb9 hn9 H8 HB8 HN9
  go_wp2_with (first | (go_at_call 20; ((with_reducible refine (dead_disk H9.out).mono ?_); rintro en w' ⟨rfl, rfl⟩)) | (go_at_call 46; ((with_reducible refine (len_any B _ _ _ _ _ _ H9.out.head).mono ?_); rintro en w' ⟨rfl, rfl⟩)))
  go_ret
  exact ⟨rfl, HB9.out⟩
end Go.Proofs.Ytnjmlkohgbbafaa.K
