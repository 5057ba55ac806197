/- pdisk.Write. -/
import Derived.Test.YthecjhjomkpgkaaDisk3
import Derived.Test.YthecjhjomkpgkaaApp
import Derived.Outline
namespace Go.Proofs.Ythecjhjomkpgkaa.K
open Go.ChangeShapes Go.WideShapes Go.ChangeAt Go.RowKit
set_option linter.unusedVariables false

/-- b, and noughts. -/
def pad (b : List Int) : List Int := b ++ List.replicate (64 - b.length) 0
theorem pad_ok {b : List Int} (hb : b.length ≤ 64) (h : ∀ x ∈ b, 0 ≤ x ∧ x ≤ 255) : Sec (pad b) := by
  refine ⟨by unfold pad; rw [List.length_append, List.length_replicate]; omega, fun x hx => ?_⟩
  unfold pad at hx
  rcases List.mem_append.1 hx with hx | hx
  · exact h x hx
  · rw [List.eq_of_mem_replicate hx]; omega

def zeroWrite : List Value := .int .i64 0 :: (B8 zeros ++ B8 zeros)
theorem built_write (parts : List (Nat × Value)) : Try.prog.built 103 parts = Instr.fill (fun k => (#[(0, 1), (1, 64), (65, 64)] : Array (Nat × Nat))[k]?) zeroWrite.toArray parts := by kernel_rfl
theorem infoWrite : (Try.prog.info? 103).map (fun i => (i.zero, i.size, i.bytes)) = some (some (.agg zeroWrite.toArray), 129, 136) := by kernel_rfl
theorem zeroWr : (Try.prog.info? 103).bind (·.zero) = some (.agg zeroWrite.toArray) := by kernel_rfl
theorem infoWr : (Try.prog.info? 103).map (·.size) = some 129 := by kernel_rfl
theorem fill_int (place : Nat → Option (Nat × Nat)) (cells : List Value) (i off : Nat) (v : Value) (hv : v.cells = #[v]) (rest : List (Nat × Value)) (hp : place i = some (off, 1)) (hf : off < cells.length) :
    Instr.fill place cells.toArray ((i, v) :: rest) = Instr.fill place (cells.set off v).toArray rest := by
  have n1 : ¬ cells.length < off + 1 := by omega
  rw [Instr.fill, hp, hv]
  simp [n1]
theorem write_cells (i : Nat) (s : List Int) (hs : s.length = 64) : Try.prog.built 103 [(0, .int .i64 i), (1, .agg (B8 s).toArray)] = some (Un.cells ⟨i, s, zeros⟩).toArray := by
  rw [built_write, fill_int _ _ 0 0 _ rfl _ rfl (by simp [zeroWrite]), fill_agg _ _ 1 1 (B8 s) [] (by rw [B8_len, hs]; rfl) (by simp [zeroWrite, hs, zeros]), Instr.fill, B8_len, hs]
  simp only [zeroWrite, List.set_cons_zero, List.take_succ_cons, List.take_zero, Un.cells, List.drop_succ_cons]
  have : (B8 zeros ++ B8 zeros).drop 64 = B8 zeros := by
    have := List.drop_left (l₁ := B8 zeros) (l₂ := B8 zeros)
    rwa [show (B8 zeros).length = 64 from rfl] at this
  show some ([Value.int .i64 (i : Int)] ++ B8 s ++ (B8 zeros ++ B8 zeros).drop 64).toArray = _
  rw [this]
  rfl
theorem un_copy (i : Nat) (s b : List Int) (hs : s.length = 64) (hb : b.length ≤ 64) : (Un.cells ⟨i, s, zeros⟩).take 65 ++ B8 b ++ (Un.cells ⟨i, s, zeros⟩).drop (65 + b.length) = Un.cells ⟨i, s, pad b⟩ := by
  have h1 : (Un.cells ⟨i, s, zeros⟩) = (Value.int .i64 i :: B8 s) ++ B8 zeros := rfl
  have hl : (Value.int .i64 i :: B8 s).length = 65 := by rw [List.length_cons, B8_len, hs]
  rw [h1, ← hl, List.take_left, List.drop_length_add_append]
  have h2 : (B8 zeros).drop b.length = B8 (List.replicate (64 - b.length) 0) := by
    rw [← B8_drop]; unfold zeros; rw [List.drop_replicate]
  rw [h2]
  unfold Un.cells pad
  rw [B8_append]
  simp

set_option maxRecDepth 100000 in
set_option maxHeartbeats 1000000 in
theorem write_live {w : World} {B S : Nat} {vu : Value} {secs : List (List Int)} {uns : List Un} {l : Int} (h : IsDisk w B S vu secs uns l) (i : Nat) (hi : i < secs.length) (u : Value) (b : List Int)
    (hu : NumsOff (Mine B S vu) w u b) (hb : b.length ≤ 64) (hby : ∀ x ∈ b, 0 ≤ x ∧ x ≤ 255) (hl : (l != 0) = true) (hn : uns.length ≤ 1000000000) :
    Calls Try.prog 53 #[.pointer (some ⟨B, 0, none⟩), .int .i64 i, u] w fun e w' => e = .returned (.int .i64 0) ∧ ∃ vu', IsDisk w' B S vu' (secs.set i (pad b)) (uns ++ [⟨i, secs.getD i [], pad b⟩]) (less l) ∧ Keep (Mine B S vu) w w' ∧ (vu'.ownBlock = vu.ownBlock ∨ ∀ k, vu'.ownBlock = some k → w.heap.size ≤ k) := by
  have hs := sec_get h.secs_ok hi
  have hm := h.many
  have hi0 : (0 : Int) ≤ i := by omega
  have hi1 : (i : Int) < secs.length := by omega
  have hb1 : ¬ (64 : Int) < b.length := by omega
  obtain ⟨p, c, rfl, hp⟩ := id hu
  have HU0 := Lib.hid hu
  have HS := Lib.hid hs
  have HB := Lib.hid hb
  have HBY := Lib.hid hby
  have HH := Lib.hid h
  clear hs hb hby hp hu
  have HL := Lib.hid hl
  clear hl
  go_enter Try.func53, Try.ntmps53
  go_wp2_with fail
  refine (diskhas_any B _ secs.length secs.length vu l i w HH.out.head).mono ?_
  rintro e w' ⟨rfl, rfl⟩
  go_wp2_with fail
  refine (spend_disk HH.out).mono ?_
  rintro e w1 ⟨rfl, h1, hk1⟩
  rw [HL.out]
  have hr := h1.range hi
  have HR := Lib.hid hr
  clear hr
  generalize hsi : secs.getD i [] = s at HR HS
  have HSI := Lib.hid hsi
  clear hsi
  have hi9 : (Try.prog.info? 101).map (·.size) = some (B8 s).length := by rw [B8_len, HS.out.1]; exact infoSec
  have HI := Lib.hid hi9
  clear hi9
  have h10 := h1.head.1
  have H1 := Lib.hid h1
  have HK1 := Lib.hid hk1
  clear h1 hk1
  have hBW : B < w1.heap.size := H1.out.head.lt
  have hSW : S < w1.heap.size := H1.out.sec.lt
  have nu1 : IsNums .u8 w1 (.slice p b.length c) b := (HU0.out.keep HK1.out (fun k e => .inl e)).nums
  have NU1 := Lib.hid nu1
  clear nu1
  have hnew : (Un.cells ⟨i, s, zeros⟩).length = 129 := by unfold Un.cells; rw [List.length_cons, List.length_append, B8_len, B8_len, HS.out.1]; rfl
  have hnewi : (Try.prog.info? 103).map (·.size) = some (Un.cells ⟨i, s, zeros⟩).length := by rw [hnew]; exact infoWr
  have hwc := write_cells i s HS.out.1
  have HWC := Lib.hid hwc
  clear hwc
  have HN := Lib.hid hnew
  have HNI := Lib.hid hnewi
  clear hnew hnewi
  go_wp2_with (first | ((with_reducible refine wpList_loadM (.tmp 24) S (i * 64) (B8 s) _ HR.out Try.underlying101 rfl ?_ ?_ ?_); exact HI.out; exact rfl) | ((with_reducible refine wpList_buildM _ (Un.cells ⟨i, s, zeros⟩) _ HWC.out ?_ ?_); exact rfl) | ((with_reducible refine wpList_allocM zeroWrite ?_ ?_); exact zeroWr) | ((with_reducible refine wpList_storeN (.tmp 7) (.tmp 26) (Un.cells ⟨i, s, zeros⟩) (Un.cells_one _) ?_ ?_ ?_ ?_ ?_); exact HNI.out; exact rfl; exact rfl; exact HN.out; intro w2 hb2 hbl2 hz2; have HZ2 := Lib.hid hz2; have HB2 := Lib.hid hb2; have HBL2 := Lib.hid hbl2; clear hz2 hb2 hbl2; have nu2 := NU1.out.below HBL2.out (Nat.le_refl _); have NU2 := Lib.hid nu2; clear nu2) | ((with_reducible refine wpList_copyB HB2.out _ _ _ _ 65 64 64 _ b NU2.out HB.out ?_ 5 Try.underlying25 ?_ ?_ ?_ ?_); have := HB.out; rw [HN.out]; omega; kernel_rfl; exact rfl; exact rfl; intro w3 hb3 hk3; rw [un_copy i s b HS.out.1 HB.out] at hb3; have HB3 := Lib.hid hb3; have HK3 := Lib.hid (hk3 (fun k => k = w1.heap.size) rfl); clear hb3 hk3))
  try simp only [Act.put, List.setIfInBounds_toArray, List.set_cons_zero, List.set_cons_succ]
  have hd3 : IsDisk w3 B S vu secs uns (less l) := (H1.out.later HBL2.out).keep HK3.out (fun k hk e => by have := H1.out.mine_lt k hk; omega)
  have hpad : Sec (pad b) := pad_ok HB.out HBY.out
  have HPAD := Lib.hid hpad
  clear hpad
  have hpl : (pad b).length = 64 := HPAD.out.1
  have hl10 : (Un.cells ⟨i, s, pad b⟩).length = 129 := by unfold Un.cells; rw [List.length_cons, List.length_append, B8_len, B8_len, HS.out.1, hpl]
  have HL10 := Lib.hid hl10
  clear hl10
  have hi9 : (Try.prog.info? 101).map (·.size) = some (B8 (pad b)).length := by rw [B8_len, hpl]; exact infoSec
  have HI9 := Lib.hid hi9
  clear hi9
  have hf9 : i * 64 + (B8 (pad b)).length ≤ (flat secs).length := by
    have := parts_len B8 64 secs (fun s hs => by rw [B8_len]; exact (H1.out.secs_ok s hs).1)
    unfold flat
    rw [this, B8_len, hpl]
    have : (i + 1) * 64 ≤ secs.length * 64 := Nat.mul_le_mul_right _ hi
    omega
  have HF9 := Lib.hid hf9
  clear hf9
  have hi10 : (Try.prog.info? 103).map (·.size) = some (Un.cells ⟨i, s, pad b⟩).length := by rw [HL10.out]; exact infoWr
  have HI10 := Lib.hid hi10
  clear hi10
  have hi11 : (Try.prog.info? 103).map (fun i => (i.zero, i.size, i.bytes)) = some (some (.agg zeroWrite.toArray), (Un.cells ⟨i, s, pad b⟩).length, 136) := by rw [HL10.out]; exact infoWrite
  have HI11 := Lib.hid hi11
  clear hi11
  have hr9 : ∀ W, Keep (fun _ => False) w3.drew W → W.rangeAt w1.heap.size 65 (B8 (pad b)) := fun W hW => by
    have hb : Blk W w1.heap.size 103 (Un.cells ⟨i, s, pad b⟩) := Blk.keep (w := w3.drew) HB3.out hW (fun h => h)
    refine hb.range 65 _ (fun j hj => ?_)
    rw [show 65 + j = (64 + j) + 1 by omega]
    show (B8 s ++ B8 (pad b))[64 + j]? = _
    rw [List.getElem?_append_right (by rw [B8_len, HS.out.1]; omega), B8_len, HS.out.1, Nat.add_sub_cancel_left]
  have HR9 := Lib.hid hr9
  clear hr9 hpl
  have HD3 : Hid (IsDisk w3.drew B S vu secs uns (less l)) := Lib.hid (hd3.keep (Keep.drew (fun _ => False) w3) (fun _ _ h => h))
  have hk3 : Keep (fun k => k = B) w w3.drew := (((HK1.out.trans' (Keep.ofBelow (bad := fun _ => False) HBL2.out) (fun _ _ h => h.elim)).trans' HK3.out (fun k hk e => by have := HK1.out.size; omega))).trans (Keep.drew _ _)
  have HKK := Lib.hid hk3
  have hz3 : w1.heap.size < w3.heap.size := HB3.out.lt
  clear hd3 hk3
  refine regionE_begin 8 (fun W => Keep (fun _ => False) w3.drew W) (by kernel_rfl) ?_
  refine stepE_any 0 (some 31) (v := ?va0) (fun _ => Keep.refl _ _) rfl (by rfl) (by kernel_rfl) (by kernel_rfl) (by kernel_rfl) (by decide) (fun _ _ _ h => h) (by rfl) ?ya0 ?na0
  case ya0 => intro W; go_simp; try with_reducible rfl
  try simp only [Act.put, List.setIfInBounds_toArray, List.set_cons_zero, List.set_cons_succ]
  refine stepE_any 1 (some 32) (v := ?va1) (fun _ => Keep.refl _ _) rfl (by rfl) (by kernel_rfl) (by kernel_rfl) (by kernel_rfl) (by decide) (fun _ _ _ h => h) (by rfl) ?ya1 ?na1
  case ya1 => intro W; go_simp; try with_reducible rfl
  try simp only [Act.put, List.setIfInBounds_toArray, List.set_cons_zero, List.set_cons_succ]
  refine stepE_any 2 (some 33) (v := ?va2) (fun _ => Keep.refl _ _) rfl (by rfl) (by kernel_rfl) (by kernel_rfl) (by kernel_rfl) (by decide) (fun _ _ _ h => h) (by rfl) ?ya2 ?na2
  case ya2 => intro W; go_simp; try with_reducible rfl
  try simp only [Act.put, List.setIfInBounds_toArray, List.set_cons_zero, List.set_cons_succ]
  refine stepE_read 3 12 (some 34) (v := ?va3) (Keep.refl _ _) rfl (by rfl) (by kernel_rfl) (by kernel_rfl) (by kernel_rfl) (by kernel_rfl) (by kernel_rfl) (fun _ _ _ h => h) (by rfl) ?ya3 ?na3
  case ya3 => intro W hW; have q := (HD3.out.head.keep hW (fun h => h)).1; go_simp; try with_reducible rfl
  try simp only [Act.put, List.setIfInBounds_toArray, List.set_cons_zero, List.set_cons_succ]
  refine stepE_any 4 (some 35) (v := ?va4) (fun _ => Keep.refl _ _) rfl (by rfl) (by kernel_rfl) (by kernel_rfl) (by kernel_rfl) (by decide) (fun _ _ _ h => h) (by rfl) ?ya4 ?na4
  case ya4 => intro W; go_simp; try with_reducible rfl
  try simp only [Act.put, List.setIfInBounds_toArray, List.set_cons_zero, List.set_cons_succ]
  refine stepE_any 5 (some 36) (v := ?va5) (fun _ => Keep.refl _ _) rfl (by rfl) (by kernel_rfl) (by kernel_rfl) (by kernel_rfl) (by decide) (fun _ _ _ h => h) (by rfl) ?ya5 ?na5
  case ya5 => intro W; go_simp; try with_reducible rfl
  try simp only [Act.put, List.setIfInBounds_toArray, List.set_cons_zero, List.set_cons_succ]
  refine stepE_read 6 12 (some 37) (v := ?va6) (Keep.refl _ _) rfl (by rfl) (by kernel_rfl) (by kernel_rfl) (by kernel_rfl) (by kernel_rfl) (by kernel_rfl) (fun _ _ _ h => h) (by rfl) ?ya6 ?na6
  case ya6 => intro W hW; ((refine exec_load 101 (.tmp 36) ?_ w1.heap.size 65 ?_ (B8 (pad b)) _ (HR9.out W hW) Try.underlying101 rfl HI9.out); rfl; rfl)
  try simp only [Act.put, List.setIfInBounds_toArray, List.set_cons_zero, List.set_cons_succ]
  refine stepE_any 7 (some 38) (v := ?va7) (fun _ => Keep.refl _ _) rfl (by rfl) (by kernel_rfl) (by kernel_rfl) (by kernel_rfl) (by decide) (fun _ _ _ h => h) (by rfl) ?ya7 ?na7
  case ya7 => intro W; go_simp; try with_reducible rfl
  try simp only [Act.put, List.setIfInBounds_toArray, List.set_cons_zero, List.set_cons_succ]
  -- 8: store -> None
  refine stepE_end 8 rfl (by kernel_rfl) (by rfl) (by rfl) (fun K' hK => ?_)
  refine wp_store_blk HD3.out.sec 101 (.tmp 38) (.tmp 37) rfl (i * 64) (B8 (pad b)) (by rfl) (by rfl) HF9.out HI9.out (B8_one _) (fun w4 hb4 hk4 => hK _ _ ?_)
  clear hK K'
  try simp only [Act.put, List.setIfInBounds_toArray, List.set_cons_zero, List.set_cons_succ]
  refine wpAnyE_done (by kernel_rfl) ?_ _
  try simp only [Act.put, List.setIfInBounds_toArray, List.set_cons_zero, List.set_cons_succ]
  have hk4' : Keep (fun k => k = S) w3.drew w4 := hk4 _ rfl
  have hd4 : IsDisk w3.drew B S vu secs uns (less l) := HD3.out
  have hb4' : Blk w4 S 101 (flat (secs.set i (pad b))) := by
    have e := flat_head secs i (pad b) s 64 (fun s hs => (HD3.out.secs_ok s hs).1) (by rw [HPAD.out.1]; omega) hi HSI.out
    rw [HPAD.out.1] at e
    rw [B8_len, HPAD.out.1, e] at hb4
    have e2 : pad b ++ List.drop 64 s = pad b := by rw [List.drop_of_length_le (by rw [HS.out.1]; omega), List.append_nil]
    rw [e2] at hb4
    exact hb4
  have hSB := hd4.lt
  have hap := hd4.apart
  have hh4 : Head w4.drew B (.slice (some ⟨S, 0, none⟩) secs.length secs.length) vu (less l) := (hd4.head.keep hk4' (by omega)).keep (Keep.drew (fun _ => False) w4) (fun h => h)
  have HD4 := Lib.hid hh4
  have hrw : (w4.drew.alloc (.cells (Un.cells ⟨i, s, pad b⟩).toArray 103)).ownsRow (B + 1) 103 129 vu uns.length (uns.flatMap Un.cells) :=
    ownsRow_keep (ownsRow_keep (ownsRow_keep hd4.row hk4' (fun k e1 e2 => hap.2 (by rw [e1, e2]))) (Keep.drew (fun _ => False) w4) (fun _ _ h => h)) (Keep.alloc (fun _ => False) _ _) (fun _ _ h => h)
  have HRW := Lib.hid hrw
  have hcw : ∀ j u, (Un.cells ⟨i, s, pad b⟩)[j]? = some u → (w4.drew.alloc (.cells (Un.cells ⟨i, s, pad b⟩).toArray 103)).cell? ((⟨w4.drew.heap.size, 0, none⟩ : Addr).add j) = some u := fun j u hj => by
    rw [Addr.add_lit, Nat.zero_add, (Blk.alloc w4.drew 103 (Un.cells ⟨i, s, pad b⟩).toArray).cell]
    simpa using hj
  have HCW := Lib.hid hcw
  have hb410 : Blk w4 w1.heap.size 103 (Un.cells ⟨i, s, pad b⟩) := Blk.keep (w := w3.drew) HB3.out hk4' (fun e => by omega)
  have hr10 : ∀ W, Keep (fun _ => False) w4.drew W → W.rangeAt w1.heap.size 0 (Un.cells ⟨i, s, pad b⟩) := fun W hW => by
    have hb : Blk W w1.heap.size 103 (Un.cells ⟨i, s, pad b⟩) := Blk.keep (w := w4.drew) hb410 hW (fun h => h)
    exact hb.range 0 _ (fun j hj => by rw [Nat.zero_add])
  have HR10 := Lib.hid hr10
  have hbz : B + 1 ≤ w4.heap.size := by have := hk4'.size; have h2 : w3.drew.heap.size = w3.heap.size := rfl; omega
  have HBZ := Lib.hid hbz
  have hh6 : ∀ w6, (w4.drew.alloc (.cells (Un.cells ⟨i, s, pad b⟩).toArray 103)).grownBy w6 vu.ownBlock → Head w6 B (.slice (some ⟨S, 0, none⟩) secs.length secs.length) vu (less l) := fun w6 hg => by
    refine (hh4.keep (Keep.alloc (fun _ => False) _ _) (fun h => h)).keep (bad := fun k => vu.ownBlock = some k) ⟨hg.os, hg.tape, hg.output, hg.size, fun k hk hn => hg.block k hk (fun e => hn e.symm)⟩ hap.1
  have HH6 := Lib.hid hh6
  have HB4 := Lib.hid hb4'
  have HK4 := Lib.hid hk4'
  have HAP := Lib.hid hap
  clear hh6 hbz hr10 hb410 hcw hrw hh4 hd4 hb4 hb4' hk4 hk4' hap
  go_wp2_with fail
  refine regionE_begin 7 (fun W => Keep (fun _ => False) w4.drew W) (by kernel_rfl) ?_
  refine stepE_any 0 (some 39) (v := ?vb0) (fun _ => Keep.refl _ _) rfl (by rfl) (by kernel_rfl) (by kernel_rfl) (by kernel_rfl) (by decide) (fun _ _ _ h => h) (by rfl) ?yb0 ?nb0
  case yb0 => intro W; go_simp; try with_reducible rfl
  try simp only [Act.put, List.setIfInBounds_toArray, List.set_cons_zero, List.set_cons_succ]
  refine stepE_any 1 (some 40) (v := ?vb1) (fun _ => Keep.refl _ _) rfl (by rfl) (by kernel_rfl) (by kernel_rfl) (by kernel_rfl) (by decide) (fun _ _ _ h => h) (by rfl) ?yb1 ?nb1
  case yb1 => intro W; go_simp; try with_reducible rfl
  try simp only [Act.put, List.setIfInBounds_toArray, List.set_cons_zero, List.set_cons_succ]
  refine stepE_any 2 (some 41) (v := ?vb2) (fun _ => Keep.refl _ _) rfl (by rfl) (by kernel_rfl) (by kernel_rfl) (by kernel_rfl) (by decide) (fun _ _ _ h => h) (by rfl) ?yb2 ?nb2
  case yb2 => intro W; go_simp; try with_reducible rfl
  try simp only [Act.put, List.setIfInBounds_toArray, List.set_cons_zero, List.set_cons_succ]
  refine stepE_any 3 (some 42) (v := ?vb3) (fun _ => Keep.refl _ _) rfl (by rfl) (by kernel_rfl) (by kernel_rfl) (by kernel_rfl) (by decide) (fun _ _ _ h => h) (by rfl) ?yb3 ?nb3
  case yb3 => intro W; go_simp; try with_reducible rfl
  try simp only [Act.put, List.setIfInBounds_toArray, List.set_cons_zero, List.set_cons_succ]
  refine stepE_read 4 12 (some 43) (v := ?vb4) (Keep.refl _ _) rfl (by rfl) (by kernel_rfl) (by kernel_rfl) (by kernel_rfl) (by kernel_rfl) (by kernel_rfl) (fun _ _ _ h => h) (by rfl) ?yb4 ?nb4
  case yb4 => intro W hW; have q := (HD4.out.keep hW (fun h => h)).2.1; go_simp; try with_reducible rfl
  try simp only [Act.put, List.setIfInBounds_toArray, List.set_cons_zero, List.set_cons_succ]
  refine stepE_read 5 12 (some 44) (v := ?vb5) (Keep.refl _ _) rfl (by rfl) (by kernel_rfl) (by kernel_rfl) (by kernel_rfl) (by kernel_rfl) (by kernel_rfl) (fun _ _ _ h => h) (by rfl) ?yb5 ?nb5
  case yb5 => intro W hW; ((refine exec_load 103 (.tmp 7) ?_ w1.heap.size 0 ?_ (Un.cells ⟨i, s, pad b⟩) _ (HR10.out W hW) Try.underlying103 rfl HI10.out); rfl; rfl)
  try simp only [Act.put, List.setIfInBounds_toArray, List.set_cons_zero, List.set_cons_succ]
  -- 6: buildSlice -> 45
  refine stepE_only 6 rfl (by kernel_rfl) (by rfl) (fun K' hK => ?_)
  refine wp_buildS1 90 103 (.tmp 44) rfl (Un.cells ⟨i, s, pad b⟩) _ 136 Try.underlying90 HI11.out (by rw [HL10.out]; omega) (by rw [HL10.out]; omega) (by rfl) (hK _ _ (Keep.alloc _ _ _) ?_)
  clear hK K'
  try simp only [Act.put, List.setIfInBounds_toArray, List.set_cons_zero, List.set_cons_succ]
  -- 7: builtin:append -> 46
  refine stepE_end 7 rfl (by kernel_rfl) (by rfl) (by rfl) (fun K' hK => ?_)
  refine wp_appW (.tmp 43) (.tmp 45) 90 rfl (B + 1) 103 _ 129 136 Try.underlying90 infoWrite rfl (by omega) vu uns.length (uns.flatMap Un.cells) HRW.out ⟨w4.drew.heap.size, 0, none⟩ 1 1 (Un.cells ⟨i, s, pad b⟩) (by rw [HL10.out]) HCW.out (Un.cells_one _) (by unfold maxLen; omega) (by omega) (by have := HBZ.out; simp; omega) (by rfl) (by rfl) (fun v' w6 hown6 hg6 hv6 => hK _ _ ?_)
  have hh6 := HH6.out w6 hg6
  obtain ⟨p6, c6, rfl⟩ := ownsRow_shape hown6
  obtain ⟨-, h61, -, -, h64, -⟩ := id hh6
  have HH7 := Lib.hid hh6
  have HO6 := Lib.hid hown6
  have HG6 := Lib.hid hg6
  have HV6 := Lib.hid hv6
  clear hh6 hown6 hg6 hv6
  clear hK K'
  try simp only [Act.put, List.setIfInBounds_toArray, List.set_cons_zero, List.set_cons_succ]
  refine stepE_any 8 (some 47) (v := ?vb8) (fun h => (Bool.false_ne_true (h.symm.trans (by rfl))).elim) rfl (by rfl) (by kernel_rfl) (by kernel_rfl) (by kernel_rfl) (by decide) (fun _ _ _ h => h) (by rfl) ?yb8 ?nb8
  case yb8 => intro W; go_simp; try with_reducible rfl
  try simp only [Act.put, List.setIfInBounds_toArray, List.set_cons_zero, List.set_cons_succ]
  refine stepE_any 9 (some 48) (v := ?vb9) (fun h => (Bool.false_ne_true (h.symm.trans (by rfl))).elim) rfl (by rfl) (by kernel_rfl) (by kernel_rfl) (by kernel_rfl) (by decide) (fun _ _ _ h => h) (by rfl) ?yb9 ?nb9
  case yb9 => intro W; go_simp; try with_reducible rfl
  try simp only [Act.put, List.setIfInBounds_toArray, List.set_cons_zero, List.set_cons_succ]
  -- 10: store -> None
  refine stepE_end 10 rfl (by kernel_rfl) (by rfl) (by rfl) (fun K' hK => ?_)
  go_simp
  refine hK _ _ ?_
  clear hK K'
  try simp only [Act.put, List.setIfInBounds_toArray, List.set_cons_zero, List.set_cons_succ]
  refine wpAnyE_done (by kernel_rfl) ?_ _
  go_wp2
  go_ret
  have hg6 := HG6.out
  have k56 : Keep (fun k => vu.ownBlock = some k) w4.drew w6 := (Keep.alloc (fun k => vu.ownBlock = some k) w4.drew (.cells (Un.cells ⟨i, s, pad b⟩).toArray 103)).trans ⟨hg6.os, hg6.tape, hg6.output, hg6.size, fun k hk hn => hg6.block k hk (fun e => hn e.symm)⟩
  have k67 : Keep (fun k => k = B) w6 (w6.setCell ⟨B, 1, none⟩ (.slice p6 (uns.length + 1) c6)) := Keep.setCell (bad := fun k => k = B) rfl _
  have hSB := H1.out.lt
  have hap := HAP.out
  have hsz : w.heap.size ≤ w4.drew.heap.size := Nat.le_trans HKK.out.size HK4.out.size
  have hsi : secs.getD i [] = s := HSI.out
  rw [hsi]
  refine ⟨rfl, _, ⟨by rw [List.length_set]; exact HH7.out.setUns _, ?_, ?_, H1.out.lt, ?_, ?_, by rw [List.length_set]; exact hm, H1.out.left0, H1.out.left1⟩, ?_, ?_⟩
  · exact ((Blk.keep (w := w4.drew) HB4.out k56 hap.2).keep k67 (by omega))
  · have h6 := HO6.out
    rw [show (uns ++ [(⟨i, s, pad b⟩ : Un)]).length = uns.length + 1 by simp, show (uns ++ [(⟨i, s, pad b⟩ : Un)]).flatMap Un.cells = uns.flatMap Un.cells ++ Un.cells ⟨i, s, pad b⟩ by simp]
    exact ownsRow_setCell_below h6 (Nat.lt_succ_self B) _
  · intro x hx
    rcases List.mem_or_eq_of_mem_set hx with hx | rfl
    · exact H1.out.secs_ok x hx
    · exact HPAD.out
  · intro x hx
    rw [List.length_set]
    rcases List.mem_append.1 hx with hx | hx
    · exact H1.out.uns_ok x hx
    · obtain rfl : x = ⟨i, s, pad b⟩ := by simpa using hx
      exact ⟨hi, HS.out, HPAD.out⟩
  · refine (((HKK.out.mono (fun k e => .inl e)).trans' (HK4.out.trans (Keep.drew _ _)) (fun k _ e => .inr (.inl e))).trans' k56 (fun k _ e => .inr (.inr e))).trans' k67 (fun k _ e => .inl e)
  · rcases HV6.out with e | e
    · exact .inl e
    · right
      intro k hk
      rw [e] at hk
      injection hk with hk
      have h2 : (w4.drew.alloc (.cells (Un.cells ⟨i, s, pad b⟩).toArray 103)).heap.size = w4.drew.heap.size + 1 := by simp
      omega
end Go.Proofs.Ythecjhjomkpgkaa.K
