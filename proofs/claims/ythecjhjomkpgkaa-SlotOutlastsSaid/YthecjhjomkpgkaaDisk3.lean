/- pdisk.New, pdisk.Read. -/
import Derived.Test.YthecjhjomkpgkaaDisk2
import Derived.Outline
namespace Go.Proofs.Ythecjhjomkpgkaa.K
open Go.ChangeShapes Go.WideShapes Go.ChangeAt Go.RowKit
set_option linter.unusedVariables false

theorem madeCells_zeros (m k : Nat) (hm : 0 < m) : (madeCells (Array.replicate m (Value.int .u8 0)) k).toList = List.replicate k (Value.int .u8 0) := by
  unfold madeCells
  apply List.ext_getElem
  · simp
  · intro i h1 h2
    simp at h1
    have : i % m < m := Nat.mod_lt _ hm
    simp [this]
theorem flat_zeros (n : Nat) : flat (List.replicate n zeros) = List.replicate (n * 64) (Value.int .u8 0) := by
  unfold flat zeros
  induction n with
  | zero => rfl
  | succ n ih =>
    rw [List.replicate_succ, List.flatMap_cons, ih, B8_zeros, Nat.add_mul, Nat.one_mul, Nat.add_comm, ← List.replicate_append_replicate]

theorem Head.ofBlk {w : World} {B : Nat} {e : TypeId} {vs vu : Value} {l : Int} (h : Blk w B e [vs, vu, .int .i64 l]) : Head w B vs vu l :=
  ⟨by rw [h.cell]; rfl, by rw [h.cell]; rfl, by rw [h.cell]; rfl, h.free 0, h.free 1, h.free 2⟩
theorem infoSector : (Try.prog.info? 101).map (fun i => (i.zero, i.size, i.bytes)) = some (some (.agg (Array.replicate 64 (.int .u8 0))), 64, 64) := by kernel_rfl

theorem new_disk (n : Nat) (w : World) (hn : n ≤ 1048576) :
    Calls Try.prog 15 #[.int .i64 n] w fun e w' => ∃ B S, e = .returned (.pointer (some ⟨B, 0, none⟩)) ∧ w.heap.size ≤ S ∧ IsDisk w' B S (.slice none 0 0) (List.replicate n zeros) [] (-1) ∧ Below w.heap.size w w' := by
  obtain ⟨i0, hi, hz0, hz1, hz2⟩ := info_parts infoSector
  have hr := run_make (P := Try.prog) w 89 101 i0 _ Try.underlying89 hi hz0 .i64 .i64 n n (by omega) (by omega) (by rw [hz2]; omega) (by omega)
  rw [hz1, Int.toNat_natCast] at hr
  have hc : (madeCells (Value.agg (Array.replicate 64 (.int .u8 0))).cells (n * 64)) = (flat (List.replicate n zeros)).toArray := by
    apply Array.ext'
    rw [show (Value.agg (Array.replicate 64 (.int .u8 0))).cells = Array.replicate 64 (.int .u8 0) from rfl, madeCells_zeros _ _ (by omega), flat_zeros]
  rw [hc] at hr
  have hblk := Blk.alloc w 101 (flat (List.replicate n zeros)).toArray
  generalize hW : w.alloc (.cells (flat (List.replicate n zeros)).toArray 101) = W at hr hblk
  have hbel : Below w.heap.size w W := by rw [← hW]; exact (Below.refl _ _).alloc (Nat.le_refl _) _
  have hz : W.heap.size = w.heap.size + 1 := by rw [← hW]; simp
  clear hW hc hi hz0 hz1 hz2
  have HB := Lib.hid hbel
  have HZ := Lib.hid hz
  have HK := Lib.hid hblk
  clear hbel hz hblk
  have h0 : (0 : Int) ≤ n := by omega
  have h1 : (n : Int) ≤ 1048576 := by omega
  go_enter Try.func15, Try.ntmps15
  go_wp2
  go_ret
  refine ⟨_, rfl, _, Nat.le_refl _, ⟨?_, ?_, World.ownsRow_nil _ _ _ _, by rw [HZ.out]; omega, ?_, by simp, by simpa using hn, by omega, by omega⟩, HB.out.alloc (by rw [HZ.out]; omega) _⟩
  · rw [List.length_replicate]
    exact Head.ofBlk (Blk.alloc _ _ _)
  · exact HK.out.keep (Keep.alloc (fun _ => False) _ _) (fun h => h)
  · intro s hs
    rw [List.eq_of_mem_replicate hs]
    exact Sec.zeros

theorem infoSec : (Try.prog.info? 101).map (·.size) = some 64 := by kernel_rfl
theorem sec_get {secs : List (List Int)} (h : ∀ s ∈ secs, Sec s) {i : Nat} (hi : i < secs.length) : Sec (secs.getD i []) := by
  have : secs.getD i [] = secs[i] := by simp [List.getD, hi]
  rw [this]; exact h _ (List.getElem_mem hi)
theorem IsDisk.range {w : World} {B S : Nat} {vu : Value} {secs : List (List Int)} {uns : List Un} {l : Int} (h : IsDisk w B S vu secs uns l) {i : Nat} (hi : i < secs.length) : w.rangeAt S (i * 64) (B8 (secs.getD i [])) :=
  h.sec.range (i * 64) _ (fun j hj => parts_at B8 64 secs i j [] (fun s hs => by rw [B8_len]; exact (h.secs_ok s hs).1) hi (by rw [B8_len, (sec_get h.secs_ok hi).1] at hj; exact hj))

set_option maxRecDepth 100000 in
theorem read_disk {w : World} {B S : Nat} {vu : Value} {secs : List (List Int)} {uns : List Un} {l : Int} (h : IsDisk w B S vu secs uns l) (i : Nat) (hi : i < secs.length) :
    Calls Try.prog 59 #[.pointer (some ⟨B, 0, none⟩), .int .i64 i] w fun e w' => ∃ u, e = .returned u ∧ w'.ownsRow w.heap.size 5 1 u 64 (B8 (secs.getD i [])) ∧ Below w.heap.size w w' := by
  have hr := h.range hi
  have hs := sec_get h.secs_ok hi
  have hm := h.many
  obtain ⟨h0, h1, h2, h3, h4, h5⟩ := id h.head
  have HR := Lib.hid hr
  have hi0 : (0 : Int) ≤ i := by omega
  have hi1 : (i : Int) < secs.length := by omega
  generalize secs.getD i [] = s at HR hs
  clear hr
  have hlen : (B8 s).length = 64 := by rw [B8_len]; exact hs.1
  have hi9 : (Try.prog.info? 101).map (·.size) = some (B8 s).length := by rw [hlen]; exact infoSec
  have HL := Lib.hid hlen
  have HI := Lib.hid hi9
  clear hi9
  have HS := Lib.hid hs
  clear hlen hs
  go_enter Try.func59, Try.ntmps59
  go_wp2_with fail
  refine (diskhas_any B _ secs.length secs.length vu l i w h.head).mono ?_
  rintro e w' ⟨rfl, rfl⟩
  clear h1
  go_wp2_with (first | ((with_reducible refine wpList_loadM (.tmp 15) S (i * 64) (B8 s) _ HR.out Try.underlying101 rfl ?_ ?_ ?_); exact HI.out; exact rfl) | ((with_reducible refine wpList_storeN (.tmp 5) (.tmp 16) (B8 s) (B8_one s) ?_ ?_ ?_ ?_ ?_); exact HI.out; exact rfl; exact rfl; exact HL.out; intro w1 hb1 hbl1 hz1; have HZ1 := Lib.hid hz1; clear hz1; have hn1 := hb1.nums 0 64 s 64 HS.out.1.symm (fun j hj => by rw [Nat.zero_add]); have HN1 := Lib.hid hn1; clear hn1) | (at_builtin; (refine wpList_appN rfl _ _ 25 rfl w.heap.size 5 .u8 1 Try.underlying25 info_u8 (by omega) _ 0 [] rfl (World.ownsRow_nil _ _ _ _) _ s rfl HN1.out (by rw [HS.out.1]; omega) (by rw [HZ1.out]; omega) ?_); intro v2 w2 hown2 hb2; rw [HS.out.1, Nat.zero_add, List.nil_append] at hown2; have HO := Lib.hid hown2; have HB := Lib.hid (hbl1.trans hb2); clear hown2 hb2))
  go_ret
  exact ⟨_, rfl, HO.out, HB.out⟩
end Go.Proofs.Ythecjhjomkpgkaa.K
