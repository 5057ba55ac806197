/- DiskLast's walk. -/
import Derived.Test.YtnjmlkohgbbafaaDisk7
import Derived.Deep.QuietTactic
import Derived.BigQuiet
namespace Go.Proofs.Ytnjmlkohgbbafaa.K
open Go.ChangeShapes Go.WideShapes Go.ChangeAt Go.RowKit
set_option linter.unusedVariables false

/-- What was written last, to each of five. -/
def lastW (y : List Int) : Nat → List Int
  | 0 => List.replicate 5 0
  | k + 1 => (lastW y k).set ((y.getD k 0).toNat % 5) (y.getD k 0)
theorem lastW_len (y : List Int) : ∀ k, (lastW y k).length = 5
  | 0 => rfl
  | k + 1 => by rw [lastW, List.length_set, lastW_len y k]
def one (b : Int) : List Int := pad [b]
theorem zeros_one : zeros = one 0 := rfl

theorem tmod5 (n : Nat) : (n : Int).tmod 5 = ((n % 5 : Nat) : Int) := by
  rw [Int.tmod_eq_emod_of_nonneg (by omega)]; omega
theorem tmod7 (n : Nat) : (n : Int).tmod 7 = ((n % 7 : Nat) : Int) := by
  rw [Int.tmod_eq_emod_of_nonneg (by omega)]; omega
def LastIs (w : World) (B S A : Nat) (y : List Int) (k : Nat) (wr : World) : Prop :=
  ∃ vu uns, IsDisk wr B S vu ((lastW y k).map one) uns (-1) ∧ uns.length ≤ k ∧ Blk wr A 37 (B8 (lastW y k)) ∧ ¬ Mine B S vu A ∧ Below w.heap.size w wr

set_option maxRecDepth 100000 in
set_option maxHeartbeats 2000000 in
theorem last_walk (a : Option Addr) (len cap : Nat) (y : List Int) (w : World) (hy : IsNums .u8 w (.slice a len cap) y) (hl : y.length = len) (hm : len ≤ maxLen) (hb : ∀ j, j < y.length → 0 ≤ y.getD j 0 ∧ y.getD j 0 ≤ 255) :
    Calls Try.prog 5 #[.slice a len cap] w fun e w' => e = .returned (.bool true) ∧ Below w.heap.size w w' := by
  unfold maxLen at hm
  have HY := Lib.hid hy
  have HBY := Lib.hid hb
  clear hy hb
  by_cases h60 : len ≤ 60
  · have h60I : ¬ (60 : Int) < len := by omega
    go_enter Try.func5, Try.ntmps5
    go_wp2_with fail
    refine (known_any w).mono ?_
    rintro e w1 ⟨rfl, hb1⟩
    have HB1 := Lib.hid hb1
    clear hb1
    go_wp2_with fail
    refine (new_disk 5 w1 (by omega)).mono ?_
    rintro e w2 ⟨B, S, rfl, hS, h2, hb2⟩
    have HB2 := Lib.hid (HB1.out.trans (hb2.mono HB1.out.size))
    have HS := Lib.hid (show w.heap.size ≤ S from Nat.le_trans HB1.out.size hS)
    have H2 := Lib.hid h2
    clear hb2 h2 hS
    obtain ⟨A, hA⟩ : ∃ A, A = w2.heap.size := ⟨_, rfl⟩
    have HAS := Lib.hid hA
    clear hA
    go_wp2
    go_loopw [5] (fun i wr => ∃ k : Nat, k ≤ len ∧ i = .int .i64 k ∧ LastIs w B S w2.heap.size y k wr) (fun i _ => len - (intOf i).toNat)
    case atStart =>
      refine ⟨0, Nat.zero_le _, rfl, .slice none 0 0, [], ?_, Nat.le_refl _, ?_, H2.out.fresh, HB2.out.alloc HB2.out.size _⟩
      · exact H2.out.alloc _
      · exact Blk.alloc w2 37 #[.int .u8 0, .int .u8 0, .int .u8 0, .int .u8 0, .int .u8 0]
    case round =>
      obtain ⟨k, hk, rfl, vu, uns, hd, hun, hbA, hmA, hbel⟩ := hrel
      by_cases hlt : k < len
      · obtain ⟨a', c', e1, h0 | ⟨b, off, e2, hblt, hcell⟩⟩ := id HY.out
        · omega
        injection e1 with e1 e3 e4
        clear e3 e4
        subst e1
        subst e2
        have hbk := HBY.out k (by omega)
        obtain ⟨bn, hbn9⟩ : ∃ bn : Nat, y.getD k 0 = (bn : Int) := ⟨(y.getD k 0).toNat, by omega⟩
        have hcl := hcell k (by omega)
        rw [hbn9] at hcl hbk
        have hst : lastW y (k + 1) = (lastW y k).set (bn % 5) (bn : Int) := by rw [lastW, hbn9]; rfl
        have hwl := lastW_len y k
        obtain ⟨q, hq⟩ : ∃ q, bn % 5 = q := ⟨_, rfl⟩
        rw [hq] at hst
        have hq5 : q < 5 := by omega
        have hq5I : (q : Int) < 5 := by omega
        have hq0I : 0 ≤ (q : Int) := by omega
        have ht5 : (bn : Int).tmod 5 = (q : Int) := by rw [tmod5, hq]
        have HT5 := Lib.hid ht5
        have HQ := Lib.hid hq
        clear ht5 hq
        have HST := Lib.hid hst
        generalize lastW y k = LW at hd hbA hst hwl HST
        have hbn : 0 ≤ (bn : Int) ∧ (bn : Int) ≤ 255 := hbk
        have hbn0 := hbn.1
        have hbn1 := hbn.2
        have hc : ∀ W, Keep (fun _ => False) wr.drew W → W.cell? ⟨b, off + k, none⟩ = some (.int .u8 bn) := fun W hW => by
          rw [hW.cell (fun h => h) (show b < wr.drew.heap.size from Nat.lt_of_lt_of_le hblt hbel.size)]
          show wr.cell? _ = _
          rw [hbel.cell hblt]; exact hcl
        have HC := Lib.hid hc
        have HWL := Lib.hid hwl
        have HD := Lib.hid hd
        have HBA := Lib.hid hbA
        have HMA := Lib.hid hmA
        have HBL := Lib.hid hbel
        clear hc hwl hst hd hbA hmA hbel hcl hcell hbn9 hbk
        go_wp2_with fail
        refine regionE_begin 12 (fun W => Keep (fun _ => False) wr.drew W) (by kernel_rfl) ?_
        refine stepE_any 0 (some 20) (v := ?va0) (fun _ => Keep.refl _ _) rfl (by rfl) (by kernel_rfl) (by kernel_rfl) (by kernel_rfl) (by decide) (fun _ _ _ h => h) (by rfl) ?ya0 ?na0
        case ya0 => intro W; go_simp; try with_reducible rfl
        try simp only [Act.put, List.setIfInBounds_toArray, List.set_cons_zero, List.set_cons_succ]
        refine stepE_any 1 (some 21) (v := ?va1) (fun _ => Keep.refl _ _) rfl (by rfl) (by kernel_rfl) (by kernel_rfl) (by kernel_rfl) (by decide) (fun _ _ _ h => h) (by rfl) ?ya1 ?na1
        case ya1 => intro W; go_simp; try with_reducible rfl
        try simp only [Act.put, List.setIfInBounds_toArray, List.set_cons_zero, List.set_cons_succ]
        refine stepE_any 2 (some 22) (v := ?va2) (fun _ => Keep.refl _ _) rfl (by rfl) (by kernel_rfl) (by kernel_rfl) (by kernel_rfl) (by decide) (fun _ _ _ h => h) (by rfl) ?ya2 ?na2
        case ya2 => intro W; go_simp; try with_reducible rfl
        try simp only [Act.put, List.setIfInBounds_toArray, List.set_cons_zero, List.set_cons_succ]
        refine stepE_any 3 (some 23) (v := ?va3) (fun _ => Keep.refl _ _) rfl (by rfl) (by kernel_rfl) (by kernel_rfl) (by kernel_rfl) (by decide) (fun _ _ _ h => h) (by rfl) ?ya3 ?na3
        case ya3 => intro W; go_simp; try with_reducible rfl
        try simp only [Act.put, List.setIfInBounds_toArray, List.set_cons_zero, List.set_cons_succ]
        refine stepE_read 4 14 (some 24) (v := ?va4) (Keep.refl _ _) rfl (by rfl) (by kernel_rfl) (by kernel_rfl) (by kernel_rfl) (by kernel_rfl) (by kernel_rfl) (fun _ _ _ h => h) (by rfl) ?ya4 ?na4
        case ya4 => intro W hW; have q := HC.out W hW; go_simp; try with_reducible rfl
        try simp only [Act.put, List.setIfInBounds_toArray, List.set_cons_zero, List.set_cons_succ]
        refine stepE_any 5 (some 25) (v := ?va5) (fun _ => Keep.refl _ _) rfl (by rfl) (by kernel_rfl) (by kernel_rfl) (by kernel_rfl) (by decide) (fun _ _ _ h => h) (by rfl) ?ya5 ?na5
        case ya5 => intro W; go_simp; try with_reducible rfl
        try simp only [Act.put, List.setIfInBounds_toArray, List.set_cons_zero, List.set_cons_succ]
        refine stepE_any 6 (some 26) (v := ?va6) (fun _ => Keep.refl _ _) rfl (by rfl) (by kernel_rfl) (by kernel_rfl) (by kernel_rfl) (by decide) (fun _ _ _ h => h) (by rfl) ?ya6 ?na6
        case ya6 => intro W; go_simp; try with_reducible rfl
        try simp only [Act.put, List.setIfInBounds_toArray, List.set_cons_zero, List.set_cons_succ]
        refine stepE_any 7 (some 27) (v := ?va7) (fun _ => Keep.refl _ _) rfl (by rfl) (by kernel_rfl) (by kernel_rfl) (by kernel_rfl) (by decide) (fun _ _ _ h => h) (by rfl) ?ya7 ?na7
        case ya7 => intro W; go_simp; try with_reducible rfl
        try simp only [Act.put, List.setIfInBounds_toArray, List.set_cons_zero, List.set_cons_succ]
        refine stepE_any 8 (some 28) (v := ?va8) (fun _ => Keep.refl _ _) rfl (by rfl) (by kernel_rfl) (by kernel_rfl) (by kernel_rfl) (by decide) (fun _ _ _ h => h) (by rfl) ?ya8 ?na8
        case ya8 => intro W; go_simp; try with_reducible rfl
        try simp only [Act.put, List.setIfInBounds_toArray, List.set_cons_zero, List.set_cons_succ]
        refine stepE_any 9 (some 29) (v := ?va9) (fun _ => Keep.refl _ _) rfl (by rfl) (by kernel_rfl) (by kernel_rfl) (by kernel_rfl) (by decide) (fun _ _ _ h => h) (by rfl) ?ya9 ?na9
        case ya9 => intro W; go_simp; try with_reducible rfl
        try simp only [Act.put, List.setIfInBounds_toArray, List.set_cons_zero, List.set_cons_succ]
        refine stepE_read 10 14 (some 30) (v := ?va10) (Keep.refl _ _) rfl (by rfl) (by kernel_rfl) (by kernel_rfl) (by kernel_rfl) (by kernel_rfl) (by kernel_rfl) (fun _ _ _ h => h) (by rfl) ?ya10 ?na10
        case ya10 => intro W hW; have q := HC.out W hW; go_simp; try with_reducible rfl
        try simp only [Act.put, List.setIfInBounds_toArray, List.set_cons_zero, List.set_cons_succ]
        -- 11: buildSlice -> 31
        refine stepE_only 11 rfl (by kernel_rfl) (by rfl) (fun K' hK => ?_)
        go_simp
        refine hK _ _ (Keep.alloc _ _ _) ?_
        clear hK K'
        try simp only [Act.put, List.setIfInBounds_toArray, List.set_cons_zero, List.set_cons_succ]
        -- 12: call:16 -> 32
        refine stepE_end 12 rfl (by kernel_rfl) (by rfl) (by rfl) (fun K' hK => ?_)
        go_simp
        rw [show IntKind.i64.wrap ((bn : Int).tmod 5) = (q : Int) from by rw [HT5.out]; exact IntWalk.i64_in _ (by omega)]
        have h9 := (HD.out.alloc (.cells #[.int .u8 bn] 5)).keep (Keep.drew (fun _ => False) _) (fun _ _ h => h)
        have hn9 := (NumsOff.litF (bad := Mine B S vu) wr [(bn : Int)] wr.heap.size 5 (0, 0) 1 1 rfl rfl HD.out.fresh).keep (Keep.drew (fun _ => False) _) (fun _ h => h.elim)
        refine (write_live h9 q (by rw [List.length_map, HWL.out]; omega) _ [(bn : Int)] hn9 (by simp) (by simpa using hbn) rfl (by omega)).mono ?_
        rintro e w4 ⟨rfl, vu4, h4, hk4, hv4⟩
        refine hK _ _ ?_
        have HN4 := Lib.hid h4
        have HK4 := Lib.hid hk4
        have HV4 := Lib.hid hv4
        clear h9 hn9 h4 hk4 hv4
        clear hK K'
        try simp only [Act.put, List.setIfInBounds_toArray, List.set_cons_zero, List.set_cons_succ]
        refine wpAnyE_done (by kernel_rfl) ?_ _
        have hkk : Keep (Mine B S vu) wr w4 := ((Keep.alloc (Mine B S vu) wr _).trans (Keep.drew _ _)).trans HK4.out
        have hbel4 : Below w.heap.size w w4 := HBL.out.trans (HD.out.below hkk HS.out HBL.out.size)
        have hblt4 : b < w4.heap.size := Nat.lt_of_lt_of_le hblt hbel4.size
        have hc4 : ∀ W, Keep (fun _ => False) w4.drew W → W.cell? ⟨b, off + k, none⟩ = some (.int .u8 bn) := fun W hW => by
          rw [hW.cell (fun h => h) (show b < w4.drew.heap.size from hblt4)]
          show w4.cell? _ = _
          rw [hbel4.cell hblt, ← HBL.out.cell hblt]
          exact HC.out wr.drew (Keep.refl _ _)
        have HC4 := Lib.hid hc4
        have hA4 : Blk w4.drew w2.heap.size 37 (B8 LW) := (HBA.out.keep hkk HMA.out).keep (Keep.drew (fun _ => False) w4) (fun h => h)
        have ht5 := HT5.out
        have hcA : ∃ v, w4.drew.cell? ⟨w2.heap.size, q, none⟩ = some v := by
          rw [hA4.cell]
          exact ⟨(B8 LW)[q]'(by rw [B8_len, HWL.out]; omega), List.getElem?_eq_getElem _⟩
        obtain ⟨vA, hvA⟩ := hcA
        have HCA := Lib.hid hvA
        have HFA := Lib.hid (hA4.free q)
        have HA4 := Lib.hid hA4
        have HB4 := Lib.hid hbel4
        have HKK := Lib.hid hkk
        clear hc4 hA4 hvA hbel4 hkk
        go_wp2_with fail
        refine regionE_begin 10 (fun W => Keep (fun _ => False) w4.drew W) (by kernel_rfl) ?_
        refine stepE_any 0 (some 33) (v := ?vb0) (fun _ => Keep.refl _ _) rfl (by rfl) (by kernel_rfl) (by kernel_rfl) (by kernel_rfl) (by decide) (fun _ _ _ h => h) (by rfl) ?yb0 ?nb0
        case yb0 => intro W; go_simp; try with_reducible rfl
        try simp only [Act.put, List.setIfInBounds_toArray, List.set_cons_zero, List.set_cons_succ]
        refine stepE_any 1 (some 34) (v := ?vb1) (fun _ => Keep.refl _ _) rfl (by rfl) (by kernel_rfl) (by kernel_rfl) (by kernel_rfl) (by decide) (fun _ _ _ h => h) (by rfl) ?yb1 ?nb1
        case yb1 => intro W; go_simp; try with_reducible rfl
        try simp only [Act.put, List.setIfInBounds_toArray, List.set_cons_zero, List.set_cons_succ]
        refine stepE_any 2 (some 35) (v := ?vb2) (fun _ => Keep.refl _ _) rfl (by rfl) (by kernel_rfl) (by kernel_rfl) (by kernel_rfl) (by decide) (fun _ _ _ h => h) (by rfl) ?yb2 ?nb2
        case yb2 => intro W; go_simp; try with_reducible rfl
        try simp only [Act.put, List.setIfInBounds_toArray, List.set_cons_zero, List.set_cons_succ]
        refine stepE_read 3 14 (some 36) (v := ?vb3) (Keep.refl _ _) rfl (by rfl) (by kernel_rfl) (by kernel_rfl) (by kernel_rfl) (by kernel_rfl) (by kernel_rfl) (fun _ _ _ h => h) (by rfl) ?yb3 ?nb3
        case yb3 => intro W hW; have q := HC4.out W hW; go_simp; try with_reducible rfl
        try simp only [Act.put, List.setIfInBounds_toArray, List.set_cons_zero, List.set_cons_succ]
        refine stepE_any 4 (some 37) (v := ?vb4) (fun _ => Keep.refl _ _) rfl (by rfl) (by kernel_rfl) (by kernel_rfl) (by kernel_rfl) (by decide) (fun _ _ _ h => h) (by rfl) ?yb4 ?nb4
        case yb4 => intro W; go_simp; try with_reducible rfl
        try simp only [Act.put, List.setIfInBounds_toArray, List.set_cons_zero, List.set_cons_succ]
        refine stepE_any 5 (some 38) (v := ?vb5) (fun _ => Keep.refl _ _) rfl (by rfl) (by kernel_rfl) (by kernel_rfl) (by kernel_rfl) (by decide) (fun _ _ _ h => h) (by rfl) ?yb5 ?nb5
        case yb5 => intro W; go_simp; try with_reducible rfl
        try simp only [Act.put, List.setIfInBounds_toArray, List.set_cons_zero, List.set_cons_succ]
        refine stepE_any 6 (some 39) (v := ?vb6) (fun _ => Keep.refl _ _) rfl (by rfl) (by kernel_rfl) (by kernel_rfl) (by kernel_rfl) (by decide) (fun _ _ _ h => h) (by rfl) ?yb6 ?nb6
        case yb6 => intro W; go_simp; try with_reducible rfl
        try simp only [Act.put, List.setIfInBounds_toArray, List.set_cons_zero, List.set_cons_succ]
        refine stepE_any 7 (some 40) (v := ?vb7) (fun _ => Keep.refl _ _) rfl (by rfl) (by kernel_rfl) (by kernel_rfl) (by kernel_rfl) (by decide) (fun _ _ _ h => h) (by rfl) ?yb7 ?nb7
        case yb7 => intro W; go_simp; try with_reducible rfl
        try simp only [Act.put, List.setIfInBounds_toArray, List.set_cons_zero, List.set_cons_succ]
        refine stepE_read 8 14 (some 41) (v := ?vb8) (Keep.refl _ _) rfl (by rfl) (by kernel_rfl) (by kernel_rfl) (by kernel_rfl) (by kernel_rfl) (by kernel_rfl) (fun _ _ _ h => h) (by rfl) ?yb8 ?nb8
        case yb8 => intro W hW; have q := HC4.out W hW; go_simp; try with_reducible rfl
        try simp only [Act.put, List.setIfInBounds_toArray, List.set_cons_zero, List.set_cons_succ]
        refine stepE_any 9 (some 42) (v := ?vb9) (fun _ => Keep.refl _ _) rfl (by rfl) (by kernel_rfl) (by kernel_rfl) (by kernel_rfl) (by decide) (fun _ _ _ h => h) (by rfl) ?yb9 ?nb9
        case yb9 => intro W; go_simp; try with_reducible rfl
        try simp only [Act.put, List.setIfInBounds_toArray, List.set_cons_zero, List.set_cons_succ]
        -- 10: store -> None
        refine stepE_end 10 rfl (by kernel_rfl) (by rfl) (by rfl) (fun K' hK => ?_)
        have q1 := HCA.out
        have q2 := HFA.out
        go_simp
        refine hK _ _ ?_
        clear q1 q2
        clear hK K'
        try simp only [Act.put, List.setIfInBounds_toArray, List.set_cons_zero, List.set_cons_succ]
        refine wpAnyE_done (by kernel_rfl) ?_ _
        have hdk : Keep (fun j => j = w2.heap.size) w4 (w4.setCell ⟨w2.heap.size, q, none⟩ (.int .u8 bn)).drew := (Keep.setCell (bad := fun j => j = w2.heap.size) rfl _).trans (Keep.drew _ _)
        have hAl : w2.heap.size < wr.heap.size := HBA.out.lt
        have hmA4 : ¬ Mine B S vu4 w2.heap.size := by
          rintro (h1 | h1 | h1)
          · exact HMA.out (.inl h1)
          · exact HMA.out (.inr (.inl h1))
          · rcases HV4.out with h3 | h3
            · exact HMA.out (.inr (.inr (by rw [← h3]; exact h1)))
            · have h5 := h3 _ h1
              have h6 : (wr.alloc (.cells #[.int .u8 (bn : Int)] 5)).drew.heap.size = wr.heap.size + 1 := by show (wr.alloc _).heap.size = _; simp
              omega
        have hd5 : IsDisk (w4.setCell ⟨w2.heap.size, q, none⟩ (.int .u8 bn)).drew B S vu4 ((LW.set q (bn : Int)).map one) (uns ++ [⟨q, (LW.map one).getD q [], pad [(bn : Int)]⟩]) (-1) := by
          rw [List.map_set]
          exact HN4.out.keep hdk (fun k hk e => hmA4 (by rw [← e]; exact hk))
        have hbA5 : Blk (w4.setCell ⟨w2.heap.size, q, none⟩ (.int .u8 bn)).drew w2.heap.size 37 (B8 (LW.set q (bn : Int))) := by
          have h8 : Blk w4 w2.heap.size 37 (B8 LW) := HA4.out
          have := (h8.setCell q (.int .u8 bn)).keep (Keep.drew (fun _ => False) _) (fun h => h)
          rwa [show (B8 LW).set q (.int .u8 bn) = B8 (LW.set q (bn : Int)) by simp [B8]] at this
        have hbel5 : Below w.heap.size w (w4.setCell ⟨w2.heap.size, q, none⟩ (.int .u8 bn)).drew := HB4.out.trans (hdk.below (by rintro k rfl; exact HB2.out.size) HB4.out.size)
        have hc5 : (w4.setCell ⟨w2.heap.size, q, none⟩ (.int .u8 bn)).drew.cell? ⟨b, off + k, none⟩ = some (.int .u8 bn) := by
          rw [hdk.cell (show b ≠ w2.heap.size from by have := HB2.out.size; omega) (Nat.lt_of_lt_of_le hblt HB4.out.size)]
          exact HC4.out w4.drew (Keep.refl _ _)
        generalize (w4.setCell ⟨w2.heap.size, q, none⟩ (.int .u8 bn)).drew = w5 at hd5 hbA5 hbel5 hc5 ⊢
        have HD5 := Lib.hid hd5
        have HBA5 := Lib.hid hbA5
        have HBE5 := Lib.hid hbel5
        have HMA4 := Lib.hid hmA4
        clear hdk hAl hmA4 hd5 hbA5 hbel5
        by_cases h7 : bn % 7 = 0
        · have ht7 : (bn : Int).tmod 7 = 0 := by rw [tmod7, h7]; rfl
          clear h7
          go_wp2_with fail
          refine (flush_live HD5.out rfl).mono ?_
          rintro e w6 ⟨rfl, h6, hk6⟩
          have HD6 := Lib.hid h6
          have HK6 := Lib.hid hk6
          have HE6 := Lib.hid (HBE5.out.trans (keepB_below HD5.out hk6 HS.out))
          clear h6 hk6
          go_wp2
          go_roundw
          case rel =>
            refine ⟨k + 1, by omega, by go_num, .slice none 0 0, [], ?_, Nat.zero_le _, ?_, ?_, HE6.out⟩
            · rw [HST.out]; exact HD6.out
            · rw [HST.out]; exact HBA5.out.keep HK6.out (fun e => HMA4.out (.inl e))
            · rintro (h1 | h1 | h1)
              · exact HMA4.out (.inl h1)
              · exact HMA4.out (.inr (.inl h1))
              · simp [Value.ownBlock] at h1
          case measure => simp [intOf]; omega
        · obtain ⟨r, hr⟩ : ∃ r, bn % 7 = r := ⟨_, rfl⟩
          have ht7 : (bn : Int).tmod 7 = (r : Int) := by rw [tmod7, hr]
          have hr0 : ((r : Int) == 0) = false := by simp; omega
          clear h7 hr
          go_wp2
          go_roundw
          case rel =>
            refine ⟨k + 1, by omega, by go_num, vu4, uns ++ [⟨q, (LW.map one).getD q [], pad [(bn : Int)]⟩], ?_, ?_, ?_, HMA4.out, HBE5.out⟩
            · rw [HST.out]; exact HD5.out
            · rw [List.length_append]; simp; omega
            · rw [HST.out]; exact HBA5.out
          case measure => simp [intOf]; omega
      · obtain rfl : k = len := by omega
        have hwl := lastW_len y k
        have HD := Lib.hid hd
        have HBA := Lib.hid hbA
        have HBE := Lib.hid hbel
        obtain ⟨w0, hw0⟩ : ∃ w0, w0 = wr := ⟨_, rfl⟩
        rw [← hw0] at HD HBA HBE
        have hWb : Below w0.heap.size w0 wr := by rw [hw0]; exact Below.refl _ _
        clear hd hbA hbel hw0
        go_wp2
        go_loopw [6] (fun i wr => ∃ j : Nat, j ≤ 5 ∧ i = .int .i64 j ∧ Below w0.heap.size w0 wr) (fun i _ => 5 - (intOf i).toNat)
        case atStart => exact ⟨0, Nat.zero_le _, rfl, hWb⟩
        case round =>
          obtain ⟨j, hj, rfl, hbl⟩ := hrel
          clear hWb
          by_cases hj5 : j < 5
          · have hd2 := HD.out.later hbl
            have hbA2 := HBA.out.below hbl HBA.out.lt
            obtain ⟨x, hx⟩ : ∃ x, (lastW y k).getD j 0 = x := ⟨_, rfl⟩
            have hx2 : (lastW y k)[j]? = some x := by rw [← hx]; simp [List.getD, show j < (lastW y k).length by omega]
            have hcj : wr.cell? ⟨w2.heap.size, j, none⟩ = some (.int .u8 x) := by rw [hbA2.cell]; simp [B8, hx2]
            have hsj : ((lastW y k).map one).getD j [] = one x := by simp [List.getD, hx2]
            have HCJ := Lib.hid hcj
            have HSJ := Lib.hid hsj
            have HD2 := Lib.hid hd2
            have HBL := Lib.hid hbl
            have hAl : w2.heap.size < wr.heap.size := hbA2.lt
            clear hd2 hbA2 hx hx2 hcj hsj hbl
            have hjI : (j : Int) < 5 := by omega
            go_wp2_with fail
            refine (read_disk HD2.out j (by rw [List.length_map, hwl]; exact hj5)).mono ?_
            rintro e w3 ⟨u, rfl, hown, hb3⟩
            rw [HSJ.out] at hown
            obtain ⟨p3, c3, rfl⟩ := ownsRow_shape hown
            rcases hown.2 with ⟨_, e0⟩ | ⟨g, cap, cur, e1, hbg, hgg, hle, _⟩
            · omega
            injection e1 with e1 e2 e3
            subst e1
            have hc0 : w3.cell? ⟨g, 0, none⟩ = some (.int .u8 x) := by
              have := hown.cells (g := g) rfl 0 (.int .u8 x) rfl
              rwa [Addr.add_lit, Nat.zero_add] at this
            have hc1 : w3.cell? ⟨g, 1, none⟩ = some (.int .u8 0) := by
              have := hown.cells (g := g) rfl 1 (.int .u8 0) rfl
              rwa [Addr.add_lit, Nat.zero_add] at this
            have hcA : w3.cell? ⟨w2.heap.size, j, none⟩ = some (.int .u8 x) := by rw [hb3.cell hAl]; exact HCJ.out
            have HB3 := Lib.hid (HBL.out.trans (hb3.mono HBL.out.size))
            clear hown hgg hb3 e2 e3
            go_wp2_with fail
            go_quiet (fail)
            go_wp2
            go_roundw
            case rel => exact ⟨j + 1, by omega, by go_num, HB3.out.trans ⟨rfl, rfl, rfl, Nat.le_refl _, fun _ _ => rfl⟩⟩
            case measure => simp [intOf]; omega
          · obtain rfl : j = 5 := by omega
            have HD2 := Lib.hid (HD.out.later hbl)
            have HBL := Lib.hid (HBE.out.trans (hbl.mono HBE.out.size))
            have hll : ((lastW y k).map one).length = 5 := by rw [List.length_map, hwl]
            have HLL := Lib.hid hll
            clear hbl hll hj5 hj
            go_wp2_with fail
            refine (read_none HD2.out 5 (by rw [HLL.out]; omega)).mono ?_
            rintro e w' ⟨rfl, rfl⟩
            go_wp2_with fail
            refine (read_none HD2.out (-1) (by omega)).mono ?_
            rintro e w' ⟨rfl, rfl⟩
            go_wp2
            go_ret
            exact ⟨rfl, HBL.out⟩
  · have h60I : (60 : Int) < len := by omega
    go_enter Try.func5, Try.ntmps5
    go_wp2_with fail
    refine (known_any w).mono ?_
    rintro e w1 ⟨rfl, hb1⟩
    have HB1 := Lib.hid hb1
    clear hb1
    go_wp2
    go_ret
    exact ⟨rfl, HB1.out⟩
end Go.Proofs.Ytnjmlkohgbbafaa.K
