/- EntryConfs' walk. -/
import Derived.Test.YtkfcpnmdmoeioaaEntry8
namespace Go.Proofs.Ytkfcpnmdmoeioaa.K
open Go.ChangeShapes Go.WideShapes Go.ChangeAt Go.RowKit
set_option linter.unusedVariables false

theorem madeCells_zeros (m k : Nat) (hm : 0 < m) : (madeCells (Array.replicate m (Value.int .u8 0)) k).toList = List.replicate k (Value.int .u8 0) := by
  unfold madeCells
  apply List.ext_getElem
  · simp
  · intro i h1 h2
    simp at h1
    have : i % m < m := Nat.mod_lt _ hm
    simp [this]

theorem confs_e (i tm nd ad : Nat) (hi : 1 ≤ i) (hi1 : i ≤ 65536) (ht : tm ≤ 255) : entOk i tm 2 [(nd : Int), (ad : Int)] = (decide ((nd : Int) < 7) && decide ((ad : Int) < 2)) := by
  have h1 : timeOk i 1 = true := by unfold timeOk; exact decide_eq_true (by omega)
  have h2 : timeOk tm 0 = true := by unfold timeOk; exact decide_eq_true (by omega)
  unfold entOk dataOk
  rw [h1, h2, if_neg (by decide), if_neg (by decide), if_pos rfl]
  show (true && true && decide (2 = 2 ∧ (nd : Int) < 7 ∧ (ad : Int) ≤ 1)) = _
  rw [Bool.true_and, Bool.true_and, ← Bool.decide_and]
  refine decide_eq_decide.2 ⟨fun h => ⟨h.2.1, by omega⟩, fun h => ⟨rfl, h.1, by omega⟩⟩
theorem confs_n (i : Nat) (d : List Int) (hi : 1 ≤ i) (hi1 : i ≤ 65536) : entOk i 0 0 d = (((d.length : Nat) : Int) == 0) := by
  have h1 : timeOk i 1 = true := by unfold timeOk; exact decide_eq_true (by omega)
  unfold entOk dataOk
  rw [h1, show timeOk 0 0 = true from by decide, if_pos rfl]
  rw [Bool.true_and, Bool.true_and, Bool.eq_iff_iff]
  simp
theorem confs_z (i : Nat) (d : List Int) (hi1 : i ≤ 65536) (hd : d.length ≤ 20) : entOk i 0 1 d = decide ((0 : Int) < (i : Int)) := by
  unfold entOk dataOk timeOk
  rw [if_neg (by decide), if_pos rfl, show decide ((0 : Int) ≤ 0 ∧ (0 : Int) ≤ 1099511627776) = true from by decide, show decide (d.length ≤ 32767) = true from decide_eq_true (by omega), Bool.and_true, Bool.and_true]
  exact decide_eq_decide.2 ⟨fun h => by omega, fun h => by omega⟩
theorem confs_l (A : Nat) (d : List Int) (hA : A < 2) (hd : d.length = 32767 + A) : entOk 1 0 1 d = ((A : Int) == 0) := by
  unfold entOk dataOk
  rw [if_neg (by decide), if_pos rfl, show timeOk 1 1 = true from by decide, show timeOk 0 0 = true from by decide, Bool.true_and, Bool.true_and, Bool.eq_iff_iff]
  simp
  omega

set_option maxRecDepth 100000 in
set_option maxHeartbeats 4000000 in
theorem confs_walk (idx tm nd ad : Nat) (v : Value) (d : List Int) (w : World) (hidx : idx ≤ 65535) (htm : tm ≤ 255) (hnd : nd ≤ 255) (had : ad ≤ 255) (hv : IsNums .u8 w v d) :
    Calls Try.prog 5 #[.int .u16 idx, .int .u8 tm, .int .u8 nd, .int .u8 ad, v] w fun e w' => e = .returned (.bool true) ∧ Below w.heap.size w w' := by
  obtain ⟨a, c, rfl, -⟩ := id hv
  obtain ⟨n, hn⟩ : ∃ n, d.length = n := ⟨_, rfl⟩
  rw [hn] at hv ⊢
  have HV := Lib.hid hv
  have HN := Lib.hid hn
  clear hv hn
  by_cases h20 : n ≤ 20
  · have h20I : ¬ (20 : Int) < n := by omega
    obtain ⟨i1, hi1⟩ : ∃ i, idx + 1 = i := ⟨_, rfl⟩
    obtain ⟨A, hA⟩ : ∃ x, ad % 2 = x := ⟨_, rfl⟩
    obtain ⟨L, hL⟩ : ∃ x, 32767 + A = x := ⟨_, rfl⟩
    have hwi : IntKind.i64.wrap (idx : Int) = (idx : Int) := IntWalk.i64_in _ (by omega)
    have hii : (idx : Int) + 1 = (i1 : Int) := by omega
    have hwt : IntKind.i64.wrap (tm : Int) = (tm : Int) := IntWalk.i64_in _ (by omega)
    have htA : (ad : Int).tmod 2 = (A : Int) := by rw [Int.tmod_eq_emod_of_nonneg (by omega)]; omega
    have hwA : IntKind.i64.wrap (A : Int) = (A : Int) := IntWalk.i64_in _ (by omega)
    have hLL : (32767 : Int) + (A : Int) = (L : Int) := by omega
    have hwL : IntKind.i64.wrap (L : Int) = (L : Int) := IntWalk.i64_in _ (by omega)
    have hwi1 : IntKind.i64.wrap (i1 : Int) = (i1 : Int) := IntWalk.i64_in _ (by omega)
    have HI1 : Hid (1 ≤ i1 ∧ i1 ≤ 65536) := Lib.hid (by omega)
    have HA2 : Hid (A < 2) := Lib.hid (by omega)
    have HLE := Lib.hid hL
    have hLb : L ≤ 32768 := by omega
    have HT := Lib.hid htm
    have HI := Lib.hid hidx
    obtain ⟨b2, hb2⟩ : ∃ b, ((n : Int) == 0) = b := ⟨_, rfl⟩
    obtain ⟨b3, hb3⟩ : ∃ b, decide ((0 : Int) < (idx : Int)) = b := ⟨_, rfl⟩
    obtain ⟨b4, hb4⟩ : ∃ b, ((A : Int) == 0) = b := ⟨_, rfl⟩
    have hb3n : decide (0 < idx) = b3 := by rw [← hb3]; exact decide_eq_decide.2 (by omega)
    have HB2 := Lib.hid hb2
    have HB3 := Lib.hid hb3
    have HB4 := Lib.hid hb4
    clear hi1 hA hL
    by_cases h7 : nd < 7
    · have h7I : (nd : Int) < 7 := by omega
      go_enter Try.func5, Try.ntmps5
      go_wp2_with fail
      refine (eknown_any _).mono ?_
      rintro e w1 ⟨rfl, hb1⟩
      have hv1 := HV.out.below hb1 (Nat.le_refl _)
      have B1 := Lib.hid hb1
      have hba : Below w1.heap.size w1 (w1.alloc (.cells #[.int .u8 nd, .int .u8 ad] 5)) := (Below.refl _ _).alloc (Nat.le_refl _) _
      have na : IsNums .u8 (w1.alloc (.cells #[.int .u8 nd, .int .u8 ad] 5)) (.slice (some ⟨w1.heap.size, 0, none⟩) 2 2) [(nd : Int), (ad : Int)] := IsNums.lit .u8 w1 [(nd : Int), (ad : Int)] w1.heap.size 5 2 2 rfl rfl
      obtain ⟨wa, hwa⟩ : ∃ x, w1.alloc (.cells #[.int .u8 nd, .int .u8 ad] 5) = x := ⟨_, rfl⟩
      obtain ⟨Na, hNa⟩ : ∃ x, w1.heap.size = x := ⟨_, rfl⟩
      rw [hwa] at hba na
      have hva := hv1.below hba (Nat.le_refl _)
      have sa : wa.heap.size = Na + 1 := by rw [← hwa, ← hNa]; simp
      rw [hNa] at na
      obtain ⟨E1, hE1⟩ : ∃ x : Array Value, #[.int .i64 i1, .int .i64 tm, .int .i64 2, .slice (some ⟨Na, 0, none⟩) 2 2] = x := ⟨_, rfl⟩
      have hbb : Below wa.heap.size wa (wa.alloc (.cells #[.int .i64 i1, .int .i64 tm, .int .i64 2, .slice (some ⟨Na, 0, none⟩) 2 2] 24)) := (Below.refl _ _).alloc (Nat.le_refl _) _
      have xb := Blk.alloc wa 24 #[.int .i64 i1, .int .i64 tm, .int .i64 2, .slice (some ⟨Na, 0, none⟩) 2 2]
      obtain ⟨wb, hwb⟩ : ∃ x, wa.alloc (.cells #[.int .i64 i1, .int .i64 tm, .int .i64 2, .slice (some ⟨Na, 0, none⟩) 2 2] 24) = x := ⟨_, rfl⟩
      rw [hwb] at hbb xb
      have nb := na.below hbb (Nat.le_refl _)
      have hvb := hva.below hbb (Nat.le_refl _)
      have hbc : Below wb.heap.size wb (wb.alloc (.cells #[.int .i64 i1, .int .i64 0, .int .i64 0, .slice a n c] 24)) := (Below.refl _ _).alloc (Nat.le_refl _) _
      have xc := Blk.alloc wb 24 #[.int .i64 i1, .int .i64 0, .int .i64 0, .slice a n c]
      obtain ⟨wc, hwc⟩ : ∃ x, wb.alloc (.cells #[.int .i64 i1, .int .i64 0, .int .i64 0, .slice a n c] 24) = x := ⟨_, rfl⟩
      rw [hwc] at hbc xc
      have nc := nb.below hbc (Nat.le_refl _)
      have hvc := hvb.below hbc (Nat.le_refl _)
      have xbc := xb.below hbc xb.lt
      have hbd : Below wc.heap.size wc (wc.alloc (.cells #[.int .i64 idx, .int .i64 0, .int .i64 1, .slice a n c] 24)) := (Below.refl _ _).alloc (Nat.le_refl _) _
      have xd := Blk.alloc wc 24 #[.int .i64 idx, .int .i64 0, .int .i64 1, .slice a n c]
      obtain ⟨wd, hwd⟩ : ∃ x, wc.alloc (.cells #[.int .i64 idx, .int .i64 0, .int .i64 1, .slice a n c] 24) = x := ⟨_, rfl⟩
      rw [hwd] at hbd xd
      have ndd := nc.below hbd (Nat.le_refl _)
      have hvd := hvc.below hbd (Nat.le_refl _)
      have xbd := xbc.below hbd xbc.lt
      have xcd := xc.below hbd xc.lt
      obtain ⟨i0, hi0, hz0, hz1, hz2⟩ := info_parts info_u8
      have hr := run_make (P := Try.prog) wd 22 5 i0 _ Try.underlying22 hi0 hz0 .i64 .i64 L L (by omega) (by omega) (by rw [hz2]; have := HLE.out; have := HA2.out; omega) (by omega)
      rw [hz1, Int.toNat_natCast] at hr
      have hcz : (madeCells (Value.int .u8 0).cells (L * 1)) = ((List.replicate L (0 : Int)).map (Value.int .u8)).toArray := by
        apply Array.ext'
        rw [show (Value.int .u8 0).cells = Array.replicate 1 (.int .u8 0) from rfl, madeCells_zeros _ _ (by omega), Nat.mul_one, List.map_replicate]
      rw [hcz] at hr
      have hbe : Below wd.heap.size wd (wd.alloc (.cells ((List.replicate L (0 : Int)).map (Value.int .u8)).toArray 5)) := (Below.refl _ _).alloc (Nat.le_refl _) _
      have ne := IsNums.lit .u8 wd (List.replicate L (0 : Int)) wd.heap.size 5 L L rfl (by rw [List.length_replicate])
      obtain ⟨we, hwe⟩ : ∃ x, wd.alloc (.cells ((List.replicate L (0 : Int)).map (Value.int .u8)).toArray 5) = x := ⟨_, rfl⟩
      rw [hwe] at hbe ne hr
      obtain ⟨Ne, hNe⟩ : ∃ x, wd.heap.size = x := ⟨_, rfl⟩
      rw [hNe] at ne hr
      have hbf : Below we.heap.size we (we.alloc (.cells #[.int .i64 1, .int .i64 0, .int .i64 1, .slice (some ⟨Ne, 0, none⟩) L L] 24)) := (Below.refl _ _).alloc (Nat.le_refl _) _
      have xf := Blk.alloc we 24 #[.int .i64 1, .int .i64 0, .int .i64 1, .slice (some ⟨Ne, 0, none⟩) L L]
      obtain ⟨wf, hwf⟩ : ∃ x, we.alloc (.cells #[.int .i64 1, .int .i64 0, .int .i64 1, .slice (some ⟨Ne, 0, none⟩) L L] 24) = x := ⟨_, rfl⟩
      rw [hwf] at hbf xf
      obtain ⟨Nb, hNb⟩ : ∃ x, wa.heap.size = x := ⟨_, rfl⟩
      obtain ⟨Nc, hNc⟩ : ∃ x, wb.heap.size = x := ⟨_, rfl⟩
      obtain ⟨Nd, hNd⟩ : ∃ x, wc.heap.size = x := ⟨_, rfl⟩
      obtain ⟨Nf, hNf⟩ : ∃ x, we.heap.size = x := ⟨_, rfl⟩
      have X1 := Lib.hid ((xbd.below hbe xbd.lt).below hbf (xbd.below hbe xbd.lt).lt)
      have X2 := Lib.hid ((xcd.below hbe xcd.lt).below hbf (xcd.below hbe xcd.lt).lt)
      have X3 := Lib.hid ((xd.below hbe xd.lt).below hbf (xd.below hbe xd.lt).lt)
      have X4 := Lib.hid xf
      rw [hNb] at X1
      rw [hNc] at X2
      rw [hNd] at X3
      rw [hNf] at X4
      have D1 := Lib.hid ((ndd.below hbe (Nat.le_refl _)).below hbf (Nat.le_refl _))
      have D2 := Lib.hid ((hvd.below hbe (Nat.le_refl _)).below hbf (Nat.le_refl _))
      have D4 := Lib.hid (ne.below hbf (Nat.le_refl _))
      have s1 : w1.heap.size ≤ wa.heap.size := hba.size
      have s2 := hbb.size
      have s3 := hbc.size
      have s4 := hbd.size
      have s5 := hbe.size
      have BF : Hid (Below w1.heap.size w1 wf) := Lib.hid (hba.trans ((hbb.mono s1).trans ((hbc.mono (by omega)).trans ((hbd.mono (by omega)).trans ((hbe.mono (by omega)).trans (hbf.mono (by omega)))))))
      have BL := Lib.hid (B1.out.trans (BF.out.mono B1.out.size))
      clear hv1 hb1 hba na hva sa hbb xb nb hvb hbc xc nc hvc xbc hbd xd ndd hvd xbd xcd hi0 hz0 hz1 hz2 hcz hbe ne hbf xf hE1 s1 s2 s3 s4 s5 B1 BF hb2 hb3 hb4 hb3n
      have x10 := X1.out.cell 0
      have x11 := X1.out.cell 1
      have x12 := X1.out.cell 2
      have x13 := X1.out.cell 3
      go_wp2_with fail
      clear hwa hwb hwc hwd hwe hwf hNa hNb hNc hNd hNe hNf hr x10 x11 x12 x13
      refine (entRight_any i1 tm 2 _ _ wf D1.out).mono ?_
      rintro e wg ⟨rfl, hbg⟩
      rw [confs_e i1 tm nd ad HI1.out.1 HI1.out.2 HT.out]
      rw [decide_eq_true h7I, Bool.true_and]
      obtain ⟨b1, hb1⟩ : ∃ b, decide ((ad : Int) < 2) = b := ⟨_, rfl⟩
      have hb1n : decide (ad < 2) = b1 := by rw [← hb1]; exact decide_eq_decide.2 (by omega)
      rw [hb1]
      have x20 := (X2.out.below hbg X2.out.lt).cell 0
      have x21 := (X2.out.below hbg X2.out.lt).cell 1
      have x22 := (X2.out.below hbg X2.out.lt).cell 2
      have x23 := (X2.out.below hbg X2.out.lt).cell 3
      have X3g := Lib.hid (X3.out.below hbg X3.out.lt)
      have X4g := Lib.hid (X4.out.below hbg X4.out.lt)
      have D2g := Lib.hid (D2.out.below hbg (Nat.le_refl _))
      have D4g := Lib.hid (D4.out.below hbg (Nat.le_refl _))
      have BLg := Lib.hid (BL.out.trans (hbg.mono BL.out.size))
      clear hbg X1 X2 X3 X4 D1 D2 D4 BL
      go_wp2_with fail
      clear x20 x21 x22 x23
      refine (entRight_any i1 0 0 _ d wg D2g.out).mono ?_
      rintro e wh ⟨rfl, hbh⟩
      rw [confs_n i1 d HI1.out.1 HI1.out.2, HN.out, HB2.out]
      have hb2 := HB2.out
      have x30 := (X3g.out.below hbh X3g.out.lt).cell 0
      have x31 := (X3g.out.below hbh X3g.out.lt).cell 1
      have x32 := (X3g.out.below hbh X3g.out.lt).cell 2
      have x33 := (X3g.out.below hbh X3g.out.lt).cell 3
      have X4h := Lib.hid (X4g.out.below hbh X4g.out.lt)
      have D2h := Lib.hid (D2g.out.below hbh (Nat.le_refl _))
      have D4h := Lib.hid (D4g.out.below hbh (Nat.le_refl _))
      have BLh := Lib.hid (BLg.out.trans (hbh.mono BLg.out.size))
      clear hbh X3g X4g D2g D4g BLg
      go_wp2_with fail
      clear x30 x31 x32 x33 hb2
      refine (entRight_any idx 0 1 _ d wh D2h.out).mono ?_
      rintro e wi ⟨rfl, hbi⟩
      rw [confs_z idx d (by have := HI.out; omega) (by rw [HN.out]; exact h20), HB3.out]
      have hb3 := HB3.out
      have hb3n : decide (0 < idx) = b3 := by rw [← hb3]; exact decide_eq_decide.2 (by omega)
      have x40 := (X4h.out.below hbi X4h.out.lt).cell 0
      have x41 := (X4h.out.below hbi X4h.out.lt).cell 1
      have x42 := (X4h.out.below hbi X4h.out.lt).cell 2
      have x43 := (X4h.out.below hbi X4h.out.lt).cell 3
      have D4i := Lib.hid (D4h.out.below hbi (Nat.le_refl _))
      have BLi := Lib.hid (BLh.out.trans (hbi.mono BLh.out.size))
      clear hbi X4h D2h D4h BLh
      go_wp2_with fail
      clear x40 x41 x42 x43 hb3 hb3n
      refine (entRight_any 1 0 1 _ (List.replicate L (0 : Int)) wi D4i.out).mono ?_
      rintro e wj ⟨rfl, hbj⟩
      rw [confs_l A (List.replicate L (0 : Int)) HA2.out (by rw [List.length_replicate]; exact HLE.out.symm), HB4.out]
      have hb4 := HB4.out
      have BLj := Lib.hid (BLi.out.trans (hbj.mono BLi.out.size))
      clear hbj
      go_wp2
      go_ret
      exact ⟨rfl, BLj.out⟩
    · have h7I : ¬ (nd : Int) < 7 := by omega
      go_enter Try.func5, Try.ntmps5
      go_wp2_with fail
      refine (eknown_any _).mono ?_
      rintro e w1 ⟨rfl, hb1⟩
      have hv1 := HV.out.below hb1 (Nat.le_refl _)
      have B1 := Lib.hid hb1
      have hba : Below w1.heap.size w1 (w1.alloc (.cells #[.int .u8 nd, .int .u8 ad] 5)) := (Below.refl _ _).alloc (Nat.le_refl _) _
      have na : IsNums .u8 (w1.alloc (.cells #[.int .u8 nd, .int .u8 ad] 5)) (.slice (some ⟨w1.heap.size, 0, none⟩) 2 2) [(nd : Int), (ad : Int)] := IsNums.lit .u8 w1 [(nd : Int), (ad : Int)] w1.heap.size 5 2 2 rfl rfl
      obtain ⟨wa, hwa⟩ : ∃ x, w1.alloc (.cells #[.int .u8 nd, .int .u8 ad] 5) = x := ⟨_, rfl⟩
      obtain ⟨Na, hNa⟩ : ∃ x, w1.heap.size = x := ⟨_, rfl⟩
      rw [hwa] at hba na
      have hva := hv1.below hba (Nat.le_refl _)
      have sa : wa.heap.size = Na + 1 := by rw [← hwa, ← hNa]; simp
      rw [hNa] at na
      obtain ⟨E1, hE1⟩ : ∃ x : Array Value, #[.int .i64 i1, .int .i64 tm, .int .i64 2, .slice (some ⟨Na, 0, none⟩) 2 2] = x := ⟨_, rfl⟩
      have hbb : Below wa.heap.size wa (wa.alloc (.cells #[.int .i64 i1, .int .i64 tm, .int .i64 2, .slice (some ⟨Na, 0, none⟩) 2 2] 24)) := (Below.refl _ _).alloc (Nat.le_refl _) _
      have xb := Blk.alloc wa 24 #[.int .i64 i1, .int .i64 tm, .int .i64 2, .slice (some ⟨Na, 0, none⟩) 2 2]
      obtain ⟨wb, hwb⟩ : ∃ x, wa.alloc (.cells #[.int .i64 i1, .int .i64 tm, .int .i64 2, .slice (some ⟨Na, 0, none⟩) 2 2] 24) = x := ⟨_, rfl⟩
      rw [hwb] at hbb xb
      have nb := na.below hbb (Nat.le_refl _)
      have hvb := hva.below hbb (Nat.le_refl _)
      have hbc : Below wb.heap.size wb (wb.alloc (.cells #[.int .i64 i1, .int .i64 0, .int .i64 0, .slice a n c] 24)) := (Below.refl _ _).alloc (Nat.le_refl _) _
      have xc := Blk.alloc wb 24 #[.int .i64 i1, .int .i64 0, .int .i64 0, .slice a n c]
      obtain ⟨wc, hwc⟩ : ∃ x, wb.alloc (.cells #[.int .i64 i1, .int .i64 0, .int .i64 0, .slice a n c] 24) = x := ⟨_, rfl⟩
      rw [hwc] at hbc xc
      have nc := nb.below hbc (Nat.le_refl _)
      have hvc := hvb.below hbc (Nat.le_refl _)
      have xbc := xb.below hbc xb.lt
      have hbd : Below wc.heap.size wc (wc.alloc (.cells #[.int .i64 idx, .int .i64 0, .int .i64 1, .slice a n c] 24)) := (Below.refl _ _).alloc (Nat.le_refl _) _
      have xd := Blk.alloc wc 24 #[.int .i64 idx, .int .i64 0, .int .i64 1, .slice a n c]
      obtain ⟨wd, hwd⟩ : ∃ x, wc.alloc (.cells #[.int .i64 idx, .int .i64 0, .int .i64 1, .slice a n c] 24) = x := ⟨_, rfl⟩
      rw [hwd] at hbd xd
      have ndd := nc.below hbd (Nat.le_refl _)
      have hvd := hvc.below hbd (Nat.le_refl _)
      have xbd := xbc.below hbd xbc.lt
      have xcd := xc.below hbd xc.lt
      obtain ⟨i0, hi0, hz0, hz1, hz2⟩ := info_parts info_u8
      have hr := run_make (P := Try.prog) wd 22 5 i0 _ Try.underlying22 hi0 hz0 .i64 .i64 L L (by omega) (by omega) (by rw [hz2]; have := HLE.out; have := HA2.out; omega) (by omega)
      rw [hz1, Int.toNat_natCast] at hr
      have hcz : (madeCells (Value.int .u8 0).cells (L * 1)) = ((List.replicate L (0 : Int)).map (Value.int .u8)).toArray := by
        apply Array.ext'
        rw [show (Value.int .u8 0).cells = Array.replicate 1 (.int .u8 0) from rfl, madeCells_zeros _ _ (by omega), Nat.mul_one, List.map_replicate]
      rw [hcz] at hr
      have hbe : Below wd.heap.size wd (wd.alloc (.cells ((List.replicate L (0 : Int)).map (Value.int .u8)).toArray 5)) := (Below.refl _ _).alloc (Nat.le_refl _) _
      have ne := IsNums.lit .u8 wd (List.replicate L (0 : Int)) wd.heap.size 5 L L rfl (by rw [List.length_replicate])
      obtain ⟨we, hwe⟩ : ∃ x, wd.alloc (.cells ((List.replicate L (0 : Int)).map (Value.int .u8)).toArray 5) = x := ⟨_, rfl⟩
      rw [hwe] at hbe ne hr
      obtain ⟨Ne, hNe⟩ : ∃ x, wd.heap.size = x := ⟨_, rfl⟩
      rw [hNe] at ne hr
      have hbf : Below we.heap.size we (we.alloc (.cells #[.int .i64 1, .int .i64 0, .int .i64 1, .slice (some ⟨Ne, 0, none⟩) L L] 24)) := (Below.refl _ _).alloc (Nat.le_refl _) _
      have xf := Blk.alloc we 24 #[.int .i64 1, .int .i64 0, .int .i64 1, .slice (some ⟨Ne, 0, none⟩) L L]
      obtain ⟨wf, hwf⟩ : ∃ x, we.alloc (.cells #[.int .i64 1, .int .i64 0, .int .i64 1, .slice (some ⟨Ne, 0, none⟩) L L] 24) = x := ⟨_, rfl⟩
      rw [hwf] at hbf xf
      obtain ⟨Nb, hNb⟩ : ∃ x, wa.heap.size = x := ⟨_, rfl⟩
      obtain ⟨Nc, hNc⟩ : ∃ x, wb.heap.size = x := ⟨_, rfl⟩
      obtain ⟨Nd, hNd⟩ : ∃ x, wc.heap.size = x := ⟨_, rfl⟩
      obtain ⟨Nf, hNf⟩ : ∃ x, we.heap.size = x := ⟨_, rfl⟩
      have X1 := Lib.hid ((xbd.below hbe xbd.lt).below hbf (xbd.below hbe xbd.lt).lt)
      have X2 := Lib.hid ((xcd.below hbe xcd.lt).below hbf (xcd.below hbe xcd.lt).lt)
      have X3 := Lib.hid ((xd.below hbe xd.lt).below hbf (xd.below hbe xd.lt).lt)
      have X4 := Lib.hid xf
      rw [hNb] at X1
      rw [hNc] at X2
      rw [hNd] at X3
      rw [hNf] at X4
      have D1 := Lib.hid ((ndd.below hbe (Nat.le_refl _)).below hbf (Nat.le_refl _))
      have D2 := Lib.hid ((hvd.below hbe (Nat.le_refl _)).below hbf (Nat.le_refl _))
      have D4 := Lib.hid (ne.below hbf (Nat.le_refl _))
      have s1 : w1.heap.size ≤ wa.heap.size := hba.size
      have s2 := hbb.size
      have s3 := hbc.size
      have s4 := hbd.size
      have s5 := hbe.size
      have BF : Hid (Below w1.heap.size w1 wf) := Lib.hid (hba.trans ((hbb.mono s1).trans ((hbc.mono (by omega)).trans ((hbd.mono (by omega)).trans ((hbe.mono (by omega)).trans (hbf.mono (by omega)))))))
      have BL := Lib.hid (B1.out.trans (BF.out.mono B1.out.size))
      clear hv1 hb1 hba na hva sa hbb xb nb hvb hbc xc nc hvc xbc hbd xd ndd hvd xbd xcd hi0 hz0 hz1 hz2 hcz hbe ne hbf xf hE1 s1 s2 s3 s4 s5 B1 BF hb2 hb3 hb4 hb3n
      have x10 := X1.out.cell 0
      have x11 := X1.out.cell 1
      have x12 := X1.out.cell 2
      have x13 := X1.out.cell 3
      go_wp2_with fail
      clear hwa hwb hwc hwd hwe hwf hNa hNb hNc hNd hNe hNf hr x10 x11 x12 x13
      refine (entRight_any i1 tm 2 _ _ wf D1.out).mono ?_
      rintro e wg ⟨rfl, hbg⟩
      rw [confs_e i1 tm nd ad HI1.out.1 HI1.out.2 HT.out]
      rw [decide_eq_false (by omega), Bool.false_and]
      have x20 := (X2.out.below hbg X2.out.lt).cell 0
      have x21 := (X2.out.below hbg X2.out.lt).cell 1
      have x22 := (X2.out.below hbg X2.out.lt).cell 2
      have x23 := (X2.out.below hbg X2.out.lt).cell 3
      have X3g := Lib.hid (X3.out.below hbg X3.out.lt)
      have X4g := Lib.hid (X4.out.below hbg X4.out.lt)
      have D2g := Lib.hid (D2.out.below hbg (Nat.le_refl _))
      have D4g := Lib.hid (D4.out.below hbg (Nat.le_refl _))
      have BLg := Lib.hid (BL.out.trans (hbg.mono BL.out.size))
      clear hbg X1 X2 X3 X4 D1 D2 D4 BL
      go_wp2_with fail
      clear x20 x21 x22 x23
      refine (entRight_any i1 0 0 _ d wg D2g.out).mono ?_
      rintro e wh ⟨rfl, hbh⟩
      rw [confs_n i1 d HI1.out.1 HI1.out.2, HN.out, HB2.out]
      have hb2 := HB2.out
      have x30 := (X3g.out.below hbh X3g.out.lt).cell 0
      have x31 := (X3g.out.below hbh X3g.out.lt).cell 1
      have x32 := (X3g.out.below hbh X3g.out.lt).cell 2
      have x33 := (X3g.out.below hbh X3g.out.lt).cell 3
      have X4h := Lib.hid (X4g.out.below hbh X4g.out.lt)
      have D2h := Lib.hid (D2g.out.below hbh (Nat.le_refl _))
      have D4h := Lib.hid (D4g.out.below hbh (Nat.le_refl _))
      have BLh := Lib.hid (BLg.out.trans (hbh.mono BLg.out.size))
      clear hbh X3g X4g D2g D4g BLg
      go_wp2_with fail
      clear x30 x31 x32 x33 hb2
      refine (entRight_any idx 0 1 _ d wh D2h.out).mono ?_
      rintro e wi ⟨rfl, hbi⟩
      rw [confs_z idx d (by have := HI.out; omega) (by rw [HN.out]; exact h20), HB3.out]
      have hb3 := HB3.out
      have hb3n : decide (0 < idx) = b3 := by rw [← hb3]; exact decide_eq_decide.2 (by omega)
      have x40 := (X4h.out.below hbi X4h.out.lt).cell 0
      have x41 := (X4h.out.below hbi X4h.out.lt).cell 1
      have x42 := (X4h.out.below hbi X4h.out.lt).cell 2
      have x43 := (X4h.out.below hbi X4h.out.lt).cell 3
      have D4i := Lib.hid (D4h.out.below hbi (Nat.le_refl _))
      have BLi := Lib.hid (BLh.out.trans (hbi.mono BLh.out.size))
      clear hbi X4h D2h D4h BLh
      go_wp2_with fail
      clear x40 x41 x42 x43 hb3 hb3n
      refine (entRight_any 1 0 1 _ (List.replicate L (0 : Int)) wi D4i.out).mono ?_
      rintro e wj ⟨rfl, hbj⟩
      rw [confs_l A (List.replicate L (0 : Int)) HA2.out (by rw [List.length_replicate]; exact HLE.out.symm), HB4.out]
      have hb4 := HB4.out
      have BLj := Lib.hid (BLi.out.trans (hbj.mono BLi.out.size))
      clear hbj
      go_wp2
      go_ret
      exact ⟨rfl, BLj.out⟩
  · have h20I : (20 : Int) < n := by omega
    go_enter Try.func5, Try.ntmps5
    go_wp2_with fail
    refine (eknown_any _).mono ?_
    rintro e w1 ⟨rfl, hb1⟩
    have B1 := Lib.hid hb1
    clear hb1
    go_wp2
    go_ret
    exact ⟨rfl, B1.out⟩
end Go.Proofs.Ytkfcpnmdmoeioaa.K
