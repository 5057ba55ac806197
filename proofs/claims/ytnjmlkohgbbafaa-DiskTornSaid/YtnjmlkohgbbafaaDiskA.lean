/- DiskTorn's walk. -/
import Derived.Test.YtnjmlkohgbbafaaDisk7
import Derived.Outline
namespace Go.Proofs.Ytnjmlkohgbbafaa.K
open Go.ChangeShapes Go.WideShapes Go.ChangeAt Go.RowKit
set_option linter.unusedVariables false

theorem torn_keep (po pn : List Int) (t : Int) (nf : Nat) (h : newN [⟨0, po, pn⟩] t 0 = nf) : crashed [pn] [⟨0, po, pn⟩] 1 t = [pn.take nf ++ po.drop nf] := by
  have h1 : keptN [⟨0, po, pn⟩] 1 1 = [⟨0, po, pn⟩] := by
    rw [keptN, keptN, if_pos (by decide)]; rfl
  unfold crashed
  rw [show min ([⟨0, po, pn⟩] : List Un).length 64 = 1 from rfl, h1, show ([⟨0, po, pn⟩] : List Un).length = 1 from rfl, redoN, redoN, h]
  rfl
theorem torn_drop (po pn : List Int) (t : Int) : crashed [pn] [⟨0, po, pn⟩] 0 t = [pn.take 0 ++ po.drop 0] := by
  have h1 : keptN [⟨0, po, pn⟩] 0 1 = [] := by
    rw [keptN, keptN, if_neg (by decide)]; rfl
  unfold crashed
  rw [show min ([⟨0, po, pn⟩] : List Un).length 64 = 1 from rfl, h1, List.length_nil, redoN]
  rfl
theorem torn_new (pn po : List Int) (nf i : Nat) (h : i < nf) (hl : pn.length = 64) (hi : i < 64) : (pn.take nf ++ po.drop nf)[i]? = pn[i]? := by
  rw [List.getElem?_append_left (by rw [List.length_take]; omega), List.getElem?_take, if_pos h]
theorem torn_old (pn po : List Int) (nf i : Nat) (h : ¬ i < nf) (hl : po.length = 64) (hl2 : pn.length = 64) : (pn.take nf ++ po.drop nf)[i]? = po[i]? := by
  by_cases h6 : nf ≤ 64
  · rw [List.getElem?_append_right (by rw [List.length_take]; omega), List.getElem?_drop, List.length_take]
    congr 1
    omega
  · rw [List.getElem?_eq_none (by rw [List.length_append, List.length_take, List.length_drop]; omega), List.getElem?_eq_none (by omega)]
theorem pad_in (b : List Int) (i : Nat) (x : Int) (h : b[i]? = some x) : (pad b)[i]? = some x := by
  unfold pad
  rw [List.getElem?_append_left (List.getElem?_eq_some_iff.1 h).1, h]
theorem pad_out (b : List Int) (i : Nat) (h : ¬ i < b.length) (hi : i < 64) : (pad b)[i]? = some 0 := by
  unfold pad
  rw [List.getElem?_append_right (by omega), List.getElem?_replicate, if_pos (by omega)]
theorem byte_at {w : World} {a : Option Addr} {len cap : Nat} {y : List Int} (h : IsNums .u8 w (.slice a len cap) y) (hl : y.length = len) (i : Nat) (hi : i < len) : ∃ x b off, a = some ⟨b, off, none⟩ ∧ w.cell? ⟨b, off + i, none⟩ = some (.int .u8 x) ∧ y[i]? = some x := by
  obtain ⟨a', c', e1, h0 | ⟨b, off, e2, hblt, hcell⟩⟩ := h
  · omega
  · injection e1 with e1 e3 e4
    subst e1
    subst e2
    refine ⟨y.getD i 0, b, off, rfl, hcell i (by omega), ?_⟩
    simp [List.getD, show i < y.length by omega]
theorem mine_ge {w : World} {B S N : Nat} {vu : Value} {secs : List (List Int)} {uns : List Un} {l : Int} (h : IsDisk w B S vu secs uns l) (hN : N ≤ S) : ∀ k, Mine B S vu k → N ≤ k := by
  have hlt := h.lt
  rintro k (rfl | rfl | e)
  · omega
  · omega
  · have := (h.row.lt k e).1; omega

set_option maxRecDepth 100000 in
set_option maxHeartbeats 2000000 in
theorem torn_true_neg (a0 : Option Addr) (len0 cap0 : Nat) (yo : List Int) (a1 : Option Addr) (len1 cap1 : Nat) (yn : List Int) (torn : Int) (t0 : torn < 0) (t1 : -128 ≤ torn) (w : World) (hy0 : IsNums .u8 w (.slice a0 len0 cap0) yo) (hl0 : yo.length = len0) (hb0 : ∀ x ∈ yo, 0 ≤ x ∧ x ≤ 255)
    (hy1 : IsNums .u8 w (.slice a1 len1 cap1) yn) (hl1 : yn.length = len1) (hb1 : ∀ x ∈ yn, 0 ≤ x ∧ x ≤ 255) (s0 : len0 ≤ 64) (s1 : len1 ≤ 64) :
    Calls Try.prog 6 #[.slice a0 len0 cap0, .slice a1 len1 cap1, .int .i8 torn, .bool true] w fun e w' => e = .returned (.bool true) ∧ Below w.heap.size w w' := by
  have s0I : ¬ (64 : Int) < len0 := by omega
  have s1I : ¬ (64 : Int) < len1 := by omega
  have HY0 := Lib.hid hy0
  have HY1 := Lib.hid hy1
  have HBO := Lib.hid hb0
  have HBN := Lib.hid hb1
  have HPO := Lib.hid (pad_ok (by omega) hb0).1
  have HPN := Lib.hid (pad_ok (by omega) hb1).1
  clear hy0 hy1 hb0 hb1
  go_enter Try.func6, Try.ntmps6
  go_wp2_with fail
  refine (known_any w).mono ?_
  rintro e w1 ⟨rfl, hb1⟩
  have HB1 := Lib.hid hb1
  clear hb1
  go_wp2_with fail
  refine (new_disk 1 w1 (by omega)).mono ?_
  rintro e w2 ⟨B, S, rfl, hS, h2, hb2⟩
  have HB2 := Lib.hid (HB1.out.trans (hb2.mono HB1.out.size))
  have HS := Lib.hid (show w.heap.size ≤ S from Nat.le_trans HB1.out.size hS)
  have H2 := Lib.hid h2
  have hno : NumsOff (Mine B S (.slice none 0 0)) w2 (.slice a0 len0 cap0) yo := NumsOff.below (N := 0) HY0.out HB2.out (mine_ge H2.out HS.out)
  have hnn : NumsOff (Mine B S (.slice none 0 0)) w2 (.slice a1 len1 cap1) yn := NumsOff.below (N := 0) HY1.out HB2.out (mine_ge H2.out HS.out)
  have HNO := Lib.hid hno
  have HNN := Lib.hid hnn
  clear hb2 h2 hS hno hnn
  go_wp2_with fail
  refine (write_live H2.out 0 (by simp) _ yo HNO.out (by omega) HBO.out rfl (by simp)).mono ?_
  rintro e w3 ⟨rfl, vu3, h3, hk3, hv3⟩
  have hb3 : Below w.heap.size w w3 := HB2.out.trans (H2.out.below hk3 HS.out HB2.out.size)
  have h3' : IsDisk w3 B S vu3 [pad yo] [⟨0, zeros, pad yo⟩] (-1) := h3
  have HD3 := Lib.hid h3'
  have HB3 := Lib.hid hb3
  clear h3 hk3 hv3 hb3 h3'
  go_wp2_with fail
  refine (flush_live HD3.out rfl).mono ?_
  rintro e w35 ⟨rfl, h4, hk4⟩
  have hb4 : Below w.heap.size w w35 := HB3.out.trans (keepB_below HD3.out hk4 HS.out)
  have h4' : IsDisk w35 B S (.slice none 0 0) [pad yo] [] (-1) := h4
  have hnn : NumsOff (Mine B S (.slice none 0 0)) w35 (.slice a1 len1 cap1) yn := NumsOff.below (N := 0) HY1.out hb4 (mine_ge h4' HS.out)
  have HD35 := Lib.hid h4'
  have HB35 := Lib.hid hb4
  have HNN2 := Lib.hid hnn
  clear h4 hk4 hb4 h4' hnn HD3 HB3
  go_wp2_with fail
  refine (write_live HD35.out 0 (by simp) _ yn HNN2.out (by omega) HBN.out rfl (by simp)).mono ?_
  rintro e w4 ⟨rfl, vu4, h4, hk4, hv4⟩
  have hb4 : Below w.heap.size w w4 := HB35.out.trans (HD35.out.below hk4 HS.out HB35.out.size)
  have h4' : IsDisk w4 B S vu4 [pad yn] [⟨0, pad yo, pad yn⟩] (-1) := h4
  have HD4 := Lib.hid h4'
  have HB4 := Lib.hid hb4
  clear h4 hk4 hv4 hb4 h4' HNN2 HD35 HB35
  go_wp2_with fail
  refine (crash_any HD4.out 1 torn (by omega) (by omega) (by omega) (by omega) (by simp)).mono ?_
  rintro e w5 ⟨rfl, h5, hk5⟩
  rw [torn_keep _ _ torn 64 (by unfold newN; rw [if_neg (by omega)])] at h5
  have HB5 := Lib.hid (HB4.out.trans (HD4.out.below hk5 HS.out HB4.out.size))
  have HD5 := Lib.hid h5
  clear h5 hk5 HD4 HB4
  go_wp2_with fail
  refine (read_disk HD5.out 0 (by simp)).mono ?_
  rintro e w6 ⟨u6, rfl, hown6, hb6⟩
  have hr6 : [(pad yn).take 64 ++ (pad yo).drop 64].getD 0 [] = (pad yn).take 64 ++ (pad yo).drop 64 := rfl
  rw [hr6] at hown6
  have hrl : ((pad yn).take 64 ++ (pad yo).drop 64).length = 64 := by rw [List.length_append, List.length_take, List.length_drop, HPN.out, HPO.out]; omega
  obtain ⟨p6, c6, rfl⟩ := ownsRow_shape hown6
  obtain ⟨g, rfl, hcs6⟩ : ∃ g, p6 = some ⟨g, 0, none⟩ ∧ ∀ j x, ((pad yn).take 64 ++ (pad yo).drop 64)[j]? = some x → w6.cell? ⟨g, j, none⟩ = some (.int .u8 x) := by
    rcases hown6.2 with ⟨_, e0⟩ | ⟨g, cap, cur, e1, hbg, hgg, hle, _⟩
    · simp at e0
    · injection e1 with e1 e2 e3
      subst e1
      refine ⟨g, rfl, fun j x hj => ?_⟩
      have := hown6.cells (g := g) rfl j (.int .u8 x) (by rw [B8, List.getElem?_map, hj]; rfl)
      rwa [Addr.add_lit, Nat.zero_add] at this
  have hke6 : ∀ p v, w.cell? p = some v → w6.cell? p = some v := fun p v h => by
    have hlt := World.block_lt_of_cell? w p h
    rw [(HB5.out.trans (hb6.mono HB5.out.size)).cell hlt]; exact h
  have HCS6 := Lib.hid hcs6
  have HKE6 := Lib.hid hke6
  have HB6 := Lib.hid (HB5.out.trans (hb6.mono HB5.out.size))
  clear hown6 hr6 hrl hcs6 hke6 hb6 HD5 HB5
  go_wp2
  go_loopw [13] (fun i wr => ∃ k : Nat, k ≤ 64 ∧ i = .int .i64 k ∧ (∀ p v, w.cell? p = some v → wr.cell? p = some v) ∧ (∀ j x, ((pad yn).take 64 ++ (pad yo).drop 64)[j]? = some x → wr.cell? ⟨g, j, none⟩ = some (.int .u8 x)) ∧ Below w.heap.size w wr) (fun i _ => 64 - (intOf i).toNat)
  case atStart => exact ⟨0, Nat.zero_le _, rfl, HKE6.out, HCS6.out, HB6.out⟩
  case round =>
    obtain ⟨i, hi, rfl, hke, hcs, hbw⟩ := hrel
    have HKE := Lib.hid hke
    have HCS := Lib.hid hcs
    have HBW := Lib.hid hbw
    clear hke hcs hbw HCS6 HKE6 HB6
    by_cases hlt : i < 64
    · have hltI : (i : Int) < 64 := by omega
      by_cases q0 : i < len0
      · by_cases q1 : i < len1
        · have t0 : (i : Int) < len0 := by omega
          have t1 : (i : Int) < len1 := by omega
          obtain ⟨x0, b0, o0, hp0, hx0, hxo⟩ := byte_at HY0.out hl0 i (by omega)
          subst hp0
          have hc0 : wr.cell? ⟨b0, o0 + i, none⟩ = some (.int .u8 x0) := HKE.out _ _ hx0
          obtain ⟨x1, b1, o1, hp1, hx1, hxn⟩ := byte_at HY1.out hl1 i (by omega)
          subst hp1
          have hc1 : wr.cell? ⟨b1, o1 + i, none⟩ = some (.int .u8 x1) := HKE.out _ _ hx1
          have hsx : ((pad yn).take 64 ++ (pad yo).drop 64)[i]? = some ((x1 : Int)) := by rw [torn_new _ _ 64 i (by omega) HPN.out (by omega)]; exact pad_in _ i _ hxn
          have hcs : wr.cell? ⟨g, i, none⟩ = some (.int .u8 x1) := HCS.out i _ hsx
          clear hsx hx0 hxo hx1 hxn
          go_wp2
          go_roundw
          case rel => exact ⟨i + 1, by omega, by go_num, HKE.out, HCS.out, HBW.out⟩
          case measure => simp [intOf]; omega
        · have t0 : (i : Int) < len0 := by omega
          have t1 : ¬ (i : Int) < len1 := by omega
          obtain ⟨x0, b0, o0, hp0, hx0, hxo⟩ := byte_at HY0.out hl0 i (by omega)
          subst hp0
          have hc0 : wr.cell? ⟨b0, o0 + i, none⟩ = some (.int .u8 x0) := HKE.out _ _ hx0
          have hsx : ((pad yn).take 64 ++ (pad yo).drop 64)[i]? = some ((0 : Int)) := by rw [torn_new _ _ 64 i (by omega) HPN.out (by omega)]; exact pad_out _ i (by omega) (by omega)
          have hcs : wr.cell? ⟨g, i, none⟩ = some (.int .u8 0) := HCS.out i _ hsx
          clear hsx hx0 hxo
          go_wp2
          go_roundw
          case rel => exact ⟨i + 1, by omega, by go_num, HKE.out, HCS.out, HBW.out⟩
          case measure => simp [intOf]; omega
      · by_cases q1 : i < len1
        · have t0 : ¬ (i : Int) < len0 := by omega
          have t1 : (i : Int) < len1 := by omega
          obtain ⟨x1, b1, o1, hp1, hx1, hxn⟩ := byte_at HY1.out hl1 i (by omega)
          subst hp1
          have hc1 : wr.cell? ⟨b1, o1 + i, none⟩ = some (.int .u8 x1) := HKE.out _ _ hx1
          have hsx : ((pad yn).take 64 ++ (pad yo).drop 64)[i]? = some ((x1 : Int)) := by rw [torn_new _ _ 64 i (by omega) HPN.out (by omega)]; exact pad_in _ i _ hxn
          have hcs : wr.cell? ⟨g, i, none⟩ = some (.int .u8 x1) := HCS.out i _ hsx
          clear hsx hx1 hxn
          go_wp2
          go_roundw
          case rel => exact ⟨i + 1, by omega, by go_num, HKE.out, HCS.out, HBW.out⟩
          case measure => simp [intOf]; omega
        · have t0 : ¬ (i : Int) < len0 := by omega
          have t1 : ¬ (i : Int) < len1 := by omega
          have hsx : ((pad yn).take 64 ++ (pad yo).drop 64)[i]? = some ((0 : Int)) := by rw [torn_new _ _ 64 i (by omega) HPN.out (by omega)]; exact pad_out _ i (by omega) (by omega)
          have hcs : wr.cell? ⟨g, i, none⟩ = some (.int .u8 0) := HCS.out i _ hsx
          clear hsx
          go_wp2
          go_roundw
          case rel => exact ⟨i + 1, by omega, by go_num, HKE.out, HCS.out, HBW.out⟩
          case measure => simp [intOf]; omega
    · obtain rfl : i = 64 := by omega
      go_wp2
      go_ret
      exact ⟨rfl, HBW.out⟩
set_option maxRecDepth 100000 in
set_option maxHeartbeats 2000000 in
theorem torn_true_big (a0 : Option Addr) (len0 cap0 : Nat) (yo : List Int) (a1 : Option Addr) (len1 cap1 : Nat) (yn : List Int) (torn : Int) (t0 : 64 < torn) (t1 : torn ≤ 127) (w : World) (hy0 : IsNums .u8 w (.slice a0 len0 cap0) yo) (hl0 : yo.length = len0) (hb0 : ∀ x ∈ yo, 0 ≤ x ∧ x ≤ 255)
    (hy1 : IsNums .u8 w (.slice a1 len1 cap1) yn) (hl1 : yn.length = len1) (hb1 : ∀ x ∈ yn, 0 ≤ x ∧ x ≤ 255) (s0 : len0 ≤ 64) (s1 : len1 ≤ 64) :
    Calls Try.prog 6 #[.slice a0 len0 cap0, .slice a1 len1 cap1, .int .i8 torn, .bool true] w fun e w' => e = .returned (.bool true) ∧ Below w.heap.size w w' := by
  have s0I : ¬ (64 : Int) < len0 := by omega
  have s1I : ¬ (64 : Int) < len1 := by omega
  have HY0 := Lib.hid hy0
  have HY1 := Lib.hid hy1
  have HBO := Lib.hid hb0
  have HBN := Lib.hid hb1
  have HPO := Lib.hid (pad_ok (by omega) hb0).1
  have HPN := Lib.hid (pad_ok (by omega) hb1).1
  clear hy0 hy1 hb0 hb1
  go_enter Try.func6, Try.ntmps6
  go_wp2_with fail
  refine (known_any w).mono ?_
  rintro e w1 ⟨rfl, hb1⟩
  have HB1 := Lib.hid hb1
  clear hb1
  go_wp2_with fail
  refine (new_disk 1 w1 (by omega)).mono ?_
  rintro e w2 ⟨B, S, rfl, hS, h2, hb2⟩
  have HB2 := Lib.hid (HB1.out.trans (hb2.mono HB1.out.size))
  have HS := Lib.hid (show w.heap.size ≤ S from Nat.le_trans HB1.out.size hS)
  have H2 := Lib.hid h2
  have hno : NumsOff (Mine B S (.slice none 0 0)) w2 (.slice a0 len0 cap0) yo := NumsOff.below (N := 0) HY0.out HB2.out (mine_ge H2.out HS.out)
  have hnn : NumsOff (Mine B S (.slice none 0 0)) w2 (.slice a1 len1 cap1) yn := NumsOff.below (N := 0) HY1.out HB2.out (mine_ge H2.out HS.out)
  have HNO := Lib.hid hno
  have HNN := Lib.hid hnn
  clear hb2 h2 hS hno hnn
  go_wp2_with fail
  refine (write_live H2.out 0 (by simp) _ yo HNO.out (by omega) HBO.out rfl (by simp)).mono ?_
  rintro e w3 ⟨rfl, vu3, h3, hk3, hv3⟩
  have hb3 : Below w.heap.size w w3 := HB2.out.trans (H2.out.below hk3 HS.out HB2.out.size)
  have h3' : IsDisk w3 B S vu3 [pad yo] [⟨0, zeros, pad yo⟩] (-1) := h3
  have HD3 := Lib.hid h3'
  have HB3 := Lib.hid hb3
  clear h3 hk3 hv3 hb3 h3'
  go_wp2_with fail
  refine (flush_live HD3.out rfl).mono ?_
  rintro e w35 ⟨rfl, h4, hk4⟩
  have hb4 : Below w.heap.size w w35 := HB3.out.trans (keepB_below HD3.out hk4 HS.out)
  have h4' : IsDisk w35 B S (.slice none 0 0) [pad yo] [] (-1) := h4
  have hnn : NumsOff (Mine B S (.slice none 0 0)) w35 (.slice a1 len1 cap1) yn := NumsOff.below (N := 0) HY1.out hb4 (mine_ge h4' HS.out)
  have HD35 := Lib.hid h4'
  have HB35 := Lib.hid hb4
  have HNN2 := Lib.hid hnn
  clear h4 hk4 hb4 h4' hnn HD3 HB3
  go_wp2_with fail
  refine (write_live HD35.out 0 (by simp) _ yn HNN2.out (by omega) HBN.out rfl (by simp)).mono ?_
  rintro e w4 ⟨rfl, vu4, h4, hk4, hv4⟩
  have hb4 : Below w.heap.size w w4 := HB35.out.trans (HD35.out.below hk4 HS.out HB35.out.size)
  have h4' : IsDisk w4 B S vu4 [pad yn] [⟨0, pad yo, pad yn⟩] (-1) := h4
  have HD4 := Lib.hid h4'
  have HB4 := Lib.hid hb4
  clear h4 hk4 hv4 hb4 h4' HNN2 HD35 HB35
  go_wp2_with fail
  refine (crash_any HD4.out 1 torn (by omega) (by omega) (by omega) (by omega) (by simp)).mono ?_
  rintro e w5 ⟨rfl, h5, hk5⟩
  rw [torn_keep _ _ torn 64 (by unfold newN; rw [if_neg (by omega)])] at h5
  have HB5 := Lib.hid (HB4.out.trans (HD4.out.below hk5 HS.out HB4.out.size))
  have HD5 := Lib.hid h5
  clear h5 hk5 HD4 HB4
  go_wp2_with fail
  refine (read_disk HD5.out 0 (by simp)).mono ?_
  rintro e w6 ⟨u6, rfl, hown6, hb6⟩
  have hr6 : [(pad yn).take 64 ++ (pad yo).drop 64].getD 0 [] = (pad yn).take 64 ++ (pad yo).drop 64 := rfl
  rw [hr6] at hown6
  have hrl : ((pad yn).take 64 ++ (pad yo).drop 64).length = 64 := by rw [List.length_append, List.length_take, List.length_drop, HPN.out, HPO.out]; omega
  obtain ⟨p6, c6, rfl⟩ := ownsRow_shape hown6
  obtain ⟨g, rfl, hcs6⟩ : ∃ g, p6 = some ⟨g, 0, none⟩ ∧ ∀ j x, ((pad yn).take 64 ++ (pad yo).drop 64)[j]? = some x → w6.cell? ⟨g, j, none⟩ = some (.int .u8 x) := by
    rcases hown6.2 with ⟨_, e0⟩ | ⟨g, cap, cur, e1, hbg, hgg, hle, _⟩
    · simp at e0
    · injection e1 with e1 e2 e3
      subst e1
      refine ⟨g, rfl, fun j x hj => ?_⟩
      have := hown6.cells (g := g) rfl j (.int .u8 x) (by rw [B8, List.getElem?_map, hj]; rfl)
      rwa [Addr.add_lit, Nat.zero_add] at this
  have hke6 : ∀ p v, w.cell? p = some v → w6.cell? p = some v := fun p v h => by
    have hlt := World.block_lt_of_cell? w p h
    rw [(HB5.out.trans (hb6.mono HB5.out.size)).cell hlt]; exact h
  have HCS6 := Lib.hid hcs6
  have HKE6 := Lib.hid hke6
  have HB6 := Lib.hid (HB5.out.trans (hb6.mono HB5.out.size))
  clear hown6 hr6 hrl hcs6 hke6 hb6 HD5 HB5
  go_wp2
  go_loopw [13] (fun i wr => ∃ k : Nat, k ≤ 64 ∧ i = .int .i64 k ∧ (∀ p v, w.cell? p = some v → wr.cell? p = some v) ∧ (∀ j x, ((pad yn).take 64 ++ (pad yo).drop 64)[j]? = some x → wr.cell? ⟨g, j, none⟩ = some (.int .u8 x)) ∧ Below w.heap.size w wr) (fun i _ => 64 - (intOf i).toNat)
  case atStart => exact ⟨0, Nat.zero_le _, rfl, HKE6.out, HCS6.out, HB6.out⟩
  case round =>
    obtain ⟨i, hi, rfl, hke, hcs, hbw⟩ := hrel
    have HKE := Lib.hid hke
    have HCS := Lib.hid hcs
    have HBW := Lib.hid hbw
    clear hke hcs hbw HCS6 HKE6 HB6
    by_cases hlt : i < 64
    · have hltI : (i : Int) < 64 := by omega
      by_cases q0 : i < len0
      · by_cases q1 : i < len1
        · have t0 : (i : Int) < len0 := by omega
          have t1 : (i : Int) < len1 := by omega
          obtain ⟨x0, b0, o0, hp0, hx0, hxo⟩ := byte_at HY0.out hl0 i (by omega)
          subst hp0
          have hc0 : wr.cell? ⟨b0, o0 + i, none⟩ = some (.int .u8 x0) := HKE.out _ _ hx0
          obtain ⟨x1, b1, o1, hp1, hx1, hxn⟩ := byte_at HY1.out hl1 i (by omega)
          subst hp1
          have hc1 : wr.cell? ⟨b1, o1 + i, none⟩ = some (.int .u8 x1) := HKE.out _ _ hx1
          have hsx : ((pad yn).take 64 ++ (pad yo).drop 64)[i]? = some ((x1 : Int)) := by rw [torn_new _ _ 64 i (by omega) HPN.out (by omega)]; exact pad_in _ i _ hxn
          have hcs : wr.cell? ⟨g, i, none⟩ = some (.int .u8 x1) := HCS.out i _ hsx
          clear hsx hx0 hxo hx1 hxn
          go_wp2
          go_roundw
          case rel => exact ⟨i + 1, by omega, by go_num, HKE.out, HCS.out, HBW.out⟩
          case measure => simp [intOf]; omega
        · have t0 : (i : Int) < len0 := by omega
          have t1 : ¬ (i : Int) < len1 := by omega
          obtain ⟨x0, b0, o0, hp0, hx0, hxo⟩ := byte_at HY0.out hl0 i (by omega)
          subst hp0
          have hc0 : wr.cell? ⟨b0, o0 + i, none⟩ = some (.int .u8 x0) := HKE.out _ _ hx0
          have hsx : ((pad yn).take 64 ++ (pad yo).drop 64)[i]? = some ((0 : Int)) := by rw [torn_new _ _ 64 i (by omega) HPN.out (by omega)]; exact pad_out _ i (by omega) (by omega)
          have hcs : wr.cell? ⟨g, i, none⟩ = some (.int .u8 0) := HCS.out i _ hsx
          clear hsx hx0 hxo
          go_wp2
          go_roundw
          case rel => exact ⟨i + 1, by omega, by go_num, HKE.out, HCS.out, HBW.out⟩
          case measure => simp [intOf]; omega
      · by_cases q1 : i < len1
        · have t0 : ¬ (i : Int) < len0 := by omega
          have t1 : (i : Int) < len1 := by omega
          obtain ⟨x1, b1, o1, hp1, hx1, hxn⟩ := byte_at HY1.out hl1 i (by omega)
          subst hp1
          have hc1 : wr.cell? ⟨b1, o1 + i, none⟩ = some (.int .u8 x1) := HKE.out _ _ hx1
          have hsx : ((pad yn).take 64 ++ (pad yo).drop 64)[i]? = some ((x1 : Int)) := by rw [torn_new _ _ 64 i (by omega) HPN.out (by omega)]; exact pad_in _ i _ hxn
          have hcs : wr.cell? ⟨g, i, none⟩ = some (.int .u8 x1) := HCS.out i _ hsx
          clear hsx hx1 hxn
          go_wp2
          go_roundw
          case rel => exact ⟨i + 1, by omega, by go_num, HKE.out, HCS.out, HBW.out⟩
          case measure => simp [intOf]; omega
        · have t0 : ¬ (i : Int) < len0 := by omega
          have t1 : ¬ (i : Int) < len1 := by omega
          have hsx : ((pad yn).take 64 ++ (pad yo).drop 64)[i]? = some ((0 : Int)) := by rw [torn_new _ _ 64 i (by omega) HPN.out (by omega)]; exact pad_out _ i (by omega) (by omega)
          have hcs : wr.cell? ⟨g, i, none⟩ = some (.int .u8 0) := HCS.out i _ hsx
          clear hsx
          go_wp2
          go_roundw
          case rel => exact ⟨i + 1, by omega, by go_num, HKE.out, HCS.out, HBW.out⟩
          case measure => simp [intOf]; omega
    · obtain rfl : i = 64 := by omega
      go_wp2
      go_ret
      exact ⟨rfl, HBW.out⟩
set_option maxRecDepth 100000 in
set_option maxHeartbeats 2000000 in
theorem torn_true_mid (a0 : Option Addr) (len0 cap0 : Nat) (yo : List Int) (a1 : Option Addr) (len1 cap1 : Nat) (yn : List Int) (tn : Nat) (t0 : tn ≤ 64) (w : World) (hy0 : IsNums .u8 w (.slice a0 len0 cap0) yo) (hl0 : yo.length = len0) (hb0 : ∀ x ∈ yo, 0 ≤ x ∧ x ≤ 255)
    (hy1 : IsNums .u8 w (.slice a1 len1 cap1) yn) (hl1 : yn.length = len1) (hb1 : ∀ x ∈ yn, 0 ≤ x ∧ x ≤ 255) (s0 : len0 ≤ 64) (s1 : len1 ≤ 64) :
    Calls Try.prog 6 #[.slice a0 len0 cap0, .slice a1 len1 cap1, .int .i8 (tn : Int), .bool true] w fun e w' => e = .returned (.bool true) ∧ Below w.heap.size w w' := by
  have s0I : ¬ (64 : Int) < len0 := by omega
  have s1I : ¬ (64 : Int) < len1 := by omega
  have HY0 := Lib.hid hy0
  have HY1 := Lib.hid hy1
  have HBO := Lib.hid hb0
  have HBN := Lib.hid hb1
  have HPO := Lib.hid (pad_ok (by omega) hb0).1
  have HPN := Lib.hid (pad_ok (by omega) hb1).1
  clear hy0 hy1 hb0 hb1
  have t1I : (tn : Int) ≤ 64 := by omega
  have t2I : ¬ (64 : Int) < tn := by omega
  have t3I : ¬ (tn : Int) < 0 := by omega
  go_enter Try.func6, Try.ntmps6
  go_wp2_with fail
  refine (known_any w).mono ?_
  rintro e w1 ⟨rfl, hb1⟩
  have HB1 := Lib.hid hb1
  clear hb1
  go_wp2_with fail
  refine (new_disk 1 w1 (by omega)).mono ?_
  rintro e w2 ⟨B, S, rfl, hS, h2, hb2⟩
  have HB2 := Lib.hid (HB1.out.trans (hb2.mono HB1.out.size))
  have HS := Lib.hid (show w.heap.size ≤ S from Nat.le_trans HB1.out.size hS)
  have H2 := Lib.hid h2
  have hno : NumsOff (Mine B S (.slice none 0 0)) w2 (.slice a0 len0 cap0) yo := NumsOff.below (N := 0) HY0.out HB2.out (mine_ge H2.out HS.out)
  have hnn : NumsOff (Mine B S (.slice none 0 0)) w2 (.slice a1 len1 cap1) yn := NumsOff.below (N := 0) HY1.out HB2.out (mine_ge H2.out HS.out)
  have HNO := Lib.hid hno
  have HNN := Lib.hid hnn
  clear hb2 h2 hS hno hnn
  go_wp2_with fail
  refine (write_live H2.out 0 (by simp) _ yo HNO.out (by omega) HBO.out rfl (by simp)).mono ?_
  rintro e w3 ⟨rfl, vu3, h3, hk3, hv3⟩
  have hb3 : Below w.heap.size w w3 := HB2.out.trans (H2.out.below hk3 HS.out HB2.out.size)
  have h3' : IsDisk w3 B S vu3 [pad yo] [⟨0, zeros, pad yo⟩] (-1) := h3
  have HD3 := Lib.hid h3'
  have HB3 := Lib.hid hb3
  clear h3 hk3 hv3 hb3 h3'
  go_wp2_with fail
  refine (flush_live HD3.out rfl).mono ?_
  rintro e w35 ⟨rfl, h4, hk4⟩
  have hb4 : Below w.heap.size w w35 := HB3.out.trans (keepB_below HD3.out hk4 HS.out)
  have h4' : IsDisk w35 B S (.slice none 0 0) [pad yo] [] (-1) := h4
  have hnn : NumsOff (Mine B S (.slice none 0 0)) w35 (.slice a1 len1 cap1) yn := NumsOff.below (N := 0) HY1.out hb4 (mine_ge h4' HS.out)
  have HD35 := Lib.hid h4'
  have HB35 := Lib.hid hb4
  have HNN2 := Lib.hid hnn
  clear h4 hk4 hb4 h4' hnn HD3 HB3
  go_wp2_with fail
  refine (write_live HD35.out 0 (by simp) _ yn HNN2.out (by omega) HBN.out rfl (by simp)).mono ?_
  rintro e w4 ⟨rfl, vu4, h4, hk4, hv4⟩
  have hb4 : Below w.heap.size w w4 := HB35.out.trans (HD35.out.below hk4 HS.out HB35.out.size)
  have h4' : IsDisk w4 B S vu4 [pad yn] [⟨0, pad yo, pad yn⟩] (-1) := h4
  have HD4 := Lib.hid h4'
  have HB4 := Lib.hid hb4
  clear h4 hk4 hv4 hb4 h4' HNN2 HD35 HB35
  go_wp2_with fail
  refine (crash_any HD4.out 1 (tn : Int) (by omega) (by omega) (by omega) (by omega) (by simp)).mono ?_
  rintro e w5 ⟨rfl, h5, hk5⟩
  rw [torn_keep _ _ (tn : Int) tn (by unfold newN; by_cases hq : tn < 64; (rw [if_pos ⟨rfl, by omega, by omega⟩]; omega); (rw [if_neg (by omega)]; omega))] at h5
  have HB5 := Lib.hid (HB4.out.trans (HD4.out.below hk5 HS.out HB4.out.size))
  have HD5 := Lib.hid h5
  clear h5 hk5 HD4 HB4
  go_wp2_with fail
  refine (read_disk HD5.out 0 (by simp)).mono ?_
  rintro e w6 ⟨u6, rfl, hown6, hb6⟩
  have hr6 : [(pad yn).take tn ++ (pad yo).drop tn].getD 0 [] = (pad yn).take tn ++ (pad yo).drop tn := rfl
  rw [hr6] at hown6
  have hrl : ((pad yn).take tn ++ (pad yo).drop tn).length = 64 := by rw [List.length_append, List.length_take, List.length_drop, HPN.out, HPO.out]; omega
  obtain ⟨p6, c6, rfl⟩ := ownsRow_shape hown6
  obtain ⟨g, rfl, hcs6⟩ : ∃ g, p6 = some ⟨g, 0, none⟩ ∧ ∀ j x, ((pad yn).take tn ++ (pad yo).drop tn)[j]? = some x → w6.cell? ⟨g, j, none⟩ = some (.int .u8 x) := by
    rcases hown6.2 with ⟨_, e0⟩ | ⟨g, cap, cur, e1, hbg, hgg, hle, _⟩
    · simp at e0
    · injection e1 with e1 e2 e3
      subst e1
      refine ⟨g, rfl, fun j x hj => ?_⟩
      have := hown6.cells (g := g) rfl j (.int .u8 x) (by rw [B8, List.getElem?_map, hj]; rfl)
      rwa [Addr.add_lit, Nat.zero_add] at this
  have hke6 : ∀ p v, w.cell? p = some v → w6.cell? p = some v := fun p v h => by
    have hlt := World.block_lt_of_cell? w p h
    rw [(HB5.out.trans (hb6.mono HB5.out.size)).cell hlt]; exact h
  have HCS6 := Lib.hid hcs6
  have HKE6 := Lib.hid hke6
  have HB6 := Lib.hid (HB5.out.trans (hb6.mono HB5.out.size))
  clear hown6 hr6 hrl hcs6 hke6 hb6 HD5 HB5
  go_wp2
  go_loopw [13] (fun i wr => ∃ k : Nat, k ≤ 64 ∧ i = .int .i64 k ∧ (∀ p v, w.cell? p = some v → wr.cell? p = some v) ∧ (∀ j x, ((pad yn).take tn ++ (pad yo).drop tn)[j]? = some x → wr.cell? ⟨g, j, none⟩ = some (.int .u8 x)) ∧ Below w.heap.size w wr) (fun i _ => 64 - (intOf i).toNat)
  case atStart => exact ⟨0, Nat.zero_le _, rfl, HKE6.out, HCS6.out, HB6.out⟩
  case round =>
    obtain ⟨i, hi, rfl, hke, hcs, hbw⟩ := hrel
    have HKE := Lib.hid hke
    have HCS := Lib.hid hcs
    have HBW := Lib.hid hbw
    clear hke hcs hbw HCS6 HKE6 HB6
    by_cases hlt : i < 64
    · have hltI : (i : Int) < 64 := by omega
      by_cases q0 : i < len0
      · by_cases q1 : i < len1
        · by_cases q2 : i < tn
          · have t0 : (i : Int) < len0 := by omega
            have t1 : (i : Int) < len1 := by omega
            have t2 : (i : Int) < tn := by omega
            obtain ⟨x0, b0, o0, hp0, hx0, hxo⟩ := byte_at HY0.out hl0 i (by omega)
            subst hp0
            have hc0 : wr.cell? ⟨b0, o0 + i, none⟩ = some (.int .u8 x0) := HKE.out _ _ hx0
            obtain ⟨x1, b1, o1, hp1, hx1, hxn⟩ := byte_at HY1.out hl1 i (by omega)
            subst hp1
            have hc1 : wr.cell? ⟨b1, o1 + i, none⟩ = some (.int .u8 x1) := HKE.out _ _ hx1
            have hsx : ((pad yn).take tn ++ (pad yo).drop tn)[i]? = some ((x1 : Int)) := by rw [torn_new _ _ tn i (by omega) HPN.out (by omega)]; exact pad_in _ i _ hxn
            have hcs : wr.cell? ⟨g, i, none⟩ = some (.int .u8 x1) := HCS.out i _ hsx
            clear hsx hx0 hxo hx1 hxn
            go_wp2
            go_roundw
            case rel => exact ⟨i + 1, by omega, by go_num, HKE.out, HCS.out, HBW.out⟩
            case measure => simp [intOf]; omega
          · have t0 : (i : Int) < len0 := by omega
            have t1 : (i : Int) < len1 := by omega
            have t2 : ¬ (i : Int) < tn := by omega
            obtain ⟨x0, b0, o0, hp0, hx0, hxo⟩ := byte_at HY0.out hl0 i (by omega)
            subst hp0
            have hc0 : wr.cell? ⟨b0, o0 + i, none⟩ = some (.int .u8 x0) := HKE.out _ _ hx0
            obtain ⟨x1, b1, o1, hp1, hx1, hxn⟩ := byte_at HY1.out hl1 i (by omega)
            subst hp1
            have hc1 : wr.cell? ⟨b1, o1 + i, none⟩ = some (.int .u8 x1) := HKE.out _ _ hx1
            have hsx : ((pad yn).take tn ++ (pad yo).drop tn)[i]? = some ((x0 : Int)) := by rw [torn_old _ _ tn i (by omega) HPO.out HPN.out]; exact pad_in _ i _ hxo
            have hcs : wr.cell? ⟨g, i, none⟩ = some (.int .u8 x0) := HCS.out i _ hsx
            clear hsx hx0 hxo hx1 hxn
            go_wp2
            go_roundw
            case rel => exact ⟨i + 1, by omega, by go_num, HKE.out, HCS.out, HBW.out⟩
            case measure => simp [intOf]; omega
        · by_cases q2 : i < tn
          · have t0 : (i : Int) < len0 := by omega
            have t1 : ¬ (i : Int) < len1 := by omega
            have t2 : (i : Int) < tn := by omega
            obtain ⟨x0, b0, o0, hp0, hx0, hxo⟩ := byte_at HY0.out hl0 i (by omega)
            subst hp0
            have hc0 : wr.cell? ⟨b0, o0 + i, none⟩ = some (.int .u8 x0) := HKE.out _ _ hx0
            have hsx : ((pad yn).take tn ++ (pad yo).drop tn)[i]? = some ((0 : Int)) := by rw [torn_new _ _ tn i (by omega) HPN.out (by omega)]; exact pad_out _ i (by omega) (by omega)
            have hcs : wr.cell? ⟨g, i, none⟩ = some (.int .u8 0) := HCS.out i _ hsx
            clear hsx hx0 hxo
            go_wp2
            go_roundw
            case rel => exact ⟨i + 1, by omega, by go_num, HKE.out, HCS.out, HBW.out⟩
            case measure => simp [intOf]; omega
          · have t0 : (i : Int) < len0 := by omega
            have t1 : ¬ (i : Int) < len1 := by omega
            have t2 : ¬ (i : Int) < tn := by omega
            obtain ⟨x0, b0, o0, hp0, hx0, hxo⟩ := byte_at HY0.out hl0 i (by omega)
            subst hp0
            have hc0 : wr.cell? ⟨b0, o0 + i, none⟩ = some (.int .u8 x0) := HKE.out _ _ hx0
            have hsx : ((pad yn).take tn ++ (pad yo).drop tn)[i]? = some ((x0 : Int)) := by rw [torn_old _ _ tn i (by omega) HPO.out HPN.out]; exact pad_in _ i _ hxo
            have hcs : wr.cell? ⟨g, i, none⟩ = some (.int .u8 x0) := HCS.out i _ hsx
            clear hsx hx0 hxo
            go_wp2
            go_roundw
            case rel => exact ⟨i + 1, by omega, by go_num, HKE.out, HCS.out, HBW.out⟩
            case measure => simp [intOf]; omega
      · by_cases q1 : i < len1
        · by_cases q2 : i < tn
          · have t0 : ¬ (i : Int) < len0 := by omega
            have t1 : (i : Int) < len1 := by omega
            have t2 : (i : Int) < tn := by omega
            obtain ⟨x1, b1, o1, hp1, hx1, hxn⟩ := byte_at HY1.out hl1 i (by omega)
            subst hp1
            have hc1 : wr.cell? ⟨b1, o1 + i, none⟩ = some (.int .u8 x1) := HKE.out _ _ hx1
            have hsx : ((pad yn).take tn ++ (pad yo).drop tn)[i]? = some ((x1 : Int)) := by rw [torn_new _ _ tn i (by omega) HPN.out (by omega)]; exact pad_in _ i _ hxn
            have hcs : wr.cell? ⟨g, i, none⟩ = some (.int .u8 x1) := HCS.out i _ hsx
            clear hsx hx1 hxn
            go_wp2
            go_roundw
            case rel => exact ⟨i + 1, by omega, by go_num, HKE.out, HCS.out, HBW.out⟩
            case measure => simp [intOf]; omega
          · have t0 : ¬ (i : Int) < len0 := by omega
            have t1 : (i : Int) < len1 := by omega
            have t2 : ¬ (i : Int) < tn := by omega
            obtain ⟨x1, b1, o1, hp1, hx1, hxn⟩ := byte_at HY1.out hl1 i (by omega)
            subst hp1
            have hc1 : wr.cell? ⟨b1, o1 + i, none⟩ = some (.int .u8 x1) := HKE.out _ _ hx1
            have hsx : ((pad yn).take tn ++ (pad yo).drop tn)[i]? = some ((0 : Int)) := by rw [torn_old _ _ tn i (by omega) HPO.out HPN.out]; exact pad_out _ i (by omega) (by omega)
            have hcs : wr.cell? ⟨g, i, none⟩ = some (.int .u8 0) := HCS.out i _ hsx
            clear hsx hx1 hxn
            go_wp2
            go_roundw
            case rel => exact ⟨i + 1, by omega, by go_num, HKE.out, HCS.out, HBW.out⟩
            case measure => simp [intOf]; omega
        · by_cases q2 : i < tn
          · have t0 : ¬ (i : Int) < len0 := by omega
            have t1 : ¬ (i : Int) < len1 := by omega
            have t2 : (i : Int) < tn := by omega
            have hsx : ((pad yn).take tn ++ (pad yo).drop tn)[i]? = some ((0 : Int)) := by rw [torn_new _ _ tn i (by omega) HPN.out (by omega)]; exact pad_out _ i (by omega) (by omega)
            have hcs : wr.cell? ⟨g, i, none⟩ = some (.int .u8 0) := HCS.out i _ hsx
            clear hsx
            go_wp2
            go_roundw
            case rel => exact ⟨i + 1, by omega, by go_num, HKE.out, HCS.out, HBW.out⟩
            case measure => simp [intOf]; omega
          · have t0 : ¬ (i : Int) < len0 := by omega
            have t1 : ¬ (i : Int) < len1 := by omega
            have t2 : ¬ (i : Int) < tn := by omega
            have hsx : ((pad yn).take tn ++ (pad yo).drop tn)[i]? = some ((0 : Int)) := by rw [torn_old _ _ tn i (by omega) HPO.out HPN.out]; exact pad_out _ i (by omega) (by omega)
            have hcs : wr.cell? ⟨g, i, none⟩ = some (.int .u8 0) := HCS.out i _ hsx
            clear hsx
            go_wp2
            go_roundw
            case rel => exact ⟨i + 1, by omega, by go_num, HKE.out, HCS.out, HBW.out⟩
            case measure => simp [intOf]; omega
    · obtain rfl : i = 64 := by omega
      go_wp2
      go_ret
      exact ⟨rfl, HBW.out⟩
set_option maxRecDepth 100000 in
set_option maxHeartbeats 2000000 in
theorem torn_false_neg (a0 : Option Addr) (len0 cap0 : Nat) (yo : List Int) (a1 : Option Addr) (len1 cap1 : Nat) (yn : List Int) (torn : Int) (t0 : torn < 0) (t1 : -128 ≤ torn) (w : World) (hy0 : IsNums .u8 w (.slice a0 len0 cap0) yo) (hl0 : yo.length = len0) (hb0 : ∀ x ∈ yo, 0 ≤ x ∧ x ≤ 255)
    (hy1 : IsNums .u8 w (.slice a1 len1 cap1) yn) (hl1 : yn.length = len1) (hb1 : ∀ x ∈ yn, 0 ≤ x ∧ x ≤ 255) (s0 : len0 ≤ 64) (s1 : len1 ≤ 64) :
    Calls Try.prog 6 #[.slice a0 len0 cap0, .slice a1 len1 cap1, .int .i8 torn, .bool false] w fun e w' => e = .returned (.bool true) ∧ Below w.heap.size w w' := by
  have s0I : ¬ (64 : Int) < len0 := by omega
  have s1I : ¬ (64 : Int) < len1 := by omega
  have HY0 := Lib.hid hy0
  have HY1 := Lib.hid hy1
  have HBO := Lib.hid hb0
  have HBN := Lib.hid hb1
  have HPO := Lib.hid (pad_ok (by omega) hb0).1
  have HPN := Lib.hid (pad_ok (by omega) hb1).1
  clear hy0 hy1 hb0 hb1
  go_enter Try.func6, Try.ntmps6
  go_wp2_with fail
  refine (known_any w).mono ?_
  rintro e w1 ⟨rfl, hb1⟩
  have HB1 := Lib.hid hb1
  clear hb1
  go_wp2_with fail
  refine (new_disk 1 w1 (by omega)).mono ?_
  rintro e w2 ⟨B, S, rfl, hS, h2, hb2⟩
  have HB2 := Lib.hid (HB1.out.trans (hb2.mono HB1.out.size))
  have HS := Lib.hid (show w.heap.size ≤ S from Nat.le_trans HB1.out.size hS)
  have H2 := Lib.hid h2
  have hno : NumsOff (Mine B S (.slice none 0 0)) w2 (.slice a0 len0 cap0) yo := NumsOff.below (N := 0) HY0.out HB2.out (mine_ge H2.out HS.out)
  have hnn : NumsOff (Mine B S (.slice none 0 0)) w2 (.slice a1 len1 cap1) yn := NumsOff.below (N := 0) HY1.out HB2.out (mine_ge H2.out HS.out)
  have HNO := Lib.hid hno
  have HNN := Lib.hid hnn
  clear hb2 h2 hS hno hnn
  go_wp2_with fail
  refine (write_live H2.out 0 (by simp) _ yo HNO.out (by omega) HBO.out rfl (by simp)).mono ?_
  rintro e w3 ⟨rfl, vu3, h3, hk3, hv3⟩
  have hb3 : Below w.heap.size w w3 := HB2.out.trans (H2.out.below hk3 HS.out HB2.out.size)
  have h3' : IsDisk w3 B S vu3 [pad yo] [⟨0, zeros, pad yo⟩] (-1) := h3
  have HD3 := Lib.hid h3'
  have HB3 := Lib.hid hb3
  clear h3 hk3 hv3 hb3 h3'
  go_wp2_with fail
  refine (flush_live HD3.out rfl).mono ?_
  rintro e w35 ⟨rfl, h4, hk4⟩
  have hb4 : Below w.heap.size w w35 := HB3.out.trans (keepB_below HD3.out hk4 HS.out)
  have h4' : IsDisk w35 B S (.slice none 0 0) [pad yo] [] (-1) := h4
  have hnn : NumsOff (Mine B S (.slice none 0 0)) w35 (.slice a1 len1 cap1) yn := NumsOff.below (N := 0) HY1.out hb4 (mine_ge h4' HS.out)
  have HD35 := Lib.hid h4'
  have HB35 := Lib.hid hb4
  have HNN2 := Lib.hid hnn
  clear h4 hk4 hb4 h4' hnn HD3 HB3
  go_wp2_with fail
  refine (write_live HD35.out 0 (by simp) _ yn HNN2.out (by omega) HBN.out rfl (by simp)).mono ?_
  rintro e w4 ⟨rfl, vu4, h4, hk4, hv4⟩
  have hb4 : Below w.heap.size w w4 := HB35.out.trans (HD35.out.below hk4 HS.out HB35.out.size)
  have h4' : IsDisk w4 B S vu4 [pad yn] [⟨0, pad yo, pad yn⟩] (-1) := h4
  have HD4 := Lib.hid h4'
  have HB4 := Lib.hid hb4
  clear h4 hk4 hv4 hb4 h4' HNN2 HD35 HB35
  go_wp2_with fail
  refine (crash_any HD4.out 0 torn (by omega) (by omega) (by omega) (by omega) (by simp)).mono ?_
  rintro e w5 ⟨rfl, h5, hk5⟩
  rw [torn_drop _ _ torn] at h5
  have HB5 := Lib.hid (HB4.out.trans (HD4.out.below hk5 HS.out HB4.out.size))
  have HD5 := Lib.hid h5
  clear h5 hk5 HD4 HB4
  go_wp2_with fail
  refine (read_disk HD5.out 0 (by simp)).mono ?_
  rintro e w6 ⟨u6, rfl, hown6, hb6⟩
  have hr6 : [(pad yn).take 0 ++ (pad yo).drop 0].getD 0 [] = (pad yn).take 0 ++ (pad yo).drop 0 := rfl
  rw [hr6] at hown6
  have hrl : ((pad yn).take 0 ++ (pad yo).drop 0).length = 64 := by rw [List.length_append, List.length_take, List.length_drop, HPN.out, HPO.out]; omega
  obtain ⟨p6, c6, rfl⟩ := ownsRow_shape hown6
  obtain ⟨g, rfl, hcs6⟩ : ∃ g, p6 = some ⟨g, 0, none⟩ ∧ ∀ j x, ((pad yn).take 0 ++ (pad yo).drop 0)[j]? = some x → w6.cell? ⟨g, j, none⟩ = some (.int .u8 x) := by
    rcases hown6.2 with ⟨_, e0⟩ | ⟨g, cap, cur, e1, hbg, hgg, hle, _⟩
    · simp at e0
    · injection e1 with e1 e2 e3
      subst e1
      refine ⟨g, rfl, fun j x hj => ?_⟩
      have := hown6.cells (g := g) rfl j (.int .u8 x) (by rw [B8, List.getElem?_map, hj]; rfl)
      rwa [Addr.add_lit, Nat.zero_add] at this
  have hke6 : ∀ p v, w.cell? p = some v → w6.cell? p = some v := fun p v h => by
    have hlt := World.block_lt_of_cell? w p h
    rw [(HB5.out.trans (hb6.mono HB5.out.size)).cell hlt]; exact h
  have HCS6 := Lib.hid hcs6
  have HKE6 := Lib.hid hke6
  have HB6 := Lib.hid (HB5.out.trans (hb6.mono HB5.out.size))
  clear hown6 hr6 hrl hcs6 hke6 hb6 HD5 HB5
  go_wp2
  go_loopw [13] (fun i wr => ∃ k : Nat, k ≤ 64 ∧ i = .int .i64 k ∧ (∀ p v, w.cell? p = some v → wr.cell? p = some v) ∧ (∀ j x, ((pad yn).take 0 ++ (pad yo).drop 0)[j]? = some x → wr.cell? ⟨g, j, none⟩ = some (.int .u8 x)) ∧ Below w.heap.size w wr) (fun i _ => 64 - (intOf i).toNat)
  case atStart => exact ⟨0, Nat.zero_le _, rfl, HKE6.out, HCS6.out, HB6.out⟩
  case round =>
    obtain ⟨i, hi, rfl, hke, hcs, hbw⟩ := hrel
    have HKE := Lib.hid hke
    have HCS := Lib.hid hcs
    have HBW := Lib.hid hbw
    clear hke hcs hbw HCS6 HKE6 HB6
    by_cases hlt : i < 64
    · have hltI : (i : Int) < 64 := by omega
      by_cases q0 : i < len0
      · by_cases q1 : i < len1
        · have t0 : (i : Int) < len0 := by omega
          have t1 : (i : Int) < len1 := by omega
          obtain ⟨x0, b0, o0, hp0, hx0, hxo⟩ := byte_at HY0.out hl0 i (by omega)
          subst hp0
          have hc0 : wr.cell? ⟨b0, o0 + i, none⟩ = some (.int .u8 x0) := HKE.out _ _ hx0
          obtain ⟨x1, b1, o1, hp1, hx1, hxn⟩ := byte_at HY1.out hl1 i (by omega)
          subst hp1
          have hc1 : wr.cell? ⟨b1, o1 + i, none⟩ = some (.int .u8 x1) := HKE.out _ _ hx1
          have hsx : ((pad yn).take 0 ++ (pad yo).drop 0)[i]? = some ((x0 : Int)) := by rw [torn_old _ _ 0 i (by omega) HPO.out HPN.out]; exact pad_in _ i _ hxo
          have hcs : wr.cell? ⟨g, i, none⟩ = some (.int .u8 x0) := HCS.out i _ hsx
          clear hsx hx0 hxo hx1 hxn
          go_wp2
          go_roundw
          case rel => exact ⟨i + 1, by omega, by go_num, HKE.out, HCS.out, HBW.out⟩
          case measure => simp [intOf]; omega
        · have t0 : (i : Int) < len0 := by omega
          have t1 : ¬ (i : Int) < len1 := by omega
          obtain ⟨x0, b0, o0, hp0, hx0, hxo⟩ := byte_at HY0.out hl0 i (by omega)
          subst hp0
          have hc0 : wr.cell? ⟨b0, o0 + i, none⟩ = some (.int .u8 x0) := HKE.out _ _ hx0
          have hsx : ((pad yn).take 0 ++ (pad yo).drop 0)[i]? = some ((x0 : Int)) := by rw [torn_old _ _ 0 i (by omega) HPO.out HPN.out]; exact pad_in _ i _ hxo
          have hcs : wr.cell? ⟨g, i, none⟩ = some (.int .u8 x0) := HCS.out i _ hsx
          clear hsx hx0 hxo
          go_wp2
          go_roundw
          case rel => exact ⟨i + 1, by omega, by go_num, HKE.out, HCS.out, HBW.out⟩
          case measure => simp [intOf]; omega
      · by_cases q1 : i < len1
        · have t0 : ¬ (i : Int) < len0 := by omega
          have t1 : (i : Int) < len1 := by omega
          obtain ⟨x1, b1, o1, hp1, hx1, hxn⟩ := byte_at HY1.out hl1 i (by omega)
          subst hp1
          have hc1 : wr.cell? ⟨b1, o1 + i, none⟩ = some (.int .u8 x1) := HKE.out _ _ hx1
          have hsx : ((pad yn).take 0 ++ (pad yo).drop 0)[i]? = some ((0 : Int)) := by rw [torn_old _ _ 0 i (by omega) HPO.out HPN.out]; exact pad_out _ i (by omega) (by omega)
          have hcs : wr.cell? ⟨g, i, none⟩ = some (.int .u8 0) := HCS.out i _ hsx
          clear hsx hx1 hxn
          go_wp2
          go_roundw
          case rel => exact ⟨i + 1, by omega, by go_num, HKE.out, HCS.out, HBW.out⟩
          case measure => simp [intOf]; omega
        · have t0 : ¬ (i : Int) < len0 := by omega
          have t1 : ¬ (i : Int) < len1 := by omega
          have hsx : ((pad yn).take 0 ++ (pad yo).drop 0)[i]? = some ((0 : Int)) := by rw [torn_old _ _ 0 i (by omega) HPO.out HPN.out]; exact pad_out _ i (by omega) (by omega)
          have hcs : wr.cell? ⟨g, i, none⟩ = some (.int .u8 0) := HCS.out i _ hsx
          clear hsx
          go_wp2
          go_roundw
          case rel => exact ⟨i + 1, by omega, by go_num, HKE.out, HCS.out, HBW.out⟩
          case measure => simp [intOf]; omega
    · obtain rfl : i = 64 := by omega
      go_wp2
      go_ret
      exact ⟨rfl, HBW.out⟩
set_option maxRecDepth 100000 in
set_option maxHeartbeats 2000000 in
theorem torn_false_big (a0 : Option Addr) (len0 cap0 : Nat) (yo : List Int) (a1 : Option Addr) (len1 cap1 : Nat) (yn : List Int) (torn : Int) (t0 : 64 < torn) (t1 : torn ≤ 127) (w : World) (hy0 : IsNums .u8 w (.slice a0 len0 cap0) yo) (hl0 : yo.length = len0) (hb0 : ∀ x ∈ yo, 0 ≤ x ∧ x ≤ 255)
    (hy1 : IsNums .u8 w (.slice a1 len1 cap1) yn) (hl1 : yn.length = len1) (hb1 : ∀ x ∈ yn, 0 ≤ x ∧ x ≤ 255) (s0 : len0 ≤ 64) (s1 : len1 ≤ 64) :
    Calls Try.prog 6 #[.slice a0 len0 cap0, .slice a1 len1 cap1, .int .i8 torn, .bool false] w fun e w' => e = .returned (.bool true) ∧ Below w.heap.size w w' := by
  have s0I : ¬ (64 : Int) < len0 := by omega
  have s1I : ¬ (64 : Int) < len1 := by omega
  have HY0 := Lib.hid hy0
  have HY1 := Lib.hid hy1
  have HBO := Lib.hid hb0
  have HBN := Lib.hid hb1
  have HPO := Lib.hid (pad_ok (by omega) hb0).1
  have HPN := Lib.hid (pad_ok (by omega) hb1).1
  clear hy0 hy1 hb0 hb1
  go_enter Try.func6, Try.ntmps6
  go_wp2_with fail
  refine (known_any w).mono ?_
  rintro e w1 ⟨rfl, hb1⟩
  have HB1 := Lib.hid hb1
  clear hb1
  go_wp2_with fail
  refine (new_disk 1 w1 (by omega)).mono ?_
  rintro e w2 ⟨B, S, rfl, hS, h2, hb2⟩
  have HB2 := Lib.hid (HB1.out.trans (hb2.mono HB1.out.size))
  have HS := Lib.hid (show w.heap.size ≤ S from Nat.le_trans HB1.out.size hS)
  have H2 := Lib.hid h2
  have hno : NumsOff (Mine B S (.slice none 0 0)) w2 (.slice a0 len0 cap0) yo := NumsOff.below (N := 0) HY0.out HB2.out (mine_ge H2.out HS.out)
  have hnn : NumsOff (Mine B S (.slice none 0 0)) w2 (.slice a1 len1 cap1) yn := NumsOff.below (N := 0) HY1.out HB2.out (mine_ge H2.out HS.out)
  have HNO := Lib.hid hno
  have HNN := Lib.hid hnn
  clear hb2 h2 hS hno hnn
  go_wp2_with fail
  refine (write_live H2.out 0 (by simp) _ yo HNO.out (by omega) HBO.out rfl (by simp)).mono ?_
  rintro e w3 ⟨rfl, vu3, h3, hk3, hv3⟩
  have hb3 : Below w.heap.size w w3 := HB2.out.trans (H2.out.below hk3 HS.out HB2.out.size)
  have h3' : IsDisk w3 B S vu3 [pad yo] [⟨0, zeros, pad yo⟩] (-1) := h3
  have HD3 := Lib.hid h3'
  have HB3 := Lib.hid hb3
  clear h3 hk3 hv3 hb3 h3'
  go_wp2_with fail
  refine (flush_live HD3.out rfl).mono ?_
  rintro e w35 ⟨rfl, h4, hk4⟩
  have hb4 : Below w.heap.size w w35 := HB3.out.trans (keepB_below HD3.out hk4 HS.out)
  have h4' : IsDisk w35 B S (.slice none 0 0) [pad yo] [] (-1) := h4
  have hnn : NumsOff (Mine B S (.slice none 0 0)) w35 (.slice a1 len1 cap1) yn := NumsOff.below (N := 0) HY1.out hb4 (mine_ge h4' HS.out)
  have HD35 := Lib.hid h4'
  have HB35 := Lib.hid hb4
  have HNN2 := Lib.hid hnn
  clear h4 hk4 hb4 h4' hnn HD3 HB3
  go_wp2_with fail
  refine (write_live HD35.out 0 (by simp) _ yn HNN2.out (by omega) HBN.out rfl (by simp)).mono ?_
  rintro e w4 ⟨rfl, vu4, h4, hk4, hv4⟩
  have hb4 : Below w.heap.size w w4 := HB35.out.trans (HD35.out.below hk4 HS.out HB35.out.size)
  have h4' : IsDisk w4 B S vu4 [pad yn] [⟨0, pad yo, pad yn⟩] (-1) := h4
  have HD4 := Lib.hid h4'
  have HB4 := Lib.hid hb4
  clear h4 hk4 hv4 hb4 h4' HNN2 HD35 HB35
  go_wp2_with fail
  refine (crash_any HD4.out 0 torn (by omega) (by omega) (by omega) (by omega) (by simp)).mono ?_
  rintro e w5 ⟨rfl, h5, hk5⟩
  rw [torn_drop _ _ torn] at h5
  have HB5 := Lib.hid (HB4.out.trans (HD4.out.below hk5 HS.out HB4.out.size))
  have HD5 := Lib.hid h5
  clear h5 hk5 HD4 HB4
  go_wp2_with fail
  refine (read_disk HD5.out 0 (by simp)).mono ?_
  rintro e w6 ⟨u6, rfl, hown6, hb6⟩
  have hr6 : [(pad yn).take 0 ++ (pad yo).drop 0].getD 0 [] = (pad yn).take 0 ++ (pad yo).drop 0 := rfl
  rw [hr6] at hown6
  have hrl : ((pad yn).take 0 ++ (pad yo).drop 0).length = 64 := by rw [List.length_append, List.length_take, List.length_drop, HPN.out, HPO.out]; omega
  obtain ⟨p6, c6, rfl⟩ := ownsRow_shape hown6
  obtain ⟨g, rfl, hcs6⟩ : ∃ g, p6 = some ⟨g, 0, none⟩ ∧ ∀ j x, ((pad yn).take 0 ++ (pad yo).drop 0)[j]? = some x → w6.cell? ⟨g, j, none⟩ = some (.int .u8 x) := by
    rcases hown6.2 with ⟨_, e0⟩ | ⟨g, cap, cur, e1, hbg, hgg, hle, _⟩
    · simp at e0
    · injection e1 with e1 e2 e3
      subst e1
      refine ⟨g, rfl, fun j x hj => ?_⟩
      have := hown6.cells (g := g) rfl j (.int .u8 x) (by rw [B8, List.getElem?_map, hj]; rfl)
      rwa [Addr.add_lit, Nat.zero_add] at this
  have hke6 : ∀ p v, w.cell? p = some v → w6.cell? p = some v := fun p v h => by
    have hlt := World.block_lt_of_cell? w p h
    rw [(HB5.out.trans (hb6.mono HB5.out.size)).cell hlt]; exact h
  have HCS6 := Lib.hid hcs6
  have HKE6 := Lib.hid hke6
  have HB6 := Lib.hid (HB5.out.trans (hb6.mono HB5.out.size))
  clear hown6 hr6 hrl hcs6 hke6 hb6 HD5 HB5
  go_wp2
  go_loopw [13] (fun i wr => ∃ k : Nat, k ≤ 64 ∧ i = .int .i64 k ∧ (∀ p v, w.cell? p = some v → wr.cell? p = some v) ∧ (∀ j x, ((pad yn).take 0 ++ (pad yo).drop 0)[j]? = some x → wr.cell? ⟨g, j, none⟩ = some (.int .u8 x)) ∧ Below w.heap.size w wr) (fun i _ => 64 - (intOf i).toNat)
  case atStart => exact ⟨0, Nat.zero_le _, rfl, HKE6.out, HCS6.out, HB6.out⟩
  case round =>
    obtain ⟨i, hi, rfl, hke, hcs, hbw⟩ := hrel
    have HKE := Lib.hid hke
    have HCS := Lib.hid hcs
    have HBW := Lib.hid hbw
    clear hke hcs hbw HCS6 HKE6 HB6
    by_cases hlt : i < 64
    · have hltI : (i : Int) < 64 := by omega
      by_cases q0 : i < len0
      · by_cases q1 : i < len1
        · have t0 : (i : Int) < len0 := by omega
          have t1 : (i : Int) < len1 := by omega
          obtain ⟨x0, b0, o0, hp0, hx0, hxo⟩ := byte_at HY0.out hl0 i (by omega)
          subst hp0
          have hc0 : wr.cell? ⟨b0, o0 + i, none⟩ = some (.int .u8 x0) := HKE.out _ _ hx0
          obtain ⟨x1, b1, o1, hp1, hx1, hxn⟩ := byte_at HY1.out hl1 i (by omega)
          subst hp1
          have hc1 : wr.cell? ⟨b1, o1 + i, none⟩ = some (.int .u8 x1) := HKE.out _ _ hx1
          have hsx : ((pad yn).take 0 ++ (pad yo).drop 0)[i]? = some ((x0 : Int)) := by rw [torn_old _ _ 0 i (by omega) HPO.out HPN.out]; exact pad_in _ i _ hxo
          have hcs : wr.cell? ⟨g, i, none⟩ = some (.int .u8 x0) := HCS.out i _ hsx
          clear hsx hx0 hxo hx1 hxn
          go_wp2
          go_roundw
          case rel => exact ⟨i + 1, by omega, by go_num, HKE.out, HCS.out, HBW.out⟩
          case measure => simp [intOf]; omega
        · have t0 : (i : Int) < len0 := by omega
          have t1 : ¬ (i : Int) < len1 := by omega
          obtain ⟨x0, b0, o0, hp0, hx0, hxo⟩ := byte_at HY0.out hl0 i (by omega)
          subst hp0
          have hc0 : wr.cell? ⟨b0, o0 + i, none⟩ = some (.int .u8 x0) := HKE.out _ _ hx0
          have hsx : ((pad yn).take 0 ++ (pad yo).drop 0)[i]? = some ((x0 : Int)) := by rw [torn_old _ _ 0 i (by omega) HPO.out HPN.out]; exact pad_in _ i _ hxo
          have hcs : wr.cell? ⟨g, i, none⟩ = some (.int .u8 x0) := HCS.out i _ hsx
          clear hsx hx0 hxo
          go_wp2
          go_roundw
          case rel => exact ⟨i + 1, by omega, by go_num, HKE.out, HCS.out, HBW.out⟩
          case measure => simp [intOf]; omega
      · by_cases q1 : i < len1
        · have t0 : ¬ (i : Int) < len0 := by omega
          have t1 : (i : Int) < len1 := by omega
          obtain ⟨x1, b1, o1, hp1, hx1, hxn⟩ := byte_at HY1.out hl1 i (by omega)
          subst hp1
          have hc1 : wr.cell? ⟨b1, o1 + i, none⟩ = some (.int .u8 x1) := HKE.out _ _ hx1
          have hsx : ((pad yn).take 0 ++ (pad yo).drop 0)[i]? = some ((0 : Int)) := by rw [torn_old _ _ 0 i (by omega) HPO.out HPN.out]; exact pad_out _ i (by omega) (by omega)
          have hcs : wr.cell? ⟨g, i, none⟩ = some (.int .u8 0) := HCS.out i _ hsx
          clear hsx hx1 hxn
          go_wp2
          go_roundw
          case rel => exact ⟨i + 1, by omega, by go_num, HKE.out, HCS.out, HBW.out⟩
          case measure => simp [intOf]; omega
        · have t0 : ¬ (i : Int) < len0 := by omega
          have t1 : ¬ (i : Int) < len1 := by omega
          have hsx : ((pad yn).take 0 ++ (pad yo).drop 0)[i]? = some ((0 : Int)) := by rw [torn_old _ _ 0 i (by omega) HPO.out HPN.out]; exact pad_out _ i (by omega) (by omega)
          have hcs : wr.cell? ⟨g, i, none⟩ = some (.int .u8 0) := HCS.out i _ hsx
          clear hsx
          go_wp2
          go_roundw
          case rel => exact ⟨i + 1, by omega, by go_num, HKE.out, HCS.out, HBW.out⟩
          case measure => simp [intOf]; omega
    · obtain rfl : i = 64 := by omega
      go_wp2
      go_ret
      exact ⟨rfl, HBW.out⟩
set_option maxRecDepth 100000 in
set_option maxHeartbeats 2000000 in
theorem torn_false_mid (a0 : Option Addr) (len0 cap0 : Nat) (yo : List Int) (a1 : Option Addr) (len1 cap1 : Nat) (yn : List Int) (tn : Nat) (t0 : tn ≤ 64) (w : World) (hy0 : IsNums .u8 w (.slice a0 len0 cap0) yo) (hl0 : yo.length = len0) (hb0 : ∀ x ∈ yo, 0 ≤ x ∧ x ≤ 255)
    (hy1 : IsNums .u8 w (.slice a1 len1 cap1) yn) (hl1 : yn.length = len1) (hb1 : ∀ x ∈ yn, 0 ≤ x ∧ x ≤ 255) (s0 : len0 ≤ 64) (s1 : len1 ≤ 64) :
    Calls Try.prog 6 #[.slice a0 len0 cap0, .slice a1 len1 cap1, .int .i8 (tn : Int), .bool false] w fun e w' => e = .returned (.bool true) ∧ Below w.heap.size w w' := by
  have s0I : ¬ (64 : Int) < len0 := by omega
  have s1I : ¬ (64 : Int) < len1 := by omega
  have HY0 := Lib.hid hy0
  have HY1 := Lib.hid hy1
  have HBO := Lib.hid hb0
  have HBN := Lib.hid hb1
  have HPO := Lib.hid (pad_ok (by omega) hb0).1
  have HPN := Lib.hid (pad_ok (by omega) hb1).1
  clear hy0 hy1 hb0 hb1
  have t1I : (tn : Int) ≤ 64 := by omega
  have t2I : ¬ (64 : Int) < tn := by omega
  have t3I : ¬ (tn : Int) < 0 := by omega
  go_enter Try.func6, Try.ntmps6
  go_wp2_with fail
  refine (known_any w).mono ?_
  rintro e w1 ⟨rfl, hb1⟩
  have HB1 := Lib.hid hb1
  clear hb1
  go_wp2_with fail
  refine (new_disk 1 w1 (by omega)).mono ?_
  rintro e w2 ⟨B, S, rfl, hS, h2, hb2⟩
  have HB2 := Lib.hid (HB1.out.trans (hb2.mono HB1.out.size))
  have HS := Lib.hid (show w.heap.size ≤ S from Nat.le_trans HB1.out.size hS)
  have H2 := Lib.hid h2
  have hno : NumsOff (Mine B S (.slice none 0 0)) w2 (.slice a0 len0 cap0) yo := NumsOff.below (N := 0) HY0.out HB2.out (mine_ge H2.out HS.out)
  have hnn : NumsOff (Mine B S (.slice none 0 0)) w2 (.slice a1 len1 cap1) yn := NumsOff.below (N := 0) HY1.out HB2.out (mine_ge H2.out HS.out)
  have HNO := Lib.hid hno
  have HNN := Lib.hid hnn
  clear hb2 h2 hS hno hnn
  go_wp2_with fail
  refine (write_live H2.out 0 (by simp) _ yo HNO.out (by omega) HBO.out rfl (by simp)).mono ?_
  rintro e w3 ⟨rfl, vu3, h3, hk3, hv3⟩
  have hb3 : Below w.heap.size w w3 := HB2.out.trans (H2.out.below hk3 HS.out HB2.out.size)
  have h3' : IsDisk w3 B S vu3 [pad yo] [⟨0, zeros, pad yo⟩] (-1) := h3
  have HD3 := Lib.hid h3'
  have HB3 := Lib.hid hb3
  clear h3 hk3 hv3 hb3 h3'
  go_wp2_with fail
  refine (flush_live HD3.out rfl).mono ?_
  rintro e w35 ⟨rfl, h4, hk4⟩
  have hb4 : Below w.heap.size w w35 := HB3.out.trans (keepB_below HD3.out hk4 HS.out)
  have h4' : IsDisk w35 B S (.slice none 0 0) [pad yo] [] (-1) := h4
  have hnn : NumsOff (Mine B S (.slice none 0 0)) w35 (.slice a1 len1 cap1) yn := NumsOff.below (N := 0) HY1.out hb4 (mine_ge h4' HS.out)
  have HD35 := Lib.hid h4'
  have HB35 := Lib.hid hb4
  have HNN2 := Lib.hid hnn
  clear h4 hk4 hb4 h4' hnn HD3 HB3
  go_wp2_with fail
  refine (write_live HD35.out 0 (by simp) _ yn HNN2.out (by omega) HBN.out rfl (by simp)).mono ?_
  rintro e w4 ⟨rfl, vu4, h4, hk4, hv4⟩
  have hb4 : Below w.heap.size w w4 := HB35.out.trans (HD35.out.below hk4 HS.out HB35.out.size)
  have h4' : IsDisk w4 B S vu4 [pad yn] [⟨0, pad yo, pad yn⟩] (-1) := h4
  have HD4 := Lib.hid h4'
  have HB4 := Lib.hid hb4
  clear h4 hk4 hv4 hb4 h4' HNN2 HD35 HB35
  go_wp2_with fail
  refine (crash_any HD4.out 0 (tn : Int) (by omega) (by omega) (by omega) (by omega) (by simp)).mono ?_
  rintro e w5 ⟨rfl, h5, hk5⟩
  rw [torn_drop _ _ (tn : Int)] at h5
  have HB5 := Lib.hid (HB4.out.trans (HD4.out.below hk5 HS.out HB4.out.size))
  have HD5 := Lib.hid h5
  clear h5 hk5 HD4 HB4
  go_wp2_with fail
  refine (read_disk HD5.out 0 (by simp)).mono ?_
  rintro e w6 ⟨u6, rfl, hown6, hb6⟩
  have hr6 : [(pad yn).take 0 ++ (pad yo).drop 0].getD 0 [] = (pad yn).take 0 ++ (pad yo).drop 0 := rfl
  rw [hr6] at hown6
  have hrl : ((pad yn).take 0 ++ (pad yo).drop 0).length = 64 := by rw [List.length_append, List.length_take, List.length_drop, HPN.out, HPO.out]; omega
  obtain ⟨p6, c6, rfl⟩ := ownsRow_shape hown6
  obtain ⟨g, rfl, hcs6⟩ : ∃ g, p6 = some ⟨g, 0, none⟩ ∧ ∀ j x, ((pad yn).take 0 ++ (pad yo).drop 0)[j]? = some x → w6.cell? ⟨g, j, none⟩ = some (.int .u8 x) := by
    rcases hown6.2 with ⟨_, e0⟩ | ⟨g, cap, cur, e1, hbg, hgg, hle, _⟩
    · simp at e0
    · injection e1 with e1 e2 e3
      subst e1
      refine ⟨g, rfl, fun j x hj => ?_⟩
      have := hown6.cells (g := g) rfl j (.int .u8 x) (by rw [B8, List.getElem?_map, hj]; rfl)
      rwa [Addr.add_lit, Nat.zero_add] at this
  have hke6 : ∀ p v, w.cell? p = some v → w6.cell? p = some v := fun p v h => by
    have hlt := World.block_lt_of_cell? w p h
    rw [(HB5.out.trans (hb6.mono HB5.out.size)).cell hlt]; exact h
  have HCS6 := Lib.hid hcs6
  have HKE6 := Lib.hid hke6
  have HB6 := Lib.hid (HB5.out.trans (hb6.mono HB5.out.size))
  clear hown6 hr6 hrl hcs6 hke6 hb6 HD5 HB5
  go_wp2
  go_loopw [13] (fun i wr => ∃ k : Nat, k ≤ 64 ∧ i = .int .i64 k ∧ (∀ p v, w.cell? p = some v → wr.cell? p = some v) ∧ (∀ j x, ((pad yn).take 0 ++ (pad yo).drop 0)[j]? = some x → wr.cell? ⟨g, j, none⟩ = some (.int .u8 x)) ∧ Below w.heap.size w wr) (fun i _ => 64 - (intOf i).toNat)
  case atStart => exact ⟨0, Nat.zero_le _, rfl, HKE6.out, HCS6.out, HB6.out⟩
  case round =>
    obtain ⟨i, hi, rfl, hke, hcs, hbw⟩ := hrel
    have HKE := Lib.hid hke
    have HCS := Lib.hid hcs
    have HBW := Lib.hid hbw
    clear hke hcs hbw HCS6 HKE6 HB6
    by_cases hlt : i < 64
    · have hltI : (i : Int) < 64 := by omega
      by_cases q0 : i < len0
      · by_cases q1 : i < len1
        · have t0 : (i : Int) < len0 := by omega
          have t1 : (i : Int) < len1 := by omega
          obtain ⟨x0, b0, o0, hp0, hx0, hxo⟩ := byte_at HY0.out hl0 i (by omega)
          subst hp0
          have hc0 : wr.cell? ⟨b0, o0 + i, none⟩ = some (.int .u8 x0) := HKE.out _ _ hx0
          obtain ⟨x1, b1, o1, hp1, hx1, hxn⟩ := byte_at HY1.out hl1 i (by omega)
          subst hp1
          have hc1 : wr.cell? ⟨b1, o1 + i, none⟩ = some (.int .u8 x1) := HKE.out _ _ hx1
          have hsx : ((pad yn).take 0 ++ (pad yo).drop 0)[i]? = some ((x0 : Int)) := by rw [torn_old _ _ 0 i (by omega) HPO.out HPN.out]; exact pad_in _ i _ hxo
          have hcs : wr.cell? ⟨g, i, none⟩ = some (.int .u8 x0) := HCS.out i _ hsx
          clear hsx hx0 hxo hx1 hxn
          go_wp2
          go_roundw
          case rel => exact ⟨i + 1, by omega, by go_num, HKE.out, HCS.out, HBW.out⟩
          case measure => simp [intOf]; omega
        · have t0 : (i : Int) < len0 := by omega
          have t1 : ¬ (i : Int) < len1 := by omega
          obtain ⟨x0, b0, o0, hp0, hx0, hxo⟩ := byte_at HY0.out hl0 i (by omega)
          subst hp0
          have hc0 : wr.cell? ⟨b0, o0 + i, none⟩ = some (.int .u8 x0) := HKE.out _ _ hx0
          have hsx : ((pad yn).take 0 ++ (pad yo).drop 0)[i]? = some ((x0 : Int)) := by rw [torn_old _ _ 0 i (by omega) HPO.out HPN.out]; exact pad_in _ i _ hxo
          have hcs : wr.cell? ⟨g, i, none⟩ = some (.int .u8 x0) := HCS.out i _ hsx
          clear hsx hx0 hxo
          go_wp2
          go_roundw
          case rel => exact ⟨i + 1, by omega, by go_num, HKE.out, HCS.out, HBW.out⟩
          case measure => simp [intOf]; omega
      · by_cases q1 : i < len1
        · have t0 : ¬ (i : Int) < len0 := by omega
          have t1 : (i : Int) < len1 := by omega
          obtain ⟨x1, b1, o1, hp1, hx1, hxn⟩ := byte_at HY1.out hl1 i (by omega)
          subst hp1
          have hc1 : wr.cell? ⟨b1, o1 + i, none⟩ = some (.int .u8 x1) := HKE.out _ _ hx1
          have hsx : ((pad yn).take 0 ++ (pad yo).drop 0)[i]? = some ((0 : Int)) := by rw [torn_old _ _ 0 i (by omega) HPO.out HPN.out]; exact pad_out _ i (by omega) (by omega)
          have hcs : wr.cell? ⟨g, i, none⟩ = some (.int .u8 0) := HCS.out i _ hsx
          clear hsx hx1 hxn
          go_wp2
          go_roundw
          case rel => exact ⟨i + 1, by omega, by go_num, HKE.out, HCS.out, HBW.out⟩
          case measure => simp [intOf]; omega
        · have t0 : ¬ (i : Int) < len0 := by omega
          have t1 : ¬ (i : Int) < len1 := by omega
          have hsx : ((pad yn).take 0 ++ (pad yo).drop 0)[i]? = some ((0 : Int)) := by rw [torn_old _ _ 0 i (by omega) HPO.out HPN.out]; exact pad_out _ i (by omega) (by omega)
          have hcs : wr.cell? ⟨g, i, none⟩ = some (.int .u8 0) := HCS.out i _ hsx
          clear hsx
          go_wp2
          go_roundw
          case rel => exact ⟨i + 1, by omega, by go_num, HKE.out, HCS.out, HBW.out⟩
          case measure => simp [intOf]; omega
    · obtain rfl : i = 64 := by omega
      go_wp2
      go_ret
      exact ⟨rfl, HBW.out⟩

set_option maxRecDepth 100000 in
theorem torn_long (a0 : Option Addr) (len0 cap0 : Nat) (a1 : Option Addr) (len1 cap1 : Nat) (torn : Int) (kp : Bool) (w : World) (h : 64 < len0 ∨ 64 < len1) (m0 : len0 ≤ 9223372036854775807) (m1 : len1 ≤ 9223372036854775807) :
    Calls Try.prog 6 #[.slice a0 len0 cap0, .slice a1 len1 cap1, .int .i8 torn, .bool kp] w fun e w' => e = .returned (.bool true) ∧ Below w.heap.size w w' := by
  by_cases h0 : 64 < len0
  · have h0I : (64 : Int) < len0 := by omega
    go_enter Try.func6, Try.ntmps6
    go_wp2_with fail
    refine (known_any w).mono ?_
    rintro e w1 ⟨rfl, hb1⟩
    have HB1 := Lib.hid hb1
    clear hb1
    go_wp2
    go_ret
    exact ⟨rfl, HB1.out⟩
  · have h0I : ¬ (64 : Int) < len0 := by omega
    have h1I : (64 : Int) < len1 := by omega
    go_enter Try.func6, Try.ntmps6
    go_wp2_with fail
    refine (known_any w).mono ?_
    rintro e w1 ⟨rfl, hb1⟩
    have HB1 := Lib.hid hb1
    clear hb1
    go_wp2
    go_ret
    exact ⟨rfl, HB1.out⟩

theorem bytes_of {y : List Int} (f : ∀ j, j < y.length → 0 ≤ y.getD j 0 ∧ y.getD j 0 ≤ 255) : ∀ x ∈ y, 0 ≤ x ∧ x ≤ 255 := by
  intro x hx
  obtain ⟨j, hj, rfl⟩ := List.mem_iff_getElem.1 hx
  have := f j hj
  simpa [List.getD, hj] using this
theorem torn_walk (a0 : Option Addr) (len0 cap0 : Nat) (yo : List Int) (a1 : Option Addr) (len1 cap1 : Nat) (yn : List Int) (torn : Int) (kp : Bool) (w : World) (hy0 : IsNums .u8 w (.slice a0 len0 cap0) yo) (hl0 : yo.length = len0) (m0 : len0 ≤ maxLen) (f0 : ∀ j, j < yo.length → 0 ≤ yo.getD j 0 ∧ yo.getD j 0 ≤ 255)
    (hy1 : IsNums .u8 w (.slice a1 len1 cap1) yn) (hl1 : yn.length = len1) (m1 : len1 ≤ maxLen) (f1 : ∀ j, j < yn.length → 0 ≤ yn.getD j 0 ∧ yn.getD j 0 ≤ 255) (t0 : -128 ≤ torn) (t1 : torn ≤ 127) :
    Calls Try.prog 6 #[.slice a0 len0 cap0, .slice a1 len1 cap1, .int .i8 torn, .bool kp] w fun e w' => e = .returned (.bool true) ∧ Below w.heap.size w w' := by
  unfold maxLen at m0 m1
  by_cases hlong : 64 < len0 ∨ 64 < len1
  · exact torn_long a0 len0 cap0 a1 len1 cap1 torn kp w hlong (by omega) (by omega)
  · have b0 := bytes_of f0
    have b1 := bytes_of f1
    by_cases hn : torn < 0
    · cases kp
      · exact torn_false_neg a0 len0 cap0 yo a1 len1 cap1 yn torn hn t0 w hy0 hl0 b0 hy1 hl1 b1 (by omega) (by omega)
      · exact torn_true_neg a0 len0 cap0 yo a1 len1 cap1 yn torn hn t0 w hy0 hl0 b0 hy1 hl1 b1 (by omega) (by omega)
    · by_cases hg : 64 < torn
      · cases kp
        · exact torn_false_big a0 len0 cap0 yo a1 len1 cap1 yn torn hg t1 w hy0 hl0 b0 hy1 hl1 b1 (by omega) (by omega)
        · exact torn_true_big a0 len0 cap0 yo a1 len1 cap1 yn torn hg t1 w hy0 hl0 b0 hy1 hl1 b1 (by omega) (by omega)
      · obtain ⟨tn, rfl⟩ : ∃ tn : Nat, torn = (tn : Int) := ⟨torn.toNat, by omega⟩
        cases kp
        · exact torn_false_mid a0 len0 cap0 yo a1 len1 cap1 yn tn (by omega) w hy0 hl0 b0 hy1 hl1 b1 (by omega) (by omega)
        · exact torn_true_mid a0 len0 cap0 yo a1 len1 cap1 yn tn (by omega) w hy0 hl0 b0 hy1 hl1 b1 (by omega) (by omega)
end Go.Proofs.Ytnjmlkohgbbafaa.K
