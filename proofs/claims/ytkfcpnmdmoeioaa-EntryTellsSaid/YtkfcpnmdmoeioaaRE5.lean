/- mementoref6.PutBase. -/
import Derived.Test.YtkfcpnmdmoeioaaRE4
import Derived.Test.YtkfcpnmdmoeioaaRE2
import Derived.Test.YtkfcpnmdmoeioaaEntry6
namespace Go.Proofs.Ytkfcpnmdmoeioaa.K
open Go.ChangeShapes Go.WideShapes Go.ChangeAt Go.RowKit
set_option linter.unusedVariables false

set_option maxRecDepth 100000 in
set_option maxHeartbeats 2000000 in
theorem rbasePut_any (i t : Int) (vc v : Value) (cf d : List Int) (w : World) (hc : IsNums .i64 w vc cf) (hv : IsNums .u8 w v d) (hl : cf.length ≤ 900) :
    Calls Try.prog 20 #[baseV i t vc v] w fun e w' => ∃ u, e = .returned u ∧ w'.ownsRow w.heap.size 5 1 u (baseP i t cf d).length ((baseP i t cf d).map (Value.int .u8)) ∧ Below w.heap.size w w' := by
  obtain ⟨a, c, rfl, -⟩ := id hv
  obtain ⟨ac, cc, rfl, -⟩ := id hc
  obtain ⟨n, hnl⟩ : ∃ n, d.length = n := ⟨_, rfl⟩
  obtain ⟨m, hml⟩ : ∃ n, cf.length = n := ⟨_, rfl⟩
  rw [hnl] at hv ⊢
  rw [hml] at hc ⊢
  have hb := (Below.refl w.heap.size w).alloc (Nat.le_refl _) (.cells #[.int .i64 i, .int .i64 t, .slice ac m cc, .slice a n c] 27)
  have hx := Blk.alloc w 27 #[.int .i64 i, .int .i64 t, .slice ac m cc, .slice a n c]
  have hn := hv.alloc (.cells #[.int .i64 i, .int .i64 t, .slice ac m cc, .slice a n c] 27)
  have hcn := hc.alloc (.cells #[.int .i64 i, .int .i64 t, .slice ac m cc, .slice a n c] 27)
  obtain ⟨w0, hw0⟩ : ∃ x, w.alloc (.cells #[.int .i64 i, .int .i64 t, .slice ac m cc, .slice a n c] 27) = x := ⟨_, rfl⟩
  obtain ⟨Nb, hNb⟩ : ∃ x, w.heap.size = x := ⟨_, rfl⟩
  rw [hw0] at hb hx hn hcn
  rw [hNb] at hx
  have HX := Lib.hid hx
  have B0 := Lib.hid hb
  have HN0 := Lib.hid hn
  have HC0 := Lib.hid hcn
  have HN := Lib.hid hv
  have HC := Lib.hid hc
  have HL := Lib.hid hnl
  have HM := Lib.hid hml
  have HCL := Lib.hid (show cf.length ≤ 900 by omega)
  unfold baseV
  cases hr : baseOk i t cf d with
  | false =>
    have hz : baseP i t cf d = [] := by unfold baseP; rw [hr]; rfl
    rw [hz]
    have HR := Lib.hid hr
    clear hb hx hn hv hr hz hnl hml hcn hc
    have x0 := HX.out.cell 0
    have x1 := HX.out.cell 1
    have x2 := HX.out.cell 2
    have x3 := HX.out.cell 3
    go_enter Try.func20, Try.ntmps20
    go_wp2_with fail
    refine (rbaseRight_any i t _ _ cf d w0 HC0.out HN0.out HCL.out).mono ?_
    rintro e w1 ⟨rfl, hb1⟩
    rw [HR.out]
    have B1 := Lib.hid (B0.out.trans (hb1.mono B0.out.size))
    clear hb1
    go_wp2
    go_ret
    exact ⟨_, rfl, World.ownsRow_nil _ _ _ _, B1.out⟩
  | true =>
    have hz : baseP i t cf d = baseB i t cf d := by unfold baseP; rw [hr]; rfl
    have hbd := baseOk_bd hr
    have hrb := right_bd hbd.2.2.1
    have BD := Lib.hid hbd
    have MB : Hid (m ≤ 7) := Lib.hid (by omega)
    have CFB : Hid (∀ j, j < cf.length → 0 ≤ cf.getD j 0 ∧ cf.getD j 0 ≤ 9223372036854775807) := Lib.hid (fun j hj => by have := hrb.2 j hj; omega)
    have HR := Lib.hid hr
    have HZ := Lib.hid hz
    obtain ⟨LA, hLA⟩ : ∃ L, encs [i, t, (m : Int)] = L := ⟨_, rfl⟩
    obtain ⟨LB, hLB⟩ : ∃ L, encs cf = L := ⟨_, rfl⟩
    obtain ⟨LC, hLC⟩ : ∃ L, enc d.length ++ d = L := ⟨_, rfl⟩
    have HLA := Lib.hid hLA
    have HLB := Lib.hid hLB
    have HLC := Lib.hid hLC
    clear hLA hLB hLC hb hx hn hv hr hz hnl hml hcn hc hbd hrb
    have hwi : IntKind.u64.wrap i = i := by have := BD.out; rw [IntKind.wrap_u64]; omega
    have hwt : IntKind.u64.wrap t = t := by have := BD.out; rw [IntKind.wrap_u64]; omega
    have hwm : IntKind.u64.wrap (m : Int) = (m : Int) := by have := MB.out; rw [IntKind.wrap_u64]; omega
    have hm7 : (m : Int) ≤ 7 := by have := MB.out; omega
    go_enter Try.func20, Try.ntmps20
    have x0 := HX.out.cell 0
    have x1 := HX.out.cell 1
    have x2 := HX.out.cell 2
    have x3 := HX.out.cell 3
    go_wp2_with fail
    refine (rbaseRight_any i t _ _ cf d w0 HC0.out HN0.out HCL.out).mono ?_
    rintro e w1 ⟨rfl, hb1⟩
    rw [HR.out]
    have X1 := Lib.hid (HX.out.below hb1 HX.out.lt)
    have B1 := Lib.hid (B0.out.trans (hb1.mono B0.out.size))
    have z0 := X1.out.cell 0
    have z1 := X1.out.cell 1
    have z2 := X1.out.cell 2
    clear hb1 x0 x1 x2 x3 HX B0 HN0 HC0
    go_wp2_with fail
    clear z0 z1 z2
    refine (rput_any _ [i, t, (m : Int)] _ (IsNums.lit .u64 w1 [i, t, (m : Int)] w1.heap.size 62 3 3 rfl rfl) (by have := BD.out; have := MB.out; intro j hj; match j, hj with | 0, _ => exact ⟨by show 0 ≤ i; omega, by show i ≤ _; omega⟩ | 1, _ => exact ⟨by show 0 ≤ t; omega, by show t ≤ _; omega⟩ | 2, _ => exact ⟨by show 0 ≤ (m : Int); omega, by show (m : Int) ≤ _; omega⟩) (by simp)).mono ?_
    rintro e w3 ⟨u3, rfl, ho3, hb3⟩
    have hb13 : Below w1.heap.size w1 w3 := ((Below.refl w1.heap.size w1).alloc (Nat.le_refl _) _).trans (hb3.mono (by simp))
    obtain ⟨M1, hM1⟩ : ∃ x, w1.heap.size = x := ⟨_, rfl⟩
    have B13 := Lib.hid (show Below M1 w1 w3 by rw [← hM1]; exact hb13)
    have HM1 := Lib.hid hM1
    rw [HLA.out] at ho3
    have O3 := Lib.hid (ownsRow_base (B' := M1) ho3 (by simp; omega))
    have LL : Hid (LA.length ≤ 100) := Lib.hid (by rw [← HLA.out]; have h1 := encs_len [i, t, (m : Int)]; simp only [List.length_cons, List.length_nil] at *; omega)
    clear ho3 hb3 hb13 hM1
    go_wp2
    go_loopw [3, 4] (fun u q wr => ∃ k : Nat, k ≤ m ∧ q = .int .i64 k ∧ wr.ownsRow M1 5 1 u (LA ++ encs (cf.take k)).length ((LA ++ encs (cf.take k)).map (Value.int .u8)) ∧ Below M1 w1 wr) (fun _ q _ => m - (intOf q).toNat)
    case atStart => exact ⟨0, Nat.zero_le _, rfl, by rw [List.take_zero, show encs [] = [] from rfl, List.append_nil]; exact O3.out, B13.out⟩
    case round =>
      obtain ⟨k, hk, rfl, hown, hbel⟩ := hrel
      have xr := X1.out.below hbel (by have := X1.out.lt; have := HM1.out; omega)
      have y2 := xr.cell 2
      by_cases hlt : k < m
      · obtain ⟨a', c', e1, hz | ⟨b, off, e2, hblt, hcc⟩⟩ := HC.out
        · have := HM.out; omega
        injection e1 with e1 e3 e4
        subst e1
        subst e2
        clear e3 e4
        have hck := hcc k (by have := HM.out; omega)
        have hbk := CFB.out k (by have := HM.out; omega)
        have hst := encs_snoc cf k (by have := HM.out; omega)
        obtain ⟨x, hx⟩ : ∃ x, cf.getD k 0 = x := ⟨_, rfl⟩
        rw [hx] at hck hbk hst
        obtain ⟨Lk, hLk⟩ : ∃ L, LA ++ encs (cf.take k) = L := ⟨_, rfl⟩
        have hlen : Lk.length ≤ 1000 := by rw [← hLk, List.length_append]; have := LL.out; have h1 := encs_len (cf.take k); have h2 := len_take_le cf k; have := MB.out; omega
        have hst2 : LA ++ encs (cf.take (k + 1)) = Lk ++ enc x := by rw [hst, ← hLk, List.append_assoc]
        rw [hLk] at hown
        have hcr : wr.cell? ⟨b, off + k, none⟩ = some (.int .i64 x) := by rw [hbel.cell (by have := B1.out.size; have := HM1.out; show b < M1; omega), B1.out.cell (by exact hblt)]; exact hck
        have hwx : IntKind.u64.wrap x = x := by rw [IntKind.wrap_u64]; omega
        obtain ⟨p3, c3, hu3⟩ := ownsRow_shape hown
        subst hu3
        have HO := Lib.hid hown
        have HBL := Lib.hid hbel
        have HST := Lib.hid hst2
        have HLE := Lib.hid hlen
        have HXB := Lib.hid hbk
        have XR := Lib.hid xr
        have hkI : (k : Int) < m := by omega
        clear hck hbk hst hx hLk hlen hst2 hown hbel hcc xr
        go_wp2_with fail
        refine (rput_any _ [x] _ (IsNums.lit .u64 wr [x] wr.heap.size 62 1 1 rfl rfl) (fun j hj => by have := HXB.out; match j, hj with | 0, _ => exact ⟨this.1, by show x ≤ _; omega⟩) (by simp)).mono ?_
        rintro e w5 ⟨u5, rfl, ho5, hb5⟩
        rw [show encs [x] = enc x by simp [encs]] at ho5
        have hb45 : Below wr.heap.size wr w5 := ((Below.refl wr.heap.size wr).alloc (Nat.le_refl _) _).trans (hb5.mono (by simp))
        have N5 : Hid (IsNums .u8 w5 u5 (enc x)) := Lib.hid (IsNums.ofOwn ho5)
        have O5 := Lib.hid (own_keep HO.out (Keep.ofBelow (bad := fun _ => False) hb45) (fun _ _ h => h))
        have B5 := Lib.hid (HBL.out.trans (hb45.mono (by have := HBL.out.size; have := HM1.out; omega)))
        obtain ⟨p5, c5, hu5, -⟩ := id N5.out
        subst hu5
        have hel := enc_len x
        have HEL := Lib.hid hel
        clear ho5 hb5 hb45 hel hcr
        go_wp2_with (at_builtin; (refine wpList_appN rfl (.tmp 27) (.tmp 35) 22 rfl M1 5 .u8 1 Try.underlying22 info_u8 (by omega) _ Lk.length _ rfl O5.out _ (enc x) rfl N5.out (by have := HEL.out; have := HLE.out; omega) (by have := B5.out.size; have := HM1.out; omega) ?_); intro v6 w6 hown6 hb6; have O6 := Lib.hid hown6; have B6 := Lib.hid hb6; clear hown6 hb6)
        go_roundw
        case rel =>
          refine ⟨k + 1, by omega, by go_num, ?_, ?_⟩
          · rw [HST.out, List.length_append, List.map_append]
            exact O6.out
          · exact B5.out.trans B6.out
        case measure => simp [intOf]; omega
      · obtain rfl : k = m := by omega
        rw [show cf.take k = cf from List.take_of_length_le (by have := HM.out; omega)] at hown
        obtain ⟨LC, hLC⟩ : ∃ L, enc d.length ++ d = L := ⟨_, rfl⟩
        obtain ⟨Lk, hLk⟩ : ∃ L, LA ++ encs cf = L := ⟨_, rfl⟩
        have hlen : Lk.length ≤ 1000 := by rw [← hLk, List.length_append]; have := LL.out; have h1 := encs_len cf; have := MB.out; have := HM.out; omega
        rw [hLk] at hown
        obtain ⟨p3, c3, hu3⟩ := ownsRow_shape hown
        subst hu3
        have y3 := xr.cell 3
        have HO := Lib.hid hown
        have HBL := Lib.hid hbel
        have HLK := Lib.hid hLk
        have HLCC := Lib.hid hLC
        have HLE := Lib.hid hlen
        have LLC : Hid (LC.length ≤ 50000) := Lib.hid (by rw [← hLC, List.length_append]; have := BD.out; have h1 := enc_len d.length; omega)
        have BW := Lib.hid (B1.out.trans (hbel.mono (by have := B1.out.size; have := HM1.out; omega)))
        clear hown hbel hLk hLC hlen xr
        go_wp2_with fail
        refine (rflump_any _ d wr (HN.out.below BW.out (Nat.le_refl _)) (by have := BD.out; omega)).mono ?_
        rintro e w5 ⟨u5, rfl, ho5, hb5⟩
        rw [HLCC.out] at ho5
        have N5 : Hid (IsNums .u8 w5 u5 LC) := Lib.hid (IsNums.ofOwn ho5)
        have O5 := Lib.hid (own_keep HO.out (Keep.ofBelow (bad := fun _ => False) hb5) (fun _ _ h => h))
        have B5 := Lib.hid (HBL.out.trans (hb5.mono (by have := HBL.out.size; have := HM1.out; omega)))
        obtain ⟨p5, c5, hu5, -⟩ := id N5.out
        subst hu5
        clear ho5 hb5 y2 y3
        go_wp2_with (at_builtin; (refine wpList_appN rfl (.tmp 37) (.tmp 40) 22 rfl M1 5 .u8 1 Try.underlying22 info_u8 (by omega) _ Lk.length _ rfl O5.out _ LC rfl N5.out (by have := LLC.out; have := HLE.out; omega) (by have := B5.out.size; have := HM1.out; omega) ?_); intro v6 w6 hown6 hb6; have O6 := Lib.hid hown6; have B6 := Lib.hid hb6; clear hown6 hb6)
        go_ret
        refine ⟨_, rfl, ?_, B1.out.trans ((B5.out.trans B6.out).mono (by have := B1.out.size; have := HM1.out; omega))⟩
        rw [HZ.out, show baseB i t cf d = Lk ++ LC by unfold baseB; rw [HM.out, HLA.out, HLCC.out, ← HLK.out, List.append_assoc], List.length_append, List.map_append]
        exact ownsRow_base O6.out (by have := B1.out.size; have := HM1.out; omega)
end Go.Proofs.Ytkfcpnmdmoeioaa.K
