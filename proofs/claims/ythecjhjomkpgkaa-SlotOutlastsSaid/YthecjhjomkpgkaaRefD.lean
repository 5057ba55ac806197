/- mementoref3.Crash's walk. -/
import Derived.Test.YthecjhjomkpgkaaRefD0
import Derived.Test.YthecjhjomkpgkaaStage2
import Derived.Deep.QuietTactic
namespace Go.Proofs.Ythecjhjomkpgkaa.K
open Go.ChangeShapes Go.WideShapes Go.ChangeAt Go.RowKit
set_option linter.unusedVariables false

set_option maxRecDepth 100000 in
set_option maxHeartbeats 8000000 in
theorem rcrash_any {F : Nat → Prop} {w : World} {B : Nat} {secs : List (List Int)} {wl : List (Int × List Int)} {l : Int} (h : RDisk F w B secs wl l) (hs0 : 0 < secs.length) (mask torn : Int) (m0 : 0 ≤ mask) (m1 : mask ≤ 18446744073709551615) (t0 : -9223372036854775808 ≤ torn) (t1 : torn ≤ 9223372036854775807) :
    Calls Try.prog 22 #[.pointer (some ⟨B, 0, none⟩), .int .u64 mask, .int .i64 torn] w (RCrashPost F w B (rcrashed secs wl mask torn)) := by
  obtain ⟨vs, vl, h1, h2, h3⟩ := h.body
  obtain ⟨rs, hrs, ⟨aL, cL, rfl, hcL, hL0⟩, hdat⟩ := id h3
  have hrl : rs.length = wl.length := by have := congrArg List.length hrs; simpa using this
  have hfew := h.few
  have hBw := h1.lt
  obtain ⟨M, hM⟩ : ∃ M, min rs.length 64 = M := ⟨_, rfl⟩
  have HX1 := Lib.hid (fun wr (hb : Below w.heap.size w wr) => (by rw [hb.cell (by exact hBw)]; exact h1.cell 1 : wr.cell? ⟨B, 1, none⟩ = some (.slice aL rs.length cL)))
  have HX0 := Lib.hid (fun wr (hb : Below w.heap.size w wr) => (by rw [hb.cell (by exact hBw)]; exact h1.cell 0 : wr.cell? ⟨B, 0, none⟩ = some vs))
  have HM := Lib.hid hM
  have H1 := Lib.hid h1
  have H2 := Lib.hid h2
  have HD := Lib.hid h
  have HL0 := Lib.hid hL0
  have HDAT := Lib.hid hdat
  have HRS := Lib.hid hrs
  have HRL := Lib.hid hrl
  have hM1 : M ≤ rs.length := by omega
  have hM2 : M ≤ 64 := by omega
  have hr6 : (rs.length : Int) ≤ 1000000 := by omega
  clear h1 h2 h3 h hL0 hdat hrs hM
  go_enter Try.func22, Try.ntmps22
  go_wp2
  go_loopw [6, 7] (fun v q wr => ∃ k : Nat, k ≤ M ∧ q = .int .i64 k ∧ wr.ownsRow w.heap.size 106 2 v (keptR rs mask k).length ((keptR rs mask k).flatMap WR.cells) ∧ Below w.heap.size w wr) (fun _ q _ => M - (intOf q).toNat)
  case atStart => exact ⟨0, Nat.zero_le _, rfl, World.ownsRow_nil _ _ _ _, Below.refl _ _⟩
  case round =>
    obtain ⟨k, hk, rfl, hown, hbel⟩ := hrel
    have x1 := HX1.out wr hbel
    by_cases hlt : k < M
    · obtain hz | ⟨bL, oL, rfl, hbL, -, hcells⟩ := HL0.out
      · have := hz.1; omega
      have hrk : wr.rangeAt bL (oL + k * 2) (WR.cells (rs.getD k WR.zero)) := fun j v hv => by
        rw [hbel.cell (by exact hbL)]; exact hcells k (by omega) j v hv
      have hm9 : rs.getD k WR.zero ∈ rs := by
        rw [List.getD_eq_getElem?_getD, List.getElem?_eq_getElem (show k < rs.length by omega)]
        exact List.getElem_mem _
      obtain ⟨pu, cu, hval, -⟩ := HDAT.out _ hm9
      have hst : keptR rs mask (k + 1) = keptR rs mask k ++ if bit mask k then [rs.getD k WR.zero] else [] := rfl
      have HST := Lib.hid hst
      clear hst hm9
      generalize rs.getD k WR.zero = r9 at hrk hval HST
      have hone : ∀ v ∈ WR.cells r9, v.oneCell' = true := fun v hv => by
        simp only [WR.cells, List.mem_cons, List.not_mem_nil, or_false] at hv
        rcases hv with rfl | rfl
        · rfl
        · rw [hval]; rfl
      have HONE := Lib.hid hone
      have HRK := Lib.hid hrk
      have hkl := keptR_len rs mask k
      have hz := hbel.size
      obtain ⟨p5, c5, hv5⟩ := ownsRow_shape hown
      subst hv5
      have HO := Lib.hid hown
      have HBL := Lib.hid hbel
      clear hrk hown hbel hone hval
      generalize hkk : (keptR rs mask k).length = L9 at HO hkl
      have HKK := Lib.hid hkk
      clear hkk
      have hq0 : 0 ≤ mask / 2 ^ k := Int.ediv_nonneg m0 (by exact Int.le_of_lt (Int.pow_pos (by omega)))
      have hq1 : mask / 2 ^ k < 18446744073709551616 := by
        have h1 : mask / 2 ^ k ≤ mask := Int.ediv_le_self _ m0
        omega
      have hand := u64_and1 (mask / 2 ^ k) hq0 hq1
      have hkR : (k : Int) < rs.length := by omega
      have hk64 : (k : Int) < 64 := by omega
      clear hq0 hq1
      cases hb : bit mask k with
      | true =>
        have hc1 : bits .and .u64 (mask / 2 ^ k) 1 = 1 := by rw [hand]; simpa [bit] using hb
        have HBT := Lib.hid hb
        have how : (wr.alloc (.cells (WR.cells r9).toArray 106)).ownsRow w.heap.size 106 2 (.slice p5 L9 c5) L9 ((keptR rs mask k).flatMap WR.cells) := own_keep HO.out (Keep.alloc (fun _ => False) _ _) (fun _ _ h => h)
        have hcw : ∀ j u, (WR.cells r9)[j]? = some u → (wr.alloc (.cells (WR.cells r9).toArray 106)).cell? ((⟨wr.heap.size, 0, none⟩ : Addr).add j) = some u := (fun j u hj => by rw [Addr.add_lit, Nat.zero_add, (Blk.alloc wr 106 (WR.cells r9).toArray).cell]; simpa using hj)
        have HOW := Lib.hid how
        have HCW := Lib.hid hcw
        clear hb hand how hcw
        go_wp2_with (first | ((with_reducible refine wpList_loadM (.tmp 36) bL (oL + k * 2) (WR.cells r9) _ HRK.out Try.underlying106 rfl ?_ ?_ ?_); exact infoWz; exact rfl) | ((with_reducible refine wpList_buildS1 93 106 (.tmp 37) (WR.cells r9) _ 32 Try.underlying93 infoWw ?_ ?_ ?_ ?_); (show 0 < 2; omega); (show 2 ≤ _; omega); exact rfl) | ((with_reducible refine wpList_appW (.tmp 30) (.tmp 38) 93 w.heap.size 106 _ 2 32 Try.underlying93 infoWw rfl ?_ (.slice p5 L9 c5) L9 _ HOW.out ⟨wr.heap.size, 0, none⟩ 1 1 (WR.cells r9) ?_ HCW.out HONE.out ?_ ?_ ?_ ?_ ?_ ?_); omega; exact rfl; (unfold maxLen; omega); omega; (simp; omega); exact rfl; exact rfl; intro v6 w6 hown6 hg6 hv6; have HO6 := Lib.hid hown6; have HG6 := Lib.hid hg6; clear hown6 hg6 hv6))
        go_roundw
        case rel =>
          have hst := HST.out
          rw [HBT.out, if_pos rfl] at hst
          refine ⟨k + 1, by omega, by go_num, ?_, ?_⟩
          · rw [hst, List.length_append, HKK.out, List.flatMap_append]
            simpa using HO6.out
          · exact (HBL.out.alloc HBL.out.size (.cells (WR.cells r9).toArray 106)).grown HG6.out (by simp; omega) (fun j hj => (HOW.out.lt j hj).1)
        case measure => simp [intOf]; omega
      | false =>
        have hc1 : bits .and .u64 (mask / 2 ^ k) 1 = 0 := by
          rw [hand]
          have : mask / 2 ^ k % 2 ≠ 1 := by simpa [bit] using hb
          omega
        have HBT := Lib.hid hb
        clear hb hand
        go_wp2
        go_roundw
        case rel =>
          have hst := HST.out
          rw [HBT.out] at hst
          refine ⟨k + 1, by omega, by go_num, ?_, HBL.out⟩
          rw [hst]
          simpa [HKK.out] using HO.out
        case measure => simp [intOf]; omega
    · obtain rfl : M = k := by omega
      have HO := Lib.hid hown
      have HB := Lib.hid hbel
      clear hown hbel
      obtain ⟨kw, hkw⟩ : ∃ kw, keptW wl mask M = kw := ⟨_, rfl⟩
      obtain ⟨R, hR⟩ : ∃ R, keptR rs mask M = R := ⟨_, rfl⟩
      have hRk : R.map WR.key = kw := by rw [← hR, ← hkw, ← HRS.out]; exact keptR_key M hM1
      have hRl : R.length = kw.length := by have := congrArg List.length hRk; simpa using this
      have hRm : ∀ r ∈ R, r ∈ rs := fun r hr => keptR_mem M hM1 r (by rw [hR]; exact hr)
      have hkl : kw.length ≤ 64 := by rw [← hRl, ← hR]; exact Nat.le_trans (keptR_len rs mask M) hM2
      rw [hR, hRl] at HO
      obtain ⟨p5, c5, hv5⟩ := ownsRow_shape HO.out
      subst hv5
      have HMW : Hid (min wl.length 64 = M) := Lib.hid (by rw [← HRL.out]; exact HM.out)
      have HKW := Lib.hid hkw
      have HRK := Lib.hid hRk
      have HRLN := Lib.hid hRl
      have HRM := Lib.hid hRm
      have HKWO : Hid (∀ k ∈ kw, (0 ≤ k.1 ∧ k.1 < secs.length) ∧ Sec k.2) := Lib.hid (fun k hk => by
        rw [← HRK.out] at hk
        obtain ⟨r, hr, rfl⟩ := List.mem_map.1 hk
        exact HD.out.wl_ok _ (by rw [← HRS.out]; exact List.mem_map_of_mem (hRm r hr)))
      have HW : Hid (WOff F wr (.slice p5 kw.length c5) kw) := Lib.hid ⟨R, hRk, (by
        have h9 := HO.out
        rw [← hRl] at h9
        have h8 := WR.ofOwn h9 (bad := F) (fun k h => HD.out.fbd k h)
        rw [hRl] at h8 ⊢
        exact h8), fun r hr => (HDAT.out r (hRm r hr)).keep (Keep.ofBelow (bad := fun _ => False) HB.out) (fun _ h => h.elim)⟩
      clear hkw hR hRk hRl hRm
      have hMM : (M : Int) ≤ 64 := by omega
      have hkI : (kw.length : Int) ≤ 64 := by omega
      by_cases h64 : rs.length ≤ 64
      · have hend : ¬ (M : Int) < rs.length := by have := HM.out; omega
        by_cases ht : 0 < kw.length ∧ 0 ≤ torn ∧ torn < 64
        · obtain ⟨m, hm⟩ : ∃ m, kw.length = m + 1 := ⟨kw.length - 1, by omega⟩
          obtain ⟨t, htt⟩ : ∃ t : Nat, torn = (t : Int) := ⟨torn.toNat, by omega⟩
          obtain ⟨ht0, ht1, ht2⟩ := ht
          subst htt
          obtain ⟨g, hpg, hgw⟩ : ∃ g, p5 = some ⟨g, 0, none⟩ ∧ w.heap.size ≤ g := by
            rcases HO.out.2 with ⟨-, h0⟩ | ⟨g, cap, cur, e, hbg, hgg, hle, hcm, hsz, htk⟩
            · omega
            · injection e with e1 e2 e3
              exact ⟨g, e1, hbg⟩
          subst hpg
          have hmR : m < R.length := by have := HRLN.out; omega
          obtain ⟨q0, q1⟩ := WR.cell0 HO.out m hmR
          have hmem : R.getD m WR.zero ∈ R := by rw [List.getD_eq_getElem?_getD, List.getElem?_eq_getElem hmR]; exact List.getElem_mem _
          have hkey : kw.getD m (0, []) = ((R.getD m WR.zero).pos, (R.getD m WR.zero).data) := by
            rw [← HRK.out]; simp [List.getD, hmR, WR.key]
          have hlo := HKWO.out ((R.getD m WR.zero).pos, (R.getD m WR.zero).data) (by rw [← HRK.out]; exact List.mem_map_of_mem hmem)
          have hld := HDAT.out _ (HRM.out _ hmem)
          clear hmem
          obtain ⟨r9, hr9⟩ : ∃ r, R.getD m WR.zero = r := ⟨_, rfl⟩
          rw [hr9] at q0 q1 hkey hlo hld
          obtain ⟨pos9, dat9, val9⟩ := r9
          obtain ⟨i, hpos⟩ : ∃ i : Nat, pos9 = (i : Int) := ⟨pos9.toNat, by have := hlo.1.1; simp only at this; omega⟩
          subst hpos
          obtain ⟨pu, cu, hval, -⟩ := id hld
          have hd64 : dat9.length = 64 := hlo.2.1
          simp only at hval
          rw [hd64] at hval
          subst hval
          have hil : i < secs.length := by have := hlo.1.2; simp only at this; omega
          have HKEY := Lib.hid hkey
          have HLO := Lib.hid hlo
          have HLD := Lib.hid hld
          have HD64 := Lib.hid hd64
          have HR9 := Lib.hid hr9
          have hkn : (kw.length : Int) - 1 = (m : Int) := by omega
          have hgz : (0 : Int) < kw.length := by omega
          simp only at q0 q1
          clear hr9 hkey hlo hld hd64
          obtain ⟨aS, cS, hvs, hS⟩ := id H2.out
          subst hvs
          rcases hS with hz | ⟨bS, oS, haS, hbS, hbF, hcS⟩
          · omega
          subst haS
          obtain ⟨u0, hu0, hn0⟩ := hcS i hil
          have hs64 : Sec (secs.getD i []) := HD.out.secs_ok _ (by rw [List.getD_eq_getElem?_getD, List.getElem?_eq_getElem hil]; exact List.getElem_mem _)
          obtain ⟨s0, hs0e⟩ : ∃ s, secs.getD i [] = s := ⟨_, rfl⟩
          rw [hs0e] at hn0 hs64
          obtain ⟨p0, c0, hu0e, hc0, -⟩ := id hn0
          rw [hs64.1] at hu0e hc0
          subst hu0e
          have HU0 := Lib.hid hu0
          have HN0 := Lib.hid hn0
          have HS64 := Lib.hid hs64
          have HS0E := Lib.hid hs0e
          have HBS := Lib.hid hbS
          clear hu0 hn0 hs64 hs0e hcS hbS hbF
          go_wp2_with fail
          have hN3 := Blk.alloc wr 106 #[.int .i64 i, .slice pu 64 cu]
          have hb3 : Below w.heap.size w (wr.alloc (.cells #[.int .i64 i, .slice pu 64 cu] 106)) := HB.out.alloc HB.out.size _
          have ho3 := own_keep HO.out (Keep.alloc (fun _ => False) wr (.cells #[.int .i64 i, .slice pu 64 cu] 106)) (fun _ _ h => h)
          obtain ⟨w3, hw3⟩ : ∃ x, wr.alloc (.cells #[.int .i64 i, .slice pu 64 cu] 106) = x := ⟨_, rfl⟩
          have hg3 : g < wr.heap.size := (HO.out.lt g rfl).2
          have hN3w : w.heap.size ≤ wr.heap.size := HB.out.size
          have hsz3 : w3.heap.size = wr.heap.size + 1 := by rw [← hw3]; simp
          rw [hw3] at hN3 hb3 ho3 ⊢
          obtain ⟨N3, hN3e⟩ : ∃ x, wr.heap.size = x := ⟨_, rfl⟩
          rw [hN3e] at hN3 hg3 hsz3 hN3w ⊢
          have x0 := HX0.out w3 hb3
          have x2 : w3.cell? ⟨bS, oS + i, none⟩ = some (.slice p0 64 c0) := by rw [hb3.cell (by exact HBS.out)]; exact HU0.out
          have n0 : w3.cell? ⟨N3, 0, none⟩ = some (.int .i64 i) := by rw [hN3.cell]; rfl
          have hiI : (i : Int) < secs.length := by omega
          have hiM : (i : Int) ≤ 1048576 := by have := HD.out.many; omega
          have N3B := Lib.hid hN3
          have B3 := Lib.hid hb3
          have O3 := Lib.hid ho3
          have G3 := Lib.hid hg3
          have SZ3 := Lib.hid hsz3
          have N3W := Lib.hid hN3w
          clear hN3 hb3 ho3 hg3 hsz3 hw3 hN3e hN3w q0 q1 x1
          go_quiet (fail)
          go_wp2
          go_loopw [10, 11] (fun s q W => ∃ k : Nat, k ≤ m ∧ q = .int .i64 k ∧ (∃ p c, s = .slice p 64 c) ∧ NumsC F w s (curOf kw i s0 k) ∧ Below w3.heap.size w3 W) (fun _ q _ => m - (intOf q).toNat)
          case atStart => exact ⟨0, Nat.zero_le _, rfl, ⟨p0, c0, rfl⟩, HN0.out, ⟨rfl, rfl, rfl, Nat.le_refl _, fun _ _ => rfl⟩⟩
          case round =>
            obtain ⟨k, hk2, rfl, ⟨p, c, rfl⟩, hn, hbW⟩ := hrel
            by_cases hlt2 : k < m
            · have hkR2 : k < R.length := by omega
              obtain ⟨y0, y1⟩ := WR.cell0 O3.out k hkR2
              have hmem : R.getD k WR.zero ∈ R := by rw [List.getD_eq_getElem?_getD, List.getElem?_eq_getElem hkR2]; exact List.getElem_mem _
              have hkey : kw.getD k (0, []) = ((R.getD k WR.zero).pos, (R.getD k WR.zero).data) := by
                rw [← HRK.out]; simp [List.getD, hkR2, WR.key]
              have hld := HDAT.out _ (HRM.out _ hmem)
              have hlo := HKWO.out ((R.getD k WR.zero).pos, (R.getD k WR.zero).data) (by rw [← HRK.out]; exact List.mem_map_of_mem hmem)
              have hst : curOf kw i s0 (k + 1) = if (kw.getD k (0, [])).1 = (i : Int) then (kw.getD k (0, [])).2 else curOf kw i s0 k := rfl
              rw [hkey] at hst
              generalize R.getD k WR.zero = r8 at y0 y1 hld hst hlo
              obtain ⟨pos8, dat8, val8⟩ := r8
              obtain ⟨pv, cv, hval8, -⟩ := id hld
              simp only at hval8 hst hlo y0 y1
              rw [hlo.2.1] at hval8
              subst hval8
              have g3 : g < w3.heap.size := by have := G3.out; have := SZ3.out; omega
              have a3 : N3 < w3.heap.size := by have := SZ3.out; omega
              have z0 : wr.cell? ⟨g, k * 2, none⟩ = some (.int .i64 pos8) := by rw [hbW.cell (by exact g3)]; exact y0
              have z1 : wr.cell? ⟨g, k * 2 + 1, none⟩ = some (.slice pv 64 cv) := by rw [hbW.cell (by exact g3)]; exact y1
              have n1 : wr.cell? ⟨N3, 0, none⟩ = some (.int .i64 i) := by rw [hbW.cell (by exact a3), N3B.out.cell]; rfl
              have HN := Lib.hid hn
              have HLD8 := Lib.hid hld
              have BW := Lib.hid hbW
              have HST := Lib.hid hst
              have hkI2 : (k : Int) < m := by omega
              have hkI3 : (k : Int) ≤ m := by omega
              have hkI4 : k ≤ m := by omega
              have hkI5 : (k : Int) < (m : Int) + 1 := by omega
              have hmI : (m : Int) ≤ 64 := by omega
              clear hn hld hbW hst y0 y1 hmem hkey hlo g3 a3
              by_cases he : pos8 = i
              · have hst2 : curOf kw i s0 (k + 1) = dat8 := by rw [HST.out, if_pos he]
                have HST2 := Lib.hid hst2
                clear HST hst2
                subst he
                go_wp2_with fail
                go_quiet (fail)
                go_wp2
                go_roundw
                case rel => exact ⟨k + 1, by omega, by go_num, ⟨_, _, rfl⟩, by rw [HST2.out]; exact HLD8.out, BW.out.trans ⟨rfl, rfl, rfl, Nat.le_refl _, fun _ _ => rfl⟩⟩
                case measure => simp [intOf]; omega
              · have hst2 : curOf kw i s0 (k + 1) = curOf kw i s0 k := by rw [HST.out, if_neg he]
                have HST2 := Lib.hid hst2
                clear HST hst2
                go_wp2_with fail
                go_quiet (fail)
                go_wp2
                go_roundw
                case rel => exact ⟨k + 1, by omega, by go_num, ⟨_, _, rfl⟩, by rw [HST2.out]; exact HN.out, BW.out.trans ⟨rfl, rfl, rfl, Nat.le_refl _, fun _ _ => rfl⟩⟩
                case measure => simp [intOf]; omega
            · obtain rfl : k = m := by omega
              have g3 : g < wr.heap.size := by have := G3.out; have := SZ3.out; have := hbW.size; omega
              have a3 : N3 < w3.heap.size := by have := SZ3.out; omega
              have hx : ∀ W, Keep (fun _ => False) wr.drew W → Blk W N3 106 [.int .i64 i, .slice pu 64 cu] := fun W hW => ((N3B.out.below hbW a3).keep (Keep.drew (fun _ => False) _) (fun h => h)).keep hW (fun h => h)
              have Y0 := Lib.hid (fun W hW => (hx W hW).cell 0)
              have Y1 := Lib.hid (fun W hW => (hx W hW).cell 1)
              obtain ⟨sm, hsm⟩ : ∃ s, curOf kw i s0 k = s := ⟨_, rfl⟩
              rw [hsm] at hn
              have hm64 : Sec sm := by
                rw [← hsm]
                exact cur_ok HS64.out (fun q hq => (HKWO.out q hq).2) k (by omega)
              obtain ⟨pn, cn, hne, hnc, hno⟩ := hn
              rw [hm64.1] at hne hnc
              injection hne with hn1 hn2 hn3
              subst hn1 hn3
              obtain ⟨p8, c8, he8, hcc8, hno8⟩ := HLD.out
              try simp only at he8 hcc8 hno8
              rw [HD64.out] at he8 hcc8
              injection he8 with he1 he2 he3
              subst he1 he3
              clear hn2 he2
              have hnu := hno.nums
              have hnu8 := hno8.nums
              obtain ⟨bm, om, hpm⟩ : ∃ b o, p = some ⟨b, o, none⟩ := by
                obtain ⟨a', c', e1, h0 | ⟨b', o', e2, -⟩⟩ := hnu
                · rw [hm64.1] at h0; omega
                · injection e1 with e1; exact ⟨b', o', e1.trans e2⟩
              subst hpm
              obtain ⟨bu, ou, hpu⟩ : ∃ b o, pu = some ⟨b, o, none⟩ := by
                obtain ⟨a', c', e1, h0 | ⟨b', o', e2, -⟩⟩ := hnu8
                · rw [HD64.out] at h0; omega
                · injection e1 with e1; exact ⟨b', o', e1.trans e2⟩
              subst hpu
              have hb4 : Below w.heap.size w wr := B3.out.trans (hbW.mono B3.out.size)
              have hA8 : IsNums .u8 wr (.slice (some ⟨bu, ou, none⟩) t cu) (dat9.take t) := (hnu8.below hb4 (Nat.le_refl _)).takeAt t (by rw [HD64.out]; omega)
              have hA9 : IsNums .u8 wr (.slice (some ⟨bm, om + t, none⟩) (64 - t) (c - t)) (sm.drop t) := (hnu.below hb4 (Nat.le_refl _)).dropAt t (by rw [hm64.1]; omega) hm64.1.symm
              have hl8 : (dat9.take t).length = t := by rw [List.length_take, HD64.out]; omega
              have hl9 : (sm.drop t).length = 64 - t := by rw [List.length_drop, hm64.1]
              obtain ⟨M4, hM4⟩ : ∃ x, wr.heap.size = x := ⟨_, rfl⟩
              have A8 := Lib.hid hA8
              have A9 := Lib.hid hA9
              have LL8 := Lib.hid hl8
              have LL9 := Lib.hid hl9
              have MM4 := Lib.hid hM4
              have BW := Lib.hid hbW
              have SMS := Lib.hid hm64
              have HSM := Lib.hid hsm
              have B4 := Lib.hid hb4
              have G3W := Lib.hid g3
              have hwk : IntKind.i64.wrap (k : Int) = (k : Int) := IntWalk.i64_in _ (by omega)
              have hkk1 : (k : Int) < (k : Int) + 1 := by omega
              have ht64I : (t : Int) ≤ 64 := by omega
              have htcu : (t : Int) ≤ cu := by omega
              have htc : (t : Int) ≤ c := by omega
              have htc2 : c ≠ t := by omega
              have ht64n : t ≤ 64 := by omega
              have hcI : (64 : Int) ≤ c := by omega
              have hcuI : (64 : Int) ≤ cu := by omega
              have hO4 := own_keep (own_keep O3.out (Keep.ofBelow (bad := fun _ => False) hbW) (fun _ _ h => h)) (Keep.drew (fun _ => False) wr) (fun _ _ h => h)
              have O4 := Lib.hid hO4
              clear hx hnu hnu8 hno hno8 hA8 hA9 hl8 hl9 hb4 hbW hm64 hsm hO4 g3 a3
              go_wp2_with fail
              refine regionE_begin 16 (fun W => Keep (fun _ => False) wr.drew W) (by kernel_rfl) ?_
              refine stepE_any 0 (some 84) (v := ?va0) (fun _ => Keep.refl _ _) rfl (by rfl) (by kernel_rfl) (by kernel_rfl) (by kernel_rfl) (by decide) (fun _ _ _ h => h) (by rfl) ?ya0 ?na0
              case ya0 => intro W; go_simp; try with_reducible rfl
              try simp only [Act.put, List.setIfInBounds_toArray, List.set_cons_zero, List.set_cons_succ]
              refine stepE_any 1 (some 85) (v := ?va1) (fun _ => Keep.refl _ _) rfl (by rfl) (by kernel_rfl) (by kernel_rfl) (by kernel_rfl) (by decide) (fun _ _ _ h => h) (by rfl) ?ya1 ?na1
              case ya1 => intro W; go_simp; try with_reducible rfl
              try simp only [Act.put, List.setIfInBounds_toArray, List.set_cons_zero, List.set_cons_succ]
              refine stepE_any 2 (some 86) (v := ?va2) (fun _ => Keep.refl _ _) rfl (by rfl) (by kernel_rfl) (by kernel_rfl) (by kernel_rfl) (by decide) (fun _ _ _ h => h) (by rfl) ?ya2 ?na2
              case ya2 => intro W; go_simp; try with_reducible rfl
              try simp only [Act.put, List.setIfInBounds_toArray, List.set_cons_zero, List.set_cons_succ]
              refine stepE_any 3 (some 87) (v := ?va3) (fun _ => Keep.refl _ _) rfl (by rfl) (by kernel_rfl) (by kernel_rfl) (by kernel_rfl) (by decide) (fun _ _ _ h => h) (by rfl) ?ya3 ?na3
              case ya3 => intro W; go_simp; try with_reducible rfl
              try simp only [Act.put, List.setIfInBounds_toArray, List.set_cons_zero, List.set_cons_succ]
              refine stepE_readW 4 (some 88) (v := ?va4) (Keep.refl _ _) rfl (by rfl) (by kernel_rfl) (by kernel_rfl) (by kernel_rfl) (by kernel_rfl) (by kernel_rfl) (fun _ _ _ h => h) (by rfl) ?ya4 ?na4
              case ya4 => intro W hW; have q0 := Y0.out W hW; go_simp; try with_reducible rfl
              try simp only [Act.put, List.setIfInBounds_toArray, List.set_cons_zero, List.set_cons_succ]
              refine stepE_any 5 (some 89) (v := ?va5) (fun _ => Keep.refl _ _) rfl (by rfl) (by kernel_rfl) (by kernel_rfl) (by kernel_rfl) (by decide) (fun _ _ _ h => h) (by rfl) ?ya5 ?na5
              case ya5 => intro W; go_simp; try with_reducible rfl
              try simp only [Act.put, List.setIfInBounds_toArray, List.set_cons_zero, List.set_cons_succ]
              refine stepE_readW 6 (some 90) (v := ?va6) (Keep.refl _ _) rfl (by rfl) (by kernel_rfl) (by kernel_rfl) (by kernel_rfl) (by kernel_rfl) (by kernel_rfl) (fun _ _ _ h => h) (by rfl) ?ya6 ?na6
              case ya6 => intro W hW; have q1 := Y1.out W hW; go_simp; try with_reducible rfl
              try simp only [Act.put, List.setIfInBounds_toArray, List.set_cons_zero, List.set_cons_succ]
              refine stepE_any 7 (some 91) (v := ?va7) (fun _ => Keep.refl _ _) rfl (by rfl) (by kernel_rfl) (by kernel_rfl) (by kernel_rfl) (by decide) (fun _ _ _ h => h) (by rfl) ?ya7 ?na7
              case ya7 => intro W; go_simp; try with_reducible rfl
              try simp only [Act.put, List.setIfInBounds_toArray, List.set_cons_zero, List.set_cons_succ]
              refine stepE_any 8 (some 92) (v := ?va8) (fun _ => Keep.refl _ _) rfl (by rfl) (by kernel_rfl) (by kernel_rfl) (by kernel_rfl) (by decide) (fun _ _ _ h => h) (by rfl) ?ya8 ?na8
              case ya8 => intro W; go_simp; try with_reducible rfl
              try simp only [Act.put, List.setIfInBounds_toArray, List.set_cons_zero, List.set_cons_succ]
              refine stepE_any 10 (some 94) (v := ?va10) (fun _ => Keep.refl _ _) rfl (by rfl) (by kernel_rfl) (by kernel_rfl) (by kernel_rfl) (by decide) (fun _ _ _ h => h) (by rfl) ?ya10 ?na10
              case ya10 => intro W; go_simp; try with_reducible rfl
              try simp only [Act.put, List.setIfInBounds_toArray, List.set_cons_zero, List.set_cons_succ]
              refine stepE_any 11 (some 95) (v := ?va11) (fun _ => Keep.refl _ _) rfl (by rfl) (by kernel_rfl) (by kernel_rfl) (by kernel_rfl) (by decide) (fun _ _ _ h => h) (by rfl) ?ya11 ?na11
              case ya11 => intro W; go_simp; try with_reducible rfl
              try simp only [Act.put, List.setIfInBounds_toArray, List.set_cons_zero, List.set_cons_succ]
              refine stepE_any 12 (some 96) (v := ?va12) (fun _ => Keep.refl _ _) rfl (by rfl) (by kernel_rfl) (by kernel_rfl) (by kernel_rfl) (by decide) (fun _ _ _ h => h) (by rfl) ?ya12 ?na12
              case ya12 => intro W; go_simp; try with_reducible rfl
              try simp only [Act.put, List.setIfInBounds_toArray, List.set_cons_zero, List.set_cons_succ]
              -- 9: builtin:append -> 93
              refine stepE_only 9 rfl (by kernel_rfl) (by rfl) (fun K' hK => ?_)
              refine wp_appN (.const (.slice none 0 0)) (.tmp 92) 25 rfl M4 5 .u8 1 Try.underlying25 info_u8 (by omega) _ 0 [] (World.ownsRow_nil _ _ _ _) (.slice (some ⟨bu, ou, none⟩) t cu) (dat9.take t) (A8.out.below (Below.refl wr.heap.size wr).drew (Nat.le_refl _)) (by rw [LL8.out]; omega) (Nat.le_of_eq MM4.out.symm) (by rfl) (by rfl) (fun v9 w9 hown9 hb9 => ?_)
              rw [LL8.out, Nat.zero_add, List.nil_append] at hown9
              have O9 := Lib.hid hown9
              have BB9 := Lib.hid hb9
              refine hK _ _ (Keep.ofBelow (BB9.out.mono (Nat.le_of_eq MM4.out))) ?_
              clear hown9 hb9
              clear hK K'
              try simp only [Act.put, List.setIfInBounds_toArray, List.set_cons_zero, List.set_cons_succ]
              -- 13: builtin:append -> 97
              refine stepE_only 13 rfl (by kernel_rfl) (by rfl) (fun K' hK => ?_)
              refine wp_appN (.tmp 93) (.tmp 96) 25 rfl M4 5 .u8 1 Try.underlying25 info_u8 (by omega) v9 t (B8 (dat9.take t)) O9.out (.slice (some ⟨bm, om + t, none⟩) (64 - t) (c - t)) (sm.drop t) ((A9.out.below (Below.refl wr.heap.size wr).drew (Nat.le_refl _)).below (BB9.out.mono (Nat.le_of_eq MM4.out)) (Nat.le_refl _)) (by rw [LL9.out]; omega) (by have := BB9.out.size; have h9 : wr.drew.heap.size = wr.heap.size := rfl; have := MM4.out; omega) (by rfl) (by rfl) (fun v10 w10 hown10 hb10 => ?_)
              have O10 : Hid (w10.ownsRow M4 5 1 v10 64 (B8 (dat9.take t ++ sm.drop t))) := Lib.hid (by
                have h9 := hown10
                rw [LL9.out, show t + (64 - t) = 64 by omega] at h9
                rw [B8_append]; exact h9)
              obtain ⟨p10, c10, hv10⟩ := ownsRow_shape O10.out
              subst hv10
              have KH : Hid (Keep (fun _ => False) wr.drew w10) := Lib.hid (Keep.ofBelow ((BB9.out.trans hb10).mono (Nat.le_of_eq MM4.out)))
              obtain ⟨cur, K10, CSZ, CTK, CC5⟩ : ∃ cur : List Value, Hid (Blk w10 g 106 cur) ∧ Hid (kw.length * 2 ≤ cur.length) ∧ Hid (cur.take (kw.length * 2) = R.flatMap WR.cells) ∧ Hid (kw.length ≤ c5) := by
                have h9 := own_keep O4.out KH.out (fun _ _ h => h)
                rcases h9.2 with ⟨-, h0⟩ | ⟨g', cap, cur, e, hbg, hgg, hle, hcm, hsz, htk⟩
                · omega
                · injection e with e1 e2 e3
                  injection e1 with e1
                  injection e1 with e1
                  subst e1 e3
                  exact ⟨cur.toList, Lib.hid (by unfold Blk; rw [Array.toArray_toList]; exact hgg), Lib.hid (by have h7 : cur.toList.length = cur.size := Array.length_toList; omega), Lib.hid htk, Lib.hid hle⟩
              refine hK _ _ KH.out ?_
              clear hown10 hb10
              clear hK K'
              try simp only [Act.put, List.setIfInBounds_toArray, List.set_cons_zero, List.set_cons_succ]
              refine stepE_any 14 (some 98) (v := ?va14) (fun _ => KH.out) rfl (by rfl) (by kernel_rfl) (by kernel_rfl) (by kernel_rfl) (by decide) (fun _ _ _ h => h) (by rfl) ?ya14 ?na14
              case ya14 => intro W; go_simp; try with_reducible rfl
              try simp only [Act.put, List.setIfInBounds_toArray, List.set_cons_zero, List.set_cons_succ]
              refine stepE_any 15 (some 99) (v := ?va15) (fun _ => KH.out) rfl (by rfl) (by kernel_rfl) (by kernel_rfl) (by kernel_rfl) (by decide) (fun _ _ _ h => h) (by rfl) ?ya15 ?na15
              case ya15 => intro W; go_simp; try with_reducible rfl
              try simp only [Act.put, List.setIfInBounds_toArray, List.set_cons_zero, List.set_cons_succ]
              -- 16: store -> None
              refine stepE_end 16 rfl (by kernel_rfl) (by rfl) (by rfl) (fun K' hK => ?_)
              refine wp_store_blk (cs := cur) K10.out 106 (.tmp 99) (.tmp 98) rfl (k * 2) [.int .i64 i, .slice p10 64 c10] (by kernel_rfl) (by kernel_rfl) (by have := CSZ.out; show k * 2 + 2 ≤ _; omega) infoWz (by intro v hv; simp at hv; rcases hv with rfl | rfl <;> rfl) (fun w5 hb5 hk5 => ?_)
              refine hK _ _ ?_
              have HB5 := Lib.hid hb5
              have HK5 := Lib.hid hk5
              clear hb5 hk5
              clear hK K'
              refine wpAnyE_done (by kernel_rfl) ?_ _
              have hk6n : w10.heap.size ≤ w5.heap.size := (HK5.out (fun q => q = g) rfl).size
              have h10s : M4 ≤ w10.heap.size := by have := KH.out.size; have h9 : wr.drew.heap.size = wr.heap.size := rfl; have := MM4.out; omega
              have hw5 : Below w.heap.size w w5 := (B4.out.trans (((Below.refl w.heap.size wr).drew).trans ((KH.out.below (N := wr.heap.size) (fun _ h => h.elim) (Nat.le_refl _)).mono B4.out.size))).trans ((HK5.out (fun q => q = g) rfl).below (by rintro q rfl; exact hgw) (by have := B4.out.size; have := MM4.out; omega))
              obtain ⟨tw, htw⟩ : ∃ tw, kw.set k ((i : Int), dat9.take t ++ sm.drop t) = tw := ⟨_, rfl⟩
              have htwl : tw.length = k + 1 := by rw [← htw, List.length_set]; exact hm
              have hnew : NumsC F w5 (.slice p10 64 c10) (dat9.take t ++ sm.drop t) := by
                have h3 : NumsC (fun q => F q ∨ q = g) w10 (.slice p10 64 c10) (dat9.take t ++ sm.drop t) := NumsC.ofOwn O10.out (by
                  rintro j hj1 hj2 (h | h)
                  · have := HD.out.fbd j h; have := B4.out.size; have := MM4.out; omega
                  · have := G3W.out; have := MM4.out; omega)
                exact (h3.keep (HK5.out (fun q => q = g) rfl) (fun _ h => .inr h)).mono (fun _ _ h => .inl h)
              have HW : Hid (WOff F w5 (.slice (some ⟨g, 0, none⟩) (k + 1) c5) tw) := Lib.hid (by
                have h9 := WOff.setLast (F := F) (w := w) (w5 := w5) (g := g) (n := k + 1) (c := c5) (R := R) (cur := cur) (by have := CSZ.out; have := HRLN.out; omega) (by rw [HRLN.out]; exact CTK.out) (fun q h => HD.out.fbd q h) hgw k hmR ⟨i, dat9.take t ++ sm.drop t, .slice p10 64 c10⟩ HB5.out (fun r hr => HDAT.out r (HRM.out r hr)) hw5 hnew (by have := HRLN.out; omega) (by have := CC5.out; omega)
                rw [HRK.out] at h9
                rw [← htw]
                exact h9)
              have HR : Hid (RHead w5 B (.slice (some ⟨bS, oS, none⟩) secs.length cS) (.slice aL rs.length cL) l) := Lib.hid (H1.out.below hw5 hBw)
              have HL : Hid (LOff F w5 (.slice (some ⟨bS, oS, none⟩) secs.length cS) secs) := Lib.hid (H2.out.keep (Keep.ofBelow (bad := fun _ => False) hw5) (fun _ h => h.elim))
              have HFB : Hid (∀ k, F k → k < w5.heap.size) := Lib.hid (fun k hF => Nat.lt_of_lt_of_le (HD.out.fbd k hF) hw5.size)
              have HKP : Hid (Keep (fun k => k = B) w w5) := Lib.hid (Keep.ofBelow hw5)
              have HKF : Hid (tw.length ≤ 1000000) := Lib.hid (by omega)
              have hrc : rcrashed secs wl mask t = settleN secs tw tw.length := by
                have h9 : tornW secs (keptW wl mask (min wl.length 64)) t = tw := by
                  rw [HMW.out, HKW.out]
                  unfold tornW
                  rw [if_pos ⟨by omega, by omega, ht2⟩, show kw.length - 1 = k by omega, HKEY.out, ← htw]
                  show kw.set k ((i : Int), dat9.take (t : Int).toNat ++ (curOf kw i (secs.getD i []) k).drop (t : Int).toNat) = _
                  rw [HS0E.out, HSM.out]
                  rfl
                unfold rcrashed
                rw [h9]
              have HKWT : Hid (∀ q ∈ tw, (0 ≤ q.1 ∧ q.1 < secs.length) ∧ Sec q.2) := Lib.hid (fun q hq => by
                rw [← htw] at hq
                rcases List.mem_or_eq_of_mem_set hq with h | h
                · exact HKWO.out q h
                · rw [h]; exact ⟨HLO.out.1, torn_ok HLO.out.2 SMS.out t⟩)
              have HSO : Hid (∀ s ∈ settleN secs tw tw.length, Sec s) := Lib.hid (settleN_ok HD.out.secs_ok HKWT.out _ (Nat.le_refl _))
              have HRC := Lib.hid hrc
              have HTWL := Lib.hid htwl
              have HW2 : Hid (WOff F w5 (.slice (some ⟨g, 0, none⟩) tw.length c5) tw) := Lib.hid (by rw [htwl]; exact HW.out)
              clear hrc htwl htw hnew hw5 hk6n h10s
              go_wp2_with fail
              rw [show ((k : Int) + 1) = ((tw.length : Nat) : Int) from by rw [HTWL.out]; rfl, show k + 1 = tw.length from HTWL.out.symm]
              refine (settle_any (wl := tw) HR.out HL.out HW2.out HD.out.fB HFB.out hs0 HD.out.secs_ok HKWT.out HD.out.many HKF.out).mono ?_
              rintro e w6 ⟨rfl, ⟨vs6, hr6', hl6⟩, hk6⟩
              have c2 := hr6'.cell 2
              have f2 := hr6'.free 2
              have R6 := Lib.hid hr6'
              have L6 := Lib.hid hl6
              have K6 := Lib.hid hk6
              clear hr6' hl6 hk6
              go_wp2
              go_returns
              rw [HRC.out]
              exact rcrash_end HD.out HSO.out R6.out L6.out (HKP.out.trans K6.out)
        · by_cases z : kw.length = 0
          · have hz : ¬ (0 : Int) < kw.length := by omega
            clear z
            have HR : Hid (RHead wr B vs (.slice aL rs.length cL) l) := Lib.hid (H1.out.below HB.out hBw)
            have HL : Hid (LOff F wr vs secs) := Lib.hid (H2.out.keep (Keep.ofBelow (bad := fun _ => False) HB.out) (fun _ h => h.elim))
            have HFB : Hid (∀ k, F k → k < wr.heap.size) := Lib.hid (fun k hF => Nat.lt_of_lt_of_le (HD.out.fbd k hF) HB.out.size)
            have HKP : Hid (Keep (fun k => k = B) w wr) := Lib.hid (Keep.ofBelow HB.out)
            have HKF : Hid (kw.length ≤ 1000000) := Lib.hid (by omega)
            have hrc : rcrashed secs wl mask torn = settleN secs kw kw.length := by
              unfold rcrashed
              rw [HMW.out, HKW.out]
              unfold tornW
              rw [if_neg ht]
            have HSO : Hid (∀ s ∈ settleN secs kw kw.length, Sec s) := Lib.hid (settleN_ok HD.out.secs_ok HKWO.out _ (Nat.le_refl _))
            have HRC := Lib.hid hrc
            clear hrc ht
            go_wp2_with fail
            refine (settle_any (wl := kw) HR.out HL.out HW.out HD.out.fB HFB.out hs0 HD.out.secs_ok HKWO.out HD.out.many HKF.out).mono ?_
            rintro e w6 ⟨rfl, ⟨vs6, hr6', hl6⟩, hk6⟩
            have c2 := hr6'.cell 2
            have f2 := hr6'.free 2
            have R6 := Lib.hid hr6'
            have L6 := Lib.hid hl6
            have K6 := Lib.hid hk6
            clear hr6' hl6 hk6
            go_wp2
            go_returns
            rw [HRC.out]
            exact rcrash_end HD.out HSO.out R6.out L6.out (HKP.out.trans K6.out)
          · have hz : (0 : Int) < kw.length := by omega
            clear z
            by_cases z2 : torn < 0
            · have hz2 : ¬ (0 ≤ torn) := by omega
              have HR : Hid (RHead wr B vs (.slice aL rs.length cL) l) := Lib.hid (H1.out.below HB.out hBw)
              have HL : Hid (LOff F wr vs secs) := Lib.hid (H2.out.keep (Keep.ofBelow (bad := fun _ => False) HB.out) (fun _ h => h.elim))
              have HFB : Hid (∀ k, F k → k < wr.heap.size) := Lib.hid (fun k hF => Nat.lt_of_lt_of_le (HD.out.fbd k hF) HB.out.size)
              have HKP : Hid (Keep (fun k => k = B) w wr) := Lib.hid (Keep.ofBelow HB.out)
              have HKF : Hid (kw.length ≤ 1000000) := Lib.hid (by omega)
              have hrc : rcrashed secs wl mask torn = settleN secs kw kw.length := by
                unfold rcrashed
                rw [HMW.out, HKW.out]
                unfold tornW
                rw [if_neg ht]
              have HSO : Hid (∀ s ∈ settleN secs kw kw.length, Sec s) := Lib.hid (settleN_ok HD.out.secs_ok HKWO.out _ (Nat.le_refl _))
              have HRC := Lib.hid hrc
              clear hrc ht
              go_wp2_with fail
              refine (settle_any (wl := kw) HR.out HL.out HW.out HD.out.fB HFB.out hs0 HD.out.secs_ok HKWO.out HD.out.many HKF.out).mono ?_
              rintro e w6 ⟨rfl, ⟨vs6, hr6', hl6⟩, hk6⟩
              have c2 := hr6'.cell 2
              have f2 := hr6'.free 2
              have R6 := Lib.hid hr6'
              have L6 := Lib.hid hl6
              have K6 := Lib.hid hk6
              clear hr6' hl6 hk6
              go_wp2
              go_returns
              rw [HRC.out]
              exact rcrash_end HD.out HSO.out R6.out L6.out (HKP.out.trans K6.out)
            · have hz2 : 0 ≤ torn := by omega
              have hz3 : ¬ torn < 64 := by omega
              have HR : Hid (RHead wr B vs (.slice aL rs.length cL) l) := Lib.hid (H1.out.below HB.out hBw)
              have HL : Hid (LOff F wr vs secs) := Lib.hid (H2.out.keep (Keep.ofBelow (bad := fun _ => False) HB.out) (fun _ h => h.elim))
              have HFB : Hid (∀ k, F k → k < wr.heap.size) := Lib.hid (fun k hF => Nat.lt_of_lt_of_le (HD.out.fbd k hF) HB.out.size)
              have HKP : Hid (Keep (fun k => k = B) w wr) := Lib.hid (Keep.ofBelow HB.out)
              have HKF : Hid (kw.length ≤ 1000000) := Lib.hid (by omega)
              have hrc : rcrashed secs wl mask torn = settleN secs kw kw.length := by
                unfold rcrashed
                rw [HMW.out, HKW.out]
                unfold tornW
                rw [if_neg ht]
              have HSO : Hid (∀ s ∈ settleN secs kw kw.length, Sec s) := Lib.hid (settleN_ok HD.out.secs_ok HKWO.out _ (Nat.le_refl _))
              have HRC := Lib.hid hrc
              clear hrc ht
              go_wp2_with fail
              refine (settle_any (wl := kw) HR.out HL.out HW.out HD.out.fB HFB.out hs0 HD.out.secs_ok HKWO.out HD.out.many HKF.out).mono ?_
              rintro e w6 ⟨rfl, ⟨vs6, hr6', hl6⟩, hk6⟩
              have c2 := hr6'.cell 2
              have f2 := hr6'.free 2
              have R6 := Lib.hid hr6'
              have L6 := Lib.hid hl6
              have K6 := Lib.hid hk6
              clear hr6' hl6 hk6
              go_wp2
              go_returns
              rw [HRC.out]
              exact rcrash_end HD.out HSO.out R6.out L6.out (HKP.out.trans K6.out)
      · have hend : (M : Int) < rs.length := by have := HM.out; omega
        have hend2 : ¬ (M : Int) < 64 := by have := HM.out; omega
        by_cases ht : 0 < kw.length ∧ 0 ≤ torn ∧ torn < 64
        · obtain ⟨m, hm⟩ : ∃ m, kw.length = m + 1 := ⟨kw.length - 1, by omega⟩
          obtain ⟨t, htt⟩ : ∃ t : Nat, torn = (t : Int) := ⟨torn.toNat, by omega⟩
          obtain ⟨ht0, ht1, ht2⟩ := ht
          subst htt
          obtain ⟨g, hpg, hgw⟩ : ∃ g, p5 = some ⟨g, 0, none⟩ ∧ w.heap.size ≤ g := by
            rcases HO.out.2 with ⟨-, h0⟩ | ⟨g, cap, cur, e, hbg, hgg, hle, hcm, hsz, htk⟩
            · omega
            · injection e with e1 e2 e3
              exact ⟨g, e1, hbg⟩
          subst hpg
          have hmR : m < R.length := by have := HRLN.out; omega
          obtain ⟨q0, q1⟩ := WR.cell0 HO.out m hmR
          have hmem : R.getD m WR.zero ∈ R := by rw [List.getD_eq_getElem?_getD, List.getElem?_eq_getElem hmR]; exact List.getElem_mem _
          have hkey : kw.getD m (0, []) = ((R.getD m WR.zero).pos, (R.getD m WR.zero).data) := by
            rw [← HRK.out]; simp [List.getD, hmR, WR.key]
          have hlo := HKWO.out ((R.getD m WR.zero).pos, (R.getD m WR.zero).data) (by rw [← HRK.out]; exact List.mem_map_of_mem hmem)
          have hld := HDAT.out _ (HRM.out _ hmem)
          clear hmem
          obtain ⟨r9, hr9⟩ : ∃ r, R.getD m WR.zero = r := ⟨_, rfl⟩
          rw [hr9] at q0 q1 hkey hlo hld
          obtain ⟨pos9, dat9, val9⟩ := r9
          obtain ⟨i, hpos⟩ : ∃ i : Nat, pos9 = (i : Int) := ⟨pos9.toNat, by have := hlo.1.1; simp only at this; omega⟩
          subst hpos
          obtain ⟨pu, cu, hval, -⟩ := id hld
          have hd64 : dat9.length = 64 := hlo.2.1
          simp only at hval
          rw [hd64] at hval
          subst hval
          have hil : i < secs.length := by have := hlo.1.2; simp only at this; omega
          have HKEY := Lib.hid hkey
          have HLO := Lib.hid hlo
          have HLD := Lib.hid hld
          have HD64 := Lib.hid hd64
          have HR9 := Lib.hid hr9
          have hkn : (kw.length : Int) - 1 = (m : Int) := by omega
          have hgz : (0 : Int) < kw.length := by omega
          simp only at q0 q1
          clear hr9 hkey hlo hld hd64
          obtain ⟨aS, cS, hvs, hS⟩ := id H2.out
          subst hvs
          rcases hS with hz | ⟨bS, oS, haS, hbS, hbF, hcS⟩
          · omega
          subst haS
          obtain ⟨u0, hu0, hn0⟩ := hcS i hil
          have hs64 : Sec (secs.getD i []) := HD.out.secs_ok _ (by rw [List.getD_eq_getElem?_getD, List.getElem?_eq_getElem hil]; exact List.getElem_mem _)
          obtain ⟨s0, hs0e⟩ : ∃ s, secs.getD i [] = s := ⟨_, rfl⟩
          rw [hs0e] at hn0 hs64
          obtain ⟨p0, c0, hu0e, hc0, -⟩ := id hn0
          rw [hs64.1] at hu0e hc0
          subst hu0e
          have HU0 := Lib.hid hu0
          have HN0 := Lib.hid hn0
          have HS64 := Lib.hid hs64
          have HS0E := Lib.hid hs0e
          have HBS := Lib.hid hbS
          clear hu0 hn0 hs64 hs0e hcS hbS hbF
          go_wp2_with fail
          have hN3 := Blk.alloc wr 106 #[.int .i64 i, .slice pu 64 cu]
          have hb3 : Below w.heap.size w (wr.alloc (.cells #[.int .i64 i, .slice pu 64 cu] 106)) := HB.out.alloc HB.out.size _
          have ho3 := own_keep HO.out (Keep.alloc (fun _ => False) wr (.cells #[.int .i64 i, .slice pu 64 cu] 106)) (fun _ _ h => h)
          obtain ⟨w3, hw3⟩ : ∃ x, wr.alloc (.cells #[.int .i64 i, .slice pu 64 cu] 106) = x := ⟨_, rfl⟩
          have hg3 : g < wr.heap.size := (HO.out.lt g rfl).2
          have hN3w : w.heap.size ≤ wr.heap.size := HB.out.size
          have hsz3 : w3.heap.size = wr.heap.size + 1 := by rw [← hw3]; simp
          rw [hw3] at hN3 hb3 ho3 ⊢
          obtain ⟨N3, hN3e⟩ : ∃ x, wr.heap.size = x := ⟨_, rfl⟩
          rw [hN3e] at hN3 hg3 hsz3 hN3w ⊢
          have x0 := HX0.out w3 hb3
          have x2 : w3.cell? ⟨bS, oS + i, none⟩ = some (.slice p0 64 c0) := by rw [hb3.cell (by exact HBS.out)]; exact HU0.out
          have n0 : w3.cell? ⟨N3, 0, none⟩ = some (.int .i64 i) := by rw [hN3.cell]; rfl
          have hiI : (i : Int) < secs.length := by omega
          have hiM : (i : Int) ≤ 1048576 := by have := HD.out.many; omega
          have N3B := Lib.hid hN3
          have B3 := Lib.hid hb3
          have O3 := Lib.hid ho3
          have G3 := Lib.hid hg3
          have SZ3 := Lib.hid hsz3
          have N3W := Lib.hid hN3w
          clear hN3 hb3 ho3 hg3 hsz3 hw3 hN3e hN3w q0 q1 x1
          go_quiet (fail)
          go_wp2
          go_loopw [10, 11] (fun s q W => ∃ k : Nat, k ≤ m ∧ q = .int .i64 k ∧ (∃ p c, s = .slice p 64 c) ∧ NumsC F w s (curOf kw i s0 k) ∧ Below w3.heap.size w3 W) (fun _ q _ => m - (intOf q).toNat)
          case atStart => exact ⟨0, Nat.zero_le _, rfl, ⟨p0, c0, rfl⟩, HN0.out, ⟨rfl, rfl, rfl, Nat.le_refl _, fun _ _ => rfl⟩⟩
          case round =>
            obtain ⟨k, hk2, rfl, ⟨p, c, rfl⟩, hn, hbW⟩ := hrel
            by_cases hlt2 : k < m
            · have hkR2 : k < R.length := by omega
              obtain ⟨y0, y1⟩ := WR.cell0 O3.out k hkR2
              have hmem : R.getD k WR.zero ∈ R := by rw [List.getD_eq_getElem?_getD, List.getElem?_eq_getElem hkR2]; exact List.getElem_mem _
              have hkey : kw.getD k (0, []) = ((R.getD k WR.zero).pos, (R.getD k WR.zero).data) := by
                rw [← HRK.out]; simp [List.getD, hkR2, WR.key]
              have hld := HDAT.out _ (HRM.out _ hmem)
              have hlo := HKWO.out ((R.getD k WR.zero).pos, (R.getD k WR.zero).data) (by rw [← HRK.out]; exact List.mem_map_of_mem hmem)
              have hst : curOf kw i s0 (k + 1) = if (kw.getD k (0, [])).1 = (i : Int) then (kw.getD k (0, [])).2 else curOf kw i s0 k := rfl
              rw [hkey] at hst
              generalize R.getD k WR.zero = r8 at y0 y1 hld hst hlo
              obtain ⟨pos8, dat8, val8⟩ := r8
              obtain ⟨pv, cv, hval8, -⟩ := id hld
              simp only at hval8 hst hlo y0 y1
              rw [hlo.2.1] at hval8
              subst hval8
              have g3 : g < w3.heap.size := by have := G3.out; have := SZ3.out; omega
              have a3 : N3 < w3.heap.size := by have := SZ3.out; omega
              have z0 : wr.cell? ⟨g, k * 2, none⟩ = some (.int .i64 pos8) := by rw [hbW.cell (by exact g3)]; exact y0
              have z1 : wr.cell? ⟨g, k * 2 + 1, none⟩ = some (.slice pv 64 cv) := by rw [hbW.cell (by exact g3)]; exact y1
              have n1 : wr.cell? ⟨N3, 0, none⟩ = some (.int .i64 i) := by rw [hbW.cell (by exact a3), N3B.out.cell]; rfl
              have HN := Lib.hid hn
              have HLD8 := Lib.hid hld
              have BW := Lib.hid hbW
              have HST := Lib.hid hst
              have hkI2 : (k : Int) < m := by omega
              have hkI3 : (k : Int) ≤ m := by omega
              have hkI4 : k ≤ m := by omega
              have hkI5 : (k : Int) < (m : Int) + 1 := by omega
              have hmI : (m : Int) ≤ 64 := by omega
              clear hn hld hbW hst y0 y1 hmem hkey hlo g3 a3
              by_cases he : pos8 = i
              · have hst2 : curOf kw i s0 (k + 1) = dat8 := by rw [HST.out, if_pos he]
                have HST2 := Lib.hid hst2
                clear HST hst2
                subst he
                go_wp2_with fail
                go_quiet (fail)
                go_wp2
                go_roundw
                case rel => exact ⟨k + 1, by omega, by go_num, ⟨_, _, rfl⟩, by rw [HST2.out]; exact HLD8.out, BW.out.trans ⟨rfl, rfl, rfl, Nat.le_refl _, fun _ _ => rfl⟩⟩
                case measure => simp [intOf]; omega
              · have hst2 : curOf kw i s0 (k + 1) = curOf kw i s0 k := by rw [HST.out, if_neg he]
                have HST2 := Lib.hid hst2
                clear HST hst2
                go_wp2_with fail
                go_quiet (fail)
                go_wp2
                go_roundw
                case rel => exact ⟨k + 1, by omega, by go_num, ⟨_, _, rfl⟩, by rw [HST2.out]; exact HN.out, BW.out.trans ⟨rfl, rfl, rfl, Nat.le_refl _, fun _ _ => rfl⟩⟩
                case measure => simp [intOf]; omega
            · obtain rfl : k = m := by omega
              have g3 : g < wr.heap.size := by have := G3.out; have := SZ3.out; have := hbW.size; omega
              have a3 : N3 < w3.heap.size := by have := SZ3.out; omega
              have hx : ∀ W, Keep (fun _ => False) wr.drew W → Blk W N3 106 [.int .i64 i, .slice pu 64 cu] := fun W hW => ((N3B.out.below hbW a3).keep (Keep.drew (fun _ => False) _) (fun h => h)).keep hW (fun h => h)
              have Y0 := Lib.hid (fun W hW => (hx W hW).cell 0)
              have Y1 := Lib.hid (fun W hW => (hx W hW).cell 1)
              obtain ⟨sm, hsm⟩ : ∃ s, curOf kw i s0 k = s := ⟨_, rfl⟩
              rw [hsm] at hn
              have hm64 : Sec sm := by
                rw [← hsm]
                exact cur_ok HS64.out (fun q hq => (HKWO.out q hq).2) k (by omega)
              obtain ⟨pn, cn, hne, hnc, hno⟩ := hn
              rw [hm64.1] at hne hnc
              injection hne with hn1 hn2 hn3
              subst hn1 hn3
              obtain ⟨p8, c8, he8, hcc8, hno8⟩ := HLD.out
              try simp only at he8 hcc8 hno8
              rw [HD64.out] at he8 hcc8
              injection he8 with he1 he2 he3
              subst he1 he3
              clear hn2 he2
              have hnu := hno.nums
              have hnu8 := hno8.nums
              obtain ⟨bm, om, hpm⟩ : ∃ b o, p = some ⟨b, o, none⟩ := by
                obtain ⟨a', c', e1, h0 | ⟨b', o', e2, -⟩⟩ := hnu
                · rw [hm64.1] at h0; omega
                · injection e1 with e1; exact ⟨b', o', e1.trans e2⟩
              subst hpm
              obtain ⟨bu, ou, hpu⟩ : ∃ b o, pu = some ⟨b, o, none⟩ := by
                obtain ⟨a', c', e1, h0 | ⟨b', o', e2, -⟩⟩ := hnu8
                · rw [HD64.out] at h0; omega
                · injection e1 with e1; exact ⟨b', o', e1.trans e2⟩
              subst hpu
              have hb4 : Below w.heap.size w wr := B3.out.trans (hbW.mono B3.out.size)
              have hA8 : IsNums .u8 wr (.slice (some ⟨bu, ou, none⟩) t cu) (dat9.take t) := (hnu8.below hb4 (Nat.le_refl _)).takeAt t (by rw [HD64.out]; omega)
              have hA9 : IsNums .u8 wr (.slice (some ⟨bm, om + t, none⟩) (64 - t) (c - t)) (sm.drop t) := (hnu.below hb4 (Nat.le_refl _)).dropAt t (by rw [hm64.1]; omega) hm64.1.symm
              have hl8 : (dat9.take t).length = t := by rw [List.length_take, HD64.out]; omega
              have hl9 : (sm.drop t).length = 64 - t := by rw [List.length_drop, hm64.1]
              obtain ⟨M4, hM4⟩ : ∃ x, wr.heap.size = x := ⟨_, rfl⟩
              have A8 := Lib.hid hA8
              have A9 := Lib.hid hA9
              have LL8 := Lib.hid hl8
              have LL9 := Lib.hid hl9
              have MM4 := Lib.hid hM4
              have BW := Lib.hid hbW
              have SMS := Lib.hid hm64
              have HSM := Lib.hid hsm
              have B4 := Lib.hid hb4
              have G3W := Lib.hid g3
              have hwk : IntKind.i64.wrap (k : Int) = (k : Int) := IntWalk.i64_in _ (by omega)
              have hkk1 : (k : Int) < (k : Int) + 1 := by omega
              have ht64I : (t : Int) ≤ 64 := by omega
              have htcu : (t : Int) ≤ cu := by omega
              have htc : (t : Int) ≤ c := by omega
              have htc2 : c ≠ t := by omega
              have ht64n : t ≤ 64 := by omega
              have hcI : (64 : Int) ≤ c := by omega
              have hcuI : (64 : Int) ≤ cu := by omega
              have hO4 := own_keep (own_keep O3.out (Keep.ofBelow (bad := fun _ => False) hbW) (fun _ _ h => h)) (Keep.drew (fun _ => False) wr) (fun _ _ h => h)
              have O4 := Lib.hid hO4
              clear hx hnu hnu8 hno hno8 hA8 hA9 hl8 hl9 hb4 hbW hm64 hsm hO4 g3 a3
              go_wp2_with fail
              refine regionE_begin 16 (fun W => Keep (fun _ => False) wr.drew W) (by kernel_rfl) ?_
              refine stepE_any 0 (some 84) (v := ?vb0) (fun _ => Keep.refl _ _) rfl (by rfl) (by kernel_rfl) (by kernel_rfl) (by kernel_rfl) (by decide) (fun _ _ _ h => h) (by rfl) ?yb0 ?nb0
              case yb0 => intro W; go_simp; try with_reducible rfl
              try simp only [Act.put, List.setIfInBounds_toArray, List.set_cons_zero, List.set_cons_succ]
              refine stepE_any 1 (some 85) (v := ?vb1) (fun _ => Keep.refl _ _) rfl (by rfl) (by kernel_rfl) (by kernel_rfl) (by kernel_rfl) (by decide) (fun _ _ _ h => h) (by rfl) ?yb1 ?nb1
              case yb1 => intro W; go_simp; try with_reducible rfl
              try simp only [Act.put, List.setIfInBounds_toArray, List.set_cons_zero, List.set_cons_succ]
              refine stepE_any 2 (some 86) (v := ?vb2) (fun _ => Keep.refl _ _) rfl (by rfl) (by kernel_rfl) (by kernel_rfl) (by kernel_rfl) (by decide) (fun _ _ _ h => h) (by rfl) ?yb2 ?nb2
              case yb2 => intro W; go_simp; try with_reducible rfl
              try simp only [Act.put, List.setIfInBounds_toArray, List.set_cons_zero, List.set_cons_succ]
              refine stepE_any 3 (some 87) (v := ?vb3) (fun _ => Keep.refl _ _) rfl (by rfl) (by kernel_rfl) (by kernel_rfl) (by kernel_rfl) (by decide) (fun _ _ _ h => h) (by rfl) ?yb3 ?nb3
              case yb3 => intro W; go_simp; try with_reducible rfl
              try simp only [Act.put, List.setIfInBounds_toArray, List.set_cons_zero, List.set_cons_succ]
              refine stepE_readW 4 (some 88) (v := ?vb4) (Keep.refl _ _) rfl (by rfl) (by kernel_rfl) (by kernel_rfl) (by kernel_rfl) (by kernel_rfl) (by kernel_rfl) (fun _ _ _ h => h) (by rfl) ?yb4 ?nb4
              case yb4 => intro W hW; have q0 := Y0.out W hW; go_simp; try with_reducible rfl
              try simp only [Act.put, List.setIfInBounds_toArray, List.set_cons_zero, List.set_cons_succ]
              refine stepE_any 5 (some 89) (v := ?vb5) (fun _ => Keep.refl _ _) rfl (by rfl) (by kernel_rfl) (by kernel_rfl) (by kernel_rfl) (by decide) (fun _ _ _ h => h) (by rfl) ?yb5 ?nb5
              case yb5 => intro W; go_simp; try with_reducible rfl
              try simp only [Act.put, List.setIfInBounds_toArray, List.set_cons_zero, List.set_cons_succ]
              refine stepE_readW 6 (some 90) (v := ?vb6) (Keep.refl _ _) rfl (by rfl) (by kernel_rfl) (by kernel_rfl) (by kernel_rfl) (by kernel_rfl) (by kernel_rfl) (fun _ _ _ h => h) (by rfl) ?yb6 ?nb6
              case yb6 => intro W hW; have q1 := Y1.out W hW; go_simp; try with_reducible rfl
              try simp only [Act.put, List.setIfInBounds_toArray, List.set_cons_zero, List.set_cons_succ]
              refine stepE_any 7 (some 91) (v := ?vb7) (fun _ => Keep.refl _ _) rfl (by rfl) (by kernel_rfl) (by kernel_rfl) (by kernel_rfl) (by decide) (fun _ _ _ h => h) (by rfl) ?yb7 ?nb7
              case yb7 => intro W; go_simp; try with_reducible rfl
              try simp only [Act.put, List.setIfInBounds_toArray, List.set_cons_zero, List.set_cons_succ]
              refine stepE_any 8 (some 92) (v := ?vb8) (fun _ => Keep.refl _ _) rfl (by rfl) (by kernel_rfl) (by kernel_rfl) (by kernel_rfl) (by decide) (fun _ _ _ h => h) (by rfl) ?yb8 ?nb8
              case yb8 => intro W; go_simp; try with_reducible rfl
              try simp only [Act.put, List.setIfInBounds_toArray, List.set_cons_zero, List.set_cons_succ]
              refine stepE_any 10 (some 94) (v := ?vb10) (fun _ => Keep.refl _ _) rfl (by rfl) (by kernel_rfl) (by kernel_rfl) (by kernel_rfl) (by decide) (fun _ _ _ h => h) (by rfl) ?yb10 ?nb10
              case yb10 => intro W; go_simp; try with_reducible rfl
              try simp only [Act.put, List.setIfInBounds_toArray, List.set_cons_zero, List.set_cons_succ]
              refine stepE_any 11 (some 95) (v := ?vb11) (fun _ => Keep.refl _ _) rfl (by rfl) (by kernel_rfl) (by kernel_rfl) (by kernel_rfl) (by decide) (fun _ _ _ h => h) (by rfl) ?yb11 ?nb11
              case yb11 => intro W; go_simp; try with_reducible rfl
              try simp only [Act.put, List.setIfInBounds_toArray, List.set_cons_zero, List.set_cons_succ]
              refine stepE_any 12 (some 96) (v := ?vb12) (fun _ => Keep.refl _ _) rfl (by rfl) (by kernel_rfl) (by kernel_rfl) (by kernel_rfl) (by decide) (fun _ _ _ h => h) (by rfl) ?yb12 ?nb12
              case yb12 => intro W; go_simp; try with_reducible rfl
              try simp only [Act.put, List.setIfInBounds_toArray, List.set_cons_zero, List.set_cons_succ]
              -- 9: builtin:append -> 93
              refine stepE_only 9 rfl (by kernel_rfl) (by rfl) (fun K' hK => ?_)
              refine wp_appN (.const (.slice none 0 0)) (.tmp 92) 25 rfl M4 5 .u8 1 Try.underlying25 info_u8 (by omega) _ 0 [] (World.ownsRow_nil _ _ _ _) (.slice (some ⟨bu, ou, none⟩) t cu) (dat9.take t) (A8.out.below (Below.refl wr.heap.size wr).drew (Nat.le_refl _)) (by rw [LL8.out]; omega) (Nat.le_of_eq MM4.out.symm) (by rfl) (by rfl) (fun v9 w9 hown9 hb9 => ?_)
              rw [LL8.out, Nat.zero_add, List.nil_append] at hown9
              have O9 := Lib.hid hown9
              have BB9 := Lib.hid hb9
              refine hK _ _ (Keep.ofBelow (BB9.out.mono (Nat.le_of_eq MM4.out))) ?_
              clear hown9 hb9
              clear hK K'
              try simp only [Act.put, List.setIfInBounds_toArray, List.set_cons_zero, List.set_cons_succ]
              -- 13: builtin:append -> 97
              refine stepE_only 13 rfl (by kernel_rfl) (by rfl) (fun K' hK => ?_)
              refine wp_appN (.tmp 93) (.tmp 96) 25 rfl M4 5 .u8 1 Try.underlying25 info_u8 (by omega) v9 t (B8 (dat9.take t)) O9.out (.slice (some ⟨bm, om + t, none⟩) (64 - t) (c - t)) (sm.drop t) ((A9.out.below (Below.refl wr.heap.size wr).drew (Nat.le_refl _)).below (BB9.out.mono (Nat.le_of_eq MM4.out)) (Nat.le_refl _)) (by rw [LL9.out]; omega) (by have := BB9.out.size; have h9 : wr.drew.heap.size = wr.heap.size := rfl; have := MM4.out; omega) (by rfl) (by rfl) (fun v10 w10 hown10 hb10 => ?_)
              have O10 : Hid (w10.ownsRow M4 5 1 v10 64 (B8 (dat9.take t ++ sm.drop t))) := Lib.hid (by
                have h9 := hown10
                rw [LL9.out, show t + (64 - t) = 64 by omega] at h9
                rw [B8_append]; exact h9)
              obtain ⟨p10, c10, hv10⟩ := ownsRow_shape O10.out
              subst hv10
              have KH : Hid (Keep (fun _ => False) wr.drew w10) := Lib.hid (Keep.ofBelow ((BB9.out.trans hb10).mono (Nat.le_of_eq MM4.out)))
              obtain ⟨cur, K10, CSZ, CTK, CC5⟩ : ∃ cur : List Value, Hid (Blk w10 g 106 cur) ∧ Hid (kw.length * 2 ≤ cur.length) ∧ Hid (cur.take (kw.length * 2) = R.flatMap WR.cells) ∧ Hid (kw.length ≤ c5) := by
                have h9 := own_keep O4.out KH.out (fun _ _ h => h)
                rcases h9.2 with ⟨-, h0⟩ | ⟨g', cap, cur, e, hbg, hgg, hle, hcm, hsz, htk⟩
                · omega
                · injection e with e1 e2 e3
                  injection e1 with e1
                  injection e1 with e1
                  subst e1 e3
                  exact ⟨cur.toList, Lib.hid (by unfold Blk; rw [Array.toArray_toList]; exact hgg), Lib.hid (by have h7 : cur.toList.length = cur.size := Array.length_toList; omega), Lib.hid htk, Lib.hid hle⟩
              refine hK _ _ KH.out ?_
              clear hown10 hb10
              clear hK K'
              try simp only [Act.put, List.setIfInBounds_toArray, List.set_cons_zero, List.set_cons_succ]
              refine stepE_any 14 (some 98) (v := ?vb14) (fun _ => KH.out) rfl (by rfl) (by kernel_rfl) (by kernel_rfl) (by kernel_rfl) (by decide) (fun _ _ _ h => h) (by rfl) ?yb14 ?nb14
              case yb14 => intro W; go_simp; try with_reducible rfl
              try simp only [Act.put, List.setIfInBounds_toArray, List.set_cons_zero, List.set_cons_succ]
              refine stepE_any 15 (some 99) (v := ?vb15) (fun _ => KH.out) rfl (by rfl) (by kernel_rfl) (by kernel_rfl) (by kernel_rfl) (by decide) (fun _ _ _ h => h) (by rfl) ?yb15 ?nb15
              case yb15 => intro W; go_simp; try with_reducible rfl
              try simp only [Act.put, List.setIfInBounds_toArray, List.set_cons_zero, List.set_cons_succ]
              -- 16: store -> None
              refine stepE_end 16 rfl (by kernel_rfl) (by rfl) (by rfl) (fun K' hK => ?_)
              refine wp_store_blk (cs := cur) K10.out 106 (.tmp 99) (.tmp 98) rfl (k * 2) [.int .i64 i, .slice p10 64 c10] (by kernel_rfl) (by kernel_rfl) (by have := CSZ.out; show k * 2 + 2 ≤ _; omega) infoWz (by intro v hv; simp at hv; rcases hv with rfl | rfl <;> rfl) (fun w5 hb5 hk5 => ?_)
              refine hK _ _ ?_
              have HB5 := Lib.hid hb5
              have HK5 := Lib.hid hk5
              clear hb5 hk5
              clear hK K'
              refine wpAnyE_done (by kernel_rfl) ?_ _
              have hk6n : w10.heap.size ≤ w5.heap.size := (HK5.out (fun q => q = g) rfl).size
              have h10s : M4 ≤ w10.heap.size := by have := KH.out.size; have h9 : wr.drew.heap.size = wr.heap.size := rfl; have := MM4.out; omega
              have hw5 : Below w.heap.size w w5 := (B4.out.trans (((Below.refl w.heap.size wr).drew).trans ((KH.out.below (N := wr.heap.size) (fun _ h => h.elim) (Nat.le_refl _)).mono B4.out.size))).trans ((HK5.out (fun q => q = g) rfl).below (by rintro q rfl; exact hgw) (by have := B4.out.size; have := MM4.out; omega))
              obtain ⟨tw, htw⟩ : ∃ tw, kw.set k ((i : Int), dat9.take t ++ sm.drop t) = tw := ⟨_, rfl⟩
              have htwl : tw.length = k + 1 := by rw [← htw, List.length_set]; exact hm
              have hnew : NumsC F w5 (.slice p10 64 c10) (dat9.take t ++ sm.drop t) := by
                have h3 : NumsC (fun q => F q ∨ q = g) w10 (.slice p10 64 c10) (dat9.take t ++ sm.drop t) := NumsC.ofOwn O10.out (by
                  rintro j hj1 hj2 (h | h)
                  · have := HD.out.fbd j h; have := B4.out.size; have := MM4.out; omega
                  · have := G3W.out; have := MM4.out; omega)
                exact (h3.keep (HK5.out (fun q => q = g) rfl) (fun _ h => .inr h)).mono (fun _ _ h => .inl h)
              have HW : Hid (WOff F w5 (.slice (some ⟨g, 0, none⟩) (k + 1) c5) tw) := Lib.hid (by
                have h9 := WOff.setLast (F := F) (w := w) (w5 := w5) (g := g) (n := k + 1) (c := c5) (R := R) (cur := cur) (by have := CSZ.out; have := HRLN.out; omega) (by rw [HRLN.out]; exact CTK.out) (fun q h => HD.out.fbd q h) hgw k hmR ⟨i, dat9.take t ++ sm.drop t, .slice p10 64 c10⟩ HB5.out (fun r hr => HDAT.out r (HRM.out r hr)) hw5 hnew (by have := HRLN.out; omega) (by have := CC5.out; omega)
                rw [HRK.out] at h9
                rw [← htw]
                exact h9)
              have HR : Hid (RHead w5 B (.slice (some ⟨bS, oS, none⟩) secs.length cS) (.slice aL rs.length cL) l) := Lib.hid (H1.out.below hw5 hBw)
              have HL : Hid (LOff F w5 (.slice (some ⟨bS, oS, none⟩) secs.length cS) secs) := Lib.hid (H2.out.keep (Keep.ofBelow (bad := fun _ => False) hw5) (fun _ h => h.elim))
              have HFB : Hid (∀ k, F k → k < w5.heap.size) := Lib.hid (fun k hF => Nat.lt_of_lt_of_le (HD.out.fbd k hF) hw5.size)
              have HKP : Hid (Keep (fun k => k = B) w w5) := Lib.hid (Keep.ofBelow hw5)
              have HKF : Hid (tw.length ≤ 1000000) := Lib.hid (by omega)
              have hrc : rcrashed secs wl mask t = settleN secs tw tw.length := by
                have h9 : tornW secs (keptW wl mask (min wl.length 64)) t = tw := by
                  rw [HMW.out, HKW.out]
                  unfold tornW
                  rw [if_pos ⟨by omega, by omega, ht2⟩, show kw.length - 1 = k by omega, HKEY.out, ← htw]
                  show kw.set k ((i : Int), dat9.take (t : Int).toNat ++ (curOf kw i (secs.getD i []) k).drop (t : Int).toNat) = _
                  rw [HS0E.out, HSM.out]
                  rfl
                unfold rcrashed
                rw [h9]
              have HKWT : Hid (∀ q ∈ tw, (0 ≤ q.1 ∧ q.1 < secs.length) ∧ Sec q.2) := Lib.hid (fun q hq => by
                rw [← htw] at hq
                rcases List.mem_or_eq_of_mem_set hq with h | h
                · exact HKWO.out q h
                · rw [h]; exact ⟨HLO.out.1, torn_ok HLO.out.2 SMS.out t⟩)
              have HSO : Hid (∀ s ∈ settleN secs tw tw.length, Sec s) := Lib.hid (settleN_ok HD.out.secs_ok HKWT.out _ (Nat.le_refl _))
              have HRC := Lib.hid hrc
              have HTWL := Lib.hid htwl
              have HW2 : Hid (WOff F w5 (.slice (some ⟨g, 0, none⟩) tw.length c5) tw) := Lib.hid (by rw [htwl]; exact HW.out)
              clear hrc htwl htw hnew hw5 hk6n h10s
              go_wp2_with fail
              rw [show ((k : Int) + 1) = ((tw.length : Nat) : Int) from by rw [HTWL.out]; rfl, show k + 1 = tw.length from HTWL.out.symm]
              refine (settle_any (wl := tw) HR.out HL.out HW2.out HD.out.fB HFB.out hs0 HD.out.secs_ok HKWT.out HD.out.many HKF.out).mono ?_
              rintro e w6 ⟨rfl, ⟨vs6, hr6', hl6⟩, hk6⟩
              have c2 := hr6'.cell 2
              have f2 := hr6'.free 2
              have R6 := Lib.hid hr6'
              have L6 := Lib.hid hl6
              have K6 := Lib.hid hk6
              clear hr6' hl6 hk6
              go_wp2
              go_returns
              rw [HRC.out]
              exact rcrash_end HD.out HSO.out R6.out L6.out (HKP.out.trans K6.out)
        · by_cases z : kw.length = 0
          · have hz : ¬ (0 : Int) < kw.length := by omega
            clear z
            have HR : Hid (RHead wr B vs (.slice aL rs.length cL) l) := Lib.hid (H1.out.below HB.out hBw)
            have HL : Hid (LOff F wr vs secs) := Lib.hid (H2.out.keep (Keep.ofBelow (bad := fun _ => False) HB.out) (fun _ h => h.elim))
            have HFB : Hid (∀ k, F k → k < wr.heap.size) := Lib.hid (fun k hF => Nat.lt_of_lt_of_le (HD.out.fbd k hF) HB.out.size)
            have HKP : Hid (Keep (fun k => k = B) w wr) := Lib.hid (Keep.ofBelow HB.out)
            have HKF : Hid (kw.length ≤ 1000000) := Lib.hid (by omega)
            have hrc : rcrashed secs wl mask torn = settleN secs kw kw.length := by
              unfold rcrashed
              rw [HMW.out, HKW.out]
              unfold tornW
              rw [if_neg ht]
            have HSO : Hid (∀ s ∈ settleN secs kw kw.length, Sec s) := Lib.hid (settleN_ok HD.out.secs_ok HKWO.out _ (Nat.le_refl _))
            have HRC := Lib.hid hrc
            clear hrc ht
            go_wp2_with fail
            refine (settle_any (wl := kw) HR.out HL.out HW.out HD.out.fB HFB.out hs0 HD.out.secs_ok HKWO.out HD.out.many HKF.out).mono ?_
            rintro e w6 ⟨rfl, ⟨vs6, hr6', hl6⟩, hk6⟩
            have c2 := hr6'.cell 2
            have f2 := hr6'.free 2
            have R6 := Lib.hid hr6'
            have L6 := Lib.hid hl6
            have K6 := Lib.hid hk6
            clear hr6' hl6 hk6
            go_wp2
            go_returns
            rw [HRC.out]
            exact rcrash_end HD.out HSO.out R6.out L6.out (HKP.out.trans K6.out)
          · have hz : (0 : Int) < kw.length := by omega
            clear z
            by_cases z2 : torn < 0
            · have hz2 : ¬ (0 ≤ torn) := by omega
              have HR : Hid (RHead wr B vs (.slice aL rs.length cL) l) := Lib.hid (H1.out.below HB.out hBw)
              have HL : Hid (LOff F wr vs secs) := Lib.hid (H2.out.keep (Keep.ofBelow (bad := fun _ => False) HB.out) (fun _ h => h.elim))
              have HFB : Hid (∀ k, F k → k < wr.heap.size) := Lib.hid (fun k hF => Nat.lt_of_lt_of_le (HD.out.fbd k hF) HB.out.size)
              have HKP : Hid (Keep (fun k => k = B) w wr) := Lib.hid (Keep.ofBelow HB.out)
              have HKF : Hid (kw.length ≤ 1000000) := Lib.hid (by omega)
              have hrc : rcrashed secs wl mask torn = settleN secs kw kw.length := by
                unfold rcrashed
                rw [HMW.out, HKW.out]
                unfold tornW
                rw [if_neg ht]
              have HSO : Hid (∀ s ∈ settleN secs kw kw.length, Sec s) := Lib.hid (settleN_ok HD.out.secs_ok HKWO.out _ (Nat.le_refl _))
              have HRC := Lib.hid hrc
              clear hrc ht
              go_wp2_with fail
              refine (settle_any (wl := kw) HR.out HL.out HW.out HD.out.fB HFB.out hs0 HD.out.secs_ok HKWO.out HD.out.many HKF.out).mono ?_
              rintro e w6 ⟨rfl, ⟨vs6, hr6', hl6⟩, hk6⟩
              have c2 := hr6'.cell 2
              have f2 := hr6'.free 2
              have R6 := Lib.hid hr6'
              have L6 := Lib.hid hl6
              have K6 := Lib.hid hk6
              clear hr6' hl6 hk6
              go_wp2
              go_returns
              rw [HRC.out]
              exact rcrash_end HD.out HSO.out R6.out L6.out (HKP.out.trans K6.out)
            · have hz2 : 0 ≤ torn := by omega
              have hz3 : ¬ torn < 64 := by omega
              have HR : Hid (RHead wr B vs (.slice aL rs.length cL) l) := Lib.hid (H1.out.below HB.out hBw)
              have HL : Hid (LOff F wr vs secs) := Lib.hid (H2.out.keep (Keep.ofBelow (bad := fun _ => False) HB.out) (fun _ h => h.elim))
              have HFB : Hid (∀ k, F k → k < wr.heap.size) := Lib.hid (fun k hF => Nat.lt_of_lt_of_le (HD.out.fbd k hF) HB.out.size)
              have HKP : Hid (Keep (fun k => k = B) w wr) := Lib.hid (Keep.ofBelow HB.out)
              have HKF : Hid (kw.length ≤ 1000000) := Lib.hid (by omega)
              have hrc : rcrashed secs wl mask torn = settleN secs kw kw.length := by
                unfold rcrashed
                rw [HMW.out, HKW.out]
                unfold tornW
                rw [if_neg ht]
              have HSO : Hid (∀ s ∈ settleN secs kw kw.length, Sec s) := Lib.hid (settleN_ok HD.out.secs_ok HKWO.out _ (Nat.le_refl _))
              have HRC := Lib.hid hrc
              clear hrc ht
              go_wp2_with fail
              refine (settle_any (wl := kw) HR.out HL.out HW.out HD.out.fB HFB.out hs0 HD.out.secs_ok HKWO.out HD.out.many HKF.out).mono ?_
              rintro e w6 ⟨rfl, ⟨vs6, hr6', hl6⟩, hk6⟩
              have c2 := hr6'.cell 2
              have f2 := hr6'.free 2
              have R6 := Lib.hid hr6'
              have L6 := Lib.hid hl6
              have K6 := Lib.hid hk6
              clear hr6' hl6 hk6
              go_wp2
              go_returns
              rw [HRC.out]
              exact rcrash_end HD.out HSO.out R6.out L6.out (HKP.out.trans K6.out)
end Go.Proofs.Ythecjhjomkpgkaa.K
