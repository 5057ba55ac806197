/- The walk of ConfTells: it returns true, and writes nothing that was there. -/
import Derived.Test.YtdafkboojdjcoaaConf11
import Derived.Test.YtdafkboojdjcoaaRegionB
namespace Go.Proofs.Ytdafkboojdjcoaa.K
open Go.ChangeShapes Go.WideShapes Go.ChangeAt Go.RowKit Go.Sort
set_option linter.unusedVariables false

def eights (z : List Int) : List Int := z.map fun x => x % 8
theorem eights_len (z : List Int) : (eights z).length = z.length := by simp [eights]
theorem eights_snoc (z : List Int) (k : Nat) (h : k < z.length) : (eights (z.take (k + 1))).map (Value.int .i64) = (eights (z.take k)).map (Value.int .i64) ++ [.int .i64 (z.getD k 0 % 8)] := by
  unfold eights
  rw [List.take_succ_eq_append_getElem h]
  simp only [List.map_append, List.map_cons, List.map_nil, List.getD, List.getElem?_eq_getElem h, Option.getD_some]

theorem cell_last (W : World) (cs : Array Value) (T : TypeId) (s n : Nat) (hn : n = W.heap.size) : (W.alloc (.cells cs T)).cell? ⟨n, s, none⟩ = cs[s]? := by
  subst hn
  unfold World.cell? World.alloc
  simp
/-- A slice of numbers, not too long. -/
def Fine (w : World) (u : Value) (L : List Int) : Prop := ∃ p m c, u = .slice p m c ∧ L.length = m ∧ m ≤ 20 ∧ IsNums .i64 w u L
theorem Fine.below {B : Nat} {w w' : World} {u : Value} {L : List Int} (h : Fine w u L) (hb : Below B w w') (hB : w.heap.size ≤ B) : Fine w' u L := by
  obtain ⟨p, m, c, h1, h2, h3, h4⟩ := h
  exact ⟨p, m, c, h1, h2, h3, h4.below hb hB⟩
theorem pairs3 (W : World) (u0 u1 u2 u3 u4 u5 : Value) (L0 L1 L2 L3 L4 L5 : List Int) (T : TypeId) (h0 : Fine W u0 L0) (h1 : Fine W u1 L1) (h2 : Fine W u2 L2) (h3 : Fine W u3 L3) (h4 : Fine W u4 L4) (h5 : Fine W u5 L5) :
    ∀ j, j < 3 → ∃ u v L Y, (W.alloc (.cells #[u0, u1, u2, u3, u4, u5] T)).cell? ⟨W.heap.size, j * 2, none⟩ = some u ∧ (W.alloc (.cells #[u0, u1, u2, u3, u4, u5] T)).cell? ⟨W.heap.size, j * 2 + 1, none⟩ = some v ∧ Fine (W.alloc (.cells #[u0, u1, u2, u3, u4, u5] T)) u L ∧ Fine (W.alloc (.cells #[u0, u1, u2, u3, u4, u5] T)) v Y := by
  have hb := (Below.refl W.heap.size W).alloc (Nat.le_refl _) (.cells #[u0, u1, u2, u3, u4, u5] T)
  intro j hj
  obtain rfl | rfl | rfl : j = 0 ∨ j = 1 ∨ j = 2 := by omega
  · exact ⟨u0, u1, L0, L1, by unfold World.cell? World.alloc; simp, by unfold World.cell? World.alloc; simp, h0.below hb (Nat.le_refl _), h1.below hb (Nat.le_refl _)⟩
  · exact ⟨u2, u3, L2, L3, by unfold World.cell? World.alloc; simp, by unfold World.cell? World.alloc; simp, h2.below hb (Nat.le_refl _), h3.below hb (Nat.le_refl _)⟩
  · exact ⟨u4, u5, L4, L5, by unfold World.cell? World.alloc; simp, by unfold World.cell? World.alloc; simp, h4.below hb (Nat.le_refl _), h5.below hb (Nat.le_refl _)⟩

set_option maxRecDepth 100000 in
set_option maxHeartbeats 8000000 in
theorem tells_walk (p0 : Option Addr) (m0 c0 : Nat) (zl : List Int) (p1 : Option Addr) (m1 c1 : Nat) (zy : List Int) (n kk : Int) (w : World)
    (h0 : IsNums .i64 w (.slice p0 m0 c0) zl) (hl0 : zl.length = m0) (hm0 : m0 ≤ maxLen) (f0 : ∀ j, j < zl.length → -9223372036854775808 ≤ zl.getD j 0 ∧ zl.getD j 0 ≤ 9223372036854775807)
    (h1 : IsNums .i64 w (.slice p1 m1 c1) zy) (hl1 : zy.length = m1) (hm1 : m1 ≤ maxLen) (f1 : ∀ j, j < zy.length → -9223372036854775808 ≤ zy.getD j 0 ∧ zy.getD j 0 ≤ 9223372036854775807)
    (n0 : -9223372036854775808 ≤ n) (n1 : n ≤ 9223372036854775807) (k0 : 0 ≤ kk) (k1 : kk ≤ 255) :
    Calls Try.prog 3 #[.slice p0 m0 c0, .slice p1 m1 c1, .int .i64 n, .int .u8 kk] w fun e w' => e = .returned (.bool true) ∧ Below w.heap.size w w' := by
  unfold maxLen at hm0 hm1
  have H0 := Lib.hid h0
  have F0 := Lib.hid f0
  have H1 := Lib.hid h1
  have F1 := Lib.hid f1
  clear h0 f0 h1 f1
  by_cases q : 20 < m0 ∨ 20 < m1
  · go_enter Try.func3, Try.ntmps3
    go_wp2_with fail
    refine (known_true _).mono ?_
    rintro en w1 ⟨rfl, hb1⟩
    by_cases q1 : 20 < m0
    · go_wp2
      go_ret
      exact ⟨rfl, hb1⟩
    · go_wp2
      go_ret
      exact ⟨rfl, hb1⟩
  have q1 : m0 ≤ 20 := by omega
  have q2 : m1 ≤ 20 := by omega
  clear q
  obtain ⟨N, hN⟩ : ∃ N, w.heap.size = N := ⟨_, rfl⟩
  go_enter Try.func3, Try.ntmps3
  go_wp2_with fail
  refine (known_true _).mono ?_
  rintro en w1 ⟨rfl, hbw1⟩
  rw [hN] at hbw1
  have d1 : decide ((20 : Int) < (m0 : Int)) = false := by simp; omega
  have d2 : decide ((20 : Int) < (m1 : Int)) = false := by simp; omega
  have d3 : decide (20 < m0) = false := by simp; omega
  have d4 : decide (20 < m1) = false := by simp; omega
  go_wp2_with fail
  go_loopw [9, 11] (fun v i wr => ∃ k : Nat, k ≤ m0 ∧ i = .int .i64 k ∧ wr.ownsRow N 3 1 v k ((eights (zl.take k)).map (Value.int .i64)) ∧ Below N w wr) (fun _ i _ => m0 - (intOf i).toNat)
  case atStart => exact ⟨0, by omega, rfl, by simpa [eights] using World.ownsRow_nil _ _ _ _, hbw1⟩
  case round =>
    obtain ⟨k, hk, rfl, hown, hbel⟩ := hrel
    have hsr := hbel.size
    by_cases hlt : k < m0
    · obtain ⟨a0, c0', hv0, hA0⟩ := H0.out
      simp only [Value.slice.injEq] at hv0
      obtain ⟨rfl, -, rfl⟩ := hv0
      obtain h | ⟨b0, off0, rfl, hblk0, hcell0⟩ := hA0
      · omega
      have hc : wr.cell? ⟨b0, off0 + k, none⟩ = some (.int .i64 (zl.getD k 0)) := by rw [hbel.cell (by show b0 < N; omega)]; exact hcell0 k (by omega)
      have hsn := eights_snoc zl k (by omega)
      have hxb := F0.out k (by omega)
      obtain ⟨x, hx⟩ : ∃ x, zl.getD k 0 = x := ⟨_, rfl⟩
      rw [hx] at hc hsn hxb
      have HSn := Lib.hid hsn
      clear hcell0 hx hsn
      go_wp2_with fail
      refine (place_any x wr hxb.1 hxb.2).mono ?_
      rintro e w2 ⟨rfl, rfl⟩
      go_wp2_with (at_builtin; refine wpList_app1 rfl _ _ 22 rfl N 3 .i64 8 Try.underlying22 info_int (by omega) _ _ _ rfl hown _ 1 rfl (by omega) (by omega) ?_; intro v' w' hown' hb')
      have HO' := Lib.hid hown'
      have HB' := Lib.hid (hbel.trans hb')
      clear hown' hb' hbel hown
      first
        | exact ⟨⟨k + 1, by omega, by go_num, by rw [HSn.out]; exact HO'.out, HB'.out⟩, by simp [intOf]; omega⟩
        | (go_roundw
           case rel => exact ⟨k + 1, by omega, by go_num, by rw [HSn.out]; exact HO'.out, HB'.out⟩
           case measure => simp [intOf]; omega)
    · obtain rfl : k = m0 := by omega
      have hall : zl.take k = zl := by rw [← hl0, List.take_length]
      rw [hall] at hown
      have hNa := IsNums.ofOwn hown
      obtain ⟨A, hA⟩ : ∃ A, eights zl = A := ⟨_, rfl⟩
      have hAl : A.length = k := by rw [← hA, eights_len, hl0]
      rw [hA] at hNa
      obtain ⟨pa, ca, rfl, -⟩ := id hNa
      rw [hAl] at hNa ⊢
      have HNa := Lib.hid hNa
      have HW1 := Lib.hid hbel
      obtain ⟨W1, hW1⟩ : ∃ W1 : World, W1 = wr := ⟨_, rfl⟩
      subst hW1
      clear hown hNa hA hall hbel
      go_wp2_with fail
      go_loopw [10, 12] (fun v i wr => ∃ k : Nat, k ≤ m1 ∧ i = .int .i64 k ∧ wr.ownsRow W1.heap.size 3 1 v k ((eights (zy.take k)).map (Value.int .i64)) ∧ Below W1.heap.size W1 wr) (fun _ i _ => m1 - (intOf i).toNat)
      case atStart => exact ⟨0, by omega, rfl, by simpa [eights] using World.ownsRow_nil _ _ _ _, Below.refl _ _⟩
      case round =>
        obtain ⟨j, hj, rfl, hown, hbel⟩ := hrel
        have hsj := hbel.size
        by_cases hlt : j < m1
        · obtain ⟨a0, c0', hv0, hA0⟩ := H1.out
          simp only [Value.slice.injEq] at hv0
          obtain ⟨rfl, -, rfl⟩ := hv0
          obtain h | ⟨b0, off0, rfl, hblk0, hcell0⟩ := hA0
          · omega
          have hc : wr.cell? ⟨b0, off0 + j, none⟩ = some (.int .i64 (zy.getD j 0)) := by
            rw [(HW1.out.trans (hbel.mono (by omega))).cell (by show b0 < N; omega)]; exact hcell0 j (by omega)
          have hsn := eights_snoc zy j (by omega)
          have hxb := F1.out j (by omega)
          obtain ⟨x, hx⟩ : ∃ x, zy.getD j 0 = x := ⟨_, rfl⟩
          rw [hx] at hc hsn hxb
          have HSn := Lib.hid hsn
          clear hcell0 hx hsn
          go_wp2_with fail
          refine (place_any x wr hxb.1 hxb.2).mono ?_
          rintro e w2 ⟨rfl, rfl⟩
          go_wp2_with (at_builtin; refine wpList_app1 rfl _ _ 22 rfl W1.heap.size 3 .i64 8 Try.underlying22 info_int (by omega) _ _ _ rfl hown _ 1 rfl (by omega) (by omega) ?_; intro v' w' hown' hb')
          have HO' := Lib.hid hown'
          have HB' := Lib.hid (hbel.trans hb')
          clear hown' hb' hbel hown
          first
            | exact ⟨⟨j + 1, by omega, by go_num, by rw [HSn.out]; exact HO'.out, HB'.out⟩, by simp [intOf]; omega⟩
            | (go_roundw
               case rel => exact ⟨j + 1, by omega, by go_num, by rw [HSn.out]; exact HO'.out, HB'.out⟩
               case measure => simp [intOf]; omega)
        · obtain rfl : j = m1 := by omega
          have hall : zy.take j = zy := by rw [← hl1, List.take_length]
          rw [hall] at hown
          have hNb := IsNums.ofOwn hown
          obtain ⟨B, hB⟩ : ∃ B, eights zy = B := ⟨_, rfl⟩
          have hBl : B.length = j := by rw [← hB, eights_len, hl1]
          rw [hB] at hNb
          obtain ⟨pb, cb, rfl, -⟩ := id hNb
          rw [hBl] at hNb ⊢
          have HNb := Lib.hid hNb
          have HNa2 := Lib.hid (HNa.out.below hbel (Nat.le_refl _))
          have HW2 := Lib.hid (HW1.out.trans (hbel.mono (by omega)))
          clear hown hNb hB hall HNa
          obtain ⟨C, hC⟩ : ∃ C, canon A = C := ⟨_, rfl⟩
          have hCl : C.length ≤ 7 := by rw [← hC]; exact canon_len A
          obtain ⟨mc, hmc⟩ : ∃ mc, C.length = mc := ⟨_, rfl⟩
          rw [hmc] at hCl
          go_wp2_with fail
          refine (rof_is _ A wr HNa2.out (by omega) C mc hC hmc).mono ?_
          rintro e w3 ⟨pc, cc, rfl, hNc, hb3⟩
          have HW3 := Lib.hid (HW2.out.trans (hb3.mono (by have := HW2.out.size; omega)))
          have HNa3 := Lib.hid (HNa2.out.below hb3 (Nat.le_refl _))
          have HNb3 := Lib.hid (HNb.out.below hb3 (Nat.le_refl _))
          have HNc3 := Lib.hid hNc
          clear hNc hb3 HNa2 HNb hbel
          go_wp2_with fail
          have f0 : Fine w3 (.slice p0 k c0) zl := ⟨p0, k, c0, rfl, hl0, q1, H0.out.below HW3.out (by omega)⟩
          have f1 : Fine w3 (.slice p1 j c1) zy := ⟨p1, j, c1, rfl, hl1, q2, H1.out.below HW3.out (by omega)⟩
          have fa : Fine w3 (.slice pa k ca) A := ⟨pa, k, ca, rfl, hAl, q1, HNa3.out⟩
          have fb : Fine w3 (.slice pb j cb) B := ⟨pb, j, cb, rfl, hBl, q2, HNb3.out⟩
          have fc : Fine w3 (.slice pc mc cc) C := ⟨pc, mc, cc, rfl, hmc, by omega, HNc3.out⟩
          have HG := Lib.hid (pairs3 w3 _ _ _ _ _ _ _ _ _ _ _ _ 25 f0 f1 fa fb fc fb)
          obtain ⟨WL, hWL⟩ : ∃ WL, w3.alloc (.cells #[.slice p0 k c0, .slice p1 j c1, .slice pa k ca, .slice pb j cb, .slice pc mc cc, .slice pb j cb] 25) = WL := ⟨_, rfl⟩
          have hs6 : WL.heap.size = w3.heap.size + 1 := by rw [← hWL]; simp
          have hB6 : Below N w WL := by rw [← hWL]; exact HW3.out.alloc (by have := HW3.out.size; omega) _
          rw [hWL] at HG ⊢
          have HB6 := Lib.hid hB6
          have hs7 := hB6.size
          clear f0 f1 fa fb fc hWL hB6 HNa3 HNb3 HNc3 hC
          go_loopw [67] (fun i wr => ∃ t : Nat, t ≤ 3 ∧ i = .int .i64 t ∧ Below WL.heap.size WL wr) (fun i _ => 3 - (intOf i).toNat)
          case atStart => exact ⟨0, by omega, rfl, Below.refl _ _⟩
          case round =>
            obtain ⟨t, ht, rfl, hbt⟩ := hrel
            have hst := hbt.size
            by_cases hlt : t < 3
            · obtain ⟨u, v, L, Y, hu, hv, gu, gv⟩ := HG.out t hlt
              have hu' : wr.cell? ⟨w3.heap.size, t * 2, none⟩ = some u := by rw [hbt.cell (by show w3.heap.size < _; omega)]; exact hu
              have hv' : wr.cell? ⟨w3.heap.size, t * 2 + 1, none⟩ = some v := by rw [hbt.cell (by show w3.heap.size < _; omega)]; exact hv
              obtain ⟨pu, mu, cu, rfl, hLl, hL20, nu⟩ := gu.below hbt (Nat.le_refl _)
              obtain ⟨pv, mv, cv, rfl, hYl, hY20, nv⟩ := gv.below hbt (Nat.le_refl _)
              have NU := Lib.hid nu
              have NV := Lib.hid nv
              have HLl := Lib.hid hLl
              have HYl := Lib.hid hYl
              have ht3 : decide ((t : Int) < 3) = true := by simp; omega
              clear hu hv gu gv nu nv hLl hYl
              go_wp2_with fail
              have hBa := (Below.refl wr.heap.size wr).alloc (Nat.le_refl _) (.cells #[.slice pu mu cu, .slice pv mv cv] 25)
              have hBm := hBa.alloc (by simp) (.cells #[.int .i64 n, .int .i64 (kk % 9)] 3)
              have ca0 : ((wr.alloc (.cells #[.slice pu mu cu, .slice pv mv cv] 25)).alloc (.cells #[.int .i64 n, .int .i64 (kk % 9)] 3)).cell? ⟨wr.heap.size, 0, none⟩ = some (.slice pu mu cu) := by
                rw [World.cell?_alloc_lt _ _ _ (by simp)]; unfold World.cell? World.alloc; simp
              have ca1 : ((wr.alloc (.cells #[.slice pu mu cu, .slice pv mv cv] 25)).alloc (.cells #[.int .i64 n, .int .i64 (kk % 9)] 3)).cell? ⟨wr.heap.size, 1, none⟩ = some (.slice pv mv cv) := by
                rw [World.cell?_alloc_lt _ _ _ (by simp)]; unfold World.cell? World.alloc; simp
              have cm : ∀ s, s < 2 → ∃ m, ((wr.alloc (.cells #[.slice pu mu cu, .slice pv mv cv] 25)).alloc (.cells #[.int .i64 n, .int .i64 (kk % 9)] 3)).cell? ⟨wr.heap.size + 1, s, none⟩ = some (.int .i64 m) := by
                intro s hs
                obtain rfl | rfl : s = 0 ∨ s = 1 := by omega
                · exact ⟨n, by rw [cell_last _ _ _ _ _ (by simp)]; rfl⟩
                · exact ⟨kk % 9, by rw [cell_last _ _ _ _ _ (by simp)]; rfl⟩
              have NU2 := NU.out.below hBm (Nat.le_refl _)
              have NV2 := NV.out.below hBm (Nat.le_refl _)
              obtain ⟨WM, hWM⟩ : ∃ WM, (wr.alloc (.cells #[.slice pu mu cu, .slice pv mv cv] 25)).alloc (.cells #[.int .i64 n, .int .i64 (kk % 9)] 3) = WM := ⟨_, rfl⟩
              have hsM : WM.heap.size = wr.heap.size + 2 := by rw [← hWM]; simp
              rw [hWM] at ca0 ca1 cm NU2 NV2 hBm ⊢
              have CA0 := Lib.hid ca0
              have CA1 := Lib.hid ca1
              have CM := Lib.hid cm
              have NU3 := Lib.hid NU2
              have NV3 := Lib.hid NV2
              have HBM := Lib.hid (HB6.out.trans ((hbt.trans (hBm.mono hst)).mono (by omega)))
              have HBML := Lib.hid (hbt.trans (hBm.mono hst))
              clear hBa hBm ca0 ca1 cm NU2 NV2 NU NV hWM hu' hv' hbt
              obtain ⟨S3, hS3⟩ : ∃ S, canon L = S := ⟨_, rfl⟩
              obtain ⟨n3, hn3⟩ : ∃ n, S3.length = n := ⟨_, rfl⟩
              have hn3b : n3 ≤ 7 := by rw [← hn3, ← hS3]; exact canon_len L
              have HS3c := Lib.hid hS3
              have HS3n := Lib.hid hn3
              obtain ⟨br, hbr⟩ : ∃ b, rightB L = b := ⟨_, rfl⟩
              have HBr := Lib.hid hbr
              obtain ⟨bm, hbm⟩ : ∃ b, decide ((canon L).length < 2 * votes (canon L) Y) = b := ⟨_, rfl⟩
              have HBm := Lib.hid hbm
              clear hS3 hn3 hbr hbm
              go_loopw [77] (fun i wr => ∃ s : Nat, s ≤ 2 ∧ i = .int .i64 s ∧ Below WM.heap.size WM wr) (fun i _ => 2 - (intOf i).toNat)
              case atStart => exact ⟨0, by omega, rfl, Below.refl _ _⟩
              case round =>
                obtain ⟨s, hs, rfl, hbs⟩ := hrel
                have hss := hbs.size
                by_cases hlt2 : s < 2
                · obtain ⟨m, hcm⟩ := CM.out s hlt2
                  have hcm' : wr.cell? ⟨_, s, none⟩ = some (.int .i64 m) := (hbs.cell (p := ⟨_, s, none⟩) (World.block_lt_of_cell? WM ⟨_, s, none⟩ hcm)).trans hcm
                  clear hcm
                  have hs2 : (s : Int) < 2 := by omega
                  have hs3 : decide ((s : Int) < 2) = true := by simp; omega
                  have hs4 : (0 : Int) ≤ (s : Int) := by omega
                  obtain ⟨bh, hbh⟩ : ∃ b, L.contains m = b := ⟨_, rfl⟩
                  have HBh := Lib.hid hbh
                  obtain ⟨S1, hS1⟩ : ∃ S, canon (L ++ [m]) = S := ⟨_, rfl⟩
                  obtain ⟨n1, hn1⟩ : ∃ n, S1.length = n := ⟨_, rfl⟩
                  have hn1b : n1 ≤ 7 := by rw [← hn1, ← hS1]; exact canon_len _
                  have HW1r := Lib.hid hS1
                  have HW1c := Lib.hid ((canon_with L m).trans hS1)
                  have HS1n := Lib.hid hn1
                  obtain ⟨S2, hS2⟩ : ∃ S, (canon L).filter (fun x => decide (x ≠ m)) = S := ⟨_, rfl⟩
                  obtain ⟨n2, hn2⟩ : ∃ n, S2.length = n := ⟨_, rfl⟩
                  have hn2b : n2 ≤ 7 := by rw [← hn2, ← hS2]; exact Nat.le_trans (List.length_filter_le _ _) (canon_len L)
                  have HW2c := Lib.hid hS2
                  have HS2n := Lib.hid hn2
                  clear hbh hS1 hn1 hS2 hn2
                  go_wp2_with fail
                  have hW0 : Below WM.heap.size WM wr.drew := hbs.drew
                  have hN0 : WM.heap.size ≤ wr.drew.heap.size := hW0.size
                  have HX0 := Lib.hid (fun W (hW : Below WM.heap.size wr.drew W) => ((hW0.trans hW).cell (p := ⟨_, 0, none⟩) (World.block_lt_of_cell? WM ⟨_, 0, none⟩ CA0.out)).trans CA0.out)
                  have HUW := Lib.hid (fun W (hW : Low WM.heap.size wr.drew W) => NU3.out.below (hW0.trans hW) (Nat.le_refl _))
                  have hL : Low WM.heap.size wr.drew wr.drew := Below.refl _ _
                  by_cases dummy : True
                  · skip
                    refine regionB_begin WM.heap.size (by kernel_rfl) ?_
                    refine stepB_read 0 (some 81) (v := ?v0) hL rfl (by rfl) (by kernel_rfl) (by kernel_rfl) (by kernel_rfl) (fun _ _ _ h => h) (by rfl) ?y0 ?n0
                    case y0 => intro W hW; go_simp; try with_reducible rfl
                    try simp only [Act.put, List.setIfInBounds_toArray, List.set_cons_zero, List.set_cons_succ]
                    refine stepB_read 1 (some 82) (v := ?v1) hL rfl (by rfl) (by kernel_rfl) (by kernel_rfl) (by kernel_rfl) (fun _ _ _ h => h) (by rfl) ?y1 ?n1
                    case y1 => intro W hW; have hc := HX0.out W hW; go_simp; try with_reducible rfl
                    try simp only [Act.put, List.setIfInBounds_toArray, List.set_cons_zero, List.set_cons_succ]
                    refine stepB_read 2 (some 83) (v := ?v2) hL rfl (by rfl) (by kernel_rfl) (by kernel_rfl) (by kernel_rfl) (fun _ _ _ h => h) (by rfl) ?y2 ?n2
                    case y2 => intro W hW; go_simp; try with_reducible rfl
                    try simp only [Act.put, List.setIfInBounds_toArray, List.set_cons_zero, List.set_cons_succ]
                    refine stepB_read 4 (some 85) (v := ?v4) hL rfl (by rfl) (by kernel_rfl) (by kernel_rfl) (by kernel_rfl) (fun _ _ _ h => h) (by rfl) ?y4 ?n4
                    case y4 => intro W hW; go_simp; try with_reducible rfl
                    try simp only [Act.put, List.setIfInBounds_toArray, List.set_cons_zero, List.set_cons_succ]
                    refine stepB_read 5 (some 86) (v := ?v5) hL rfl (by rfl) (by kernel_rfl) (by kernel_rfl) (by kernel_rfl) (fun _ _ _ h => h) (by rfl) ?y5 ?n5
                    case y5 => intro W hW; have hc := HX0.out W hW; go_simp; try with_reducible rfl
                    try simp only [Act.put, List.setIfInBounds_toArray, List.set_cons_zero, List.set_cons_succ]
                    refine stepB_read 6 (some 87) (v := ?v6) hL rfl (by rfl) (by kernel_rfl) (by kernel_rfl) (by kernel_rfl) (fun _ _ _ h => h) (by rfl) ?y6 ?n6
                    case y6 => intro W hW; go_simp; try with_reducible rfl
                    try simp only [Act.put, List.setIfInBounds_toArray, List.set_cons_zero, List.set_cons_succ]
                    -- 3: call:10 -> 84
                    refine stepB_only 3 rfl (by kernel_rfl) (by rfl) (fun K' hK => ?_)
                    go_simp
                    go_at_call 10
                    refine (has_is _ L m _ (HUW.out _ hL) (by rw [HLl.out]; omega) bh HBh.out).mono ?_
                    rintro e x3 ⟨rfl, rfl⟩
                    refine hK _ _ hL ?_
                    clear hK K'
                    try simp only [Act.put, List.setIfInBounds_toArray, List.set_cons_zero, List.set_cons_succ]
                    -- 7: call:11 -> 88
                    refine stepB_only 7 rfl (by kernel_rfl) (by rfl) (fun K' hK => ?_)
                    go_simp
                    go_at_call 11
                    refine (rhas_any _ L m _ (HUW.out _ hL) (by rw [HLl.out]; omega)).mono ?_
                    rw [HBh.out]
                    rintro e x7 ⟨rfl, rfl⟩
                    refine hK _ _ hL ?_
                    clear hK K'
                    try simp only [Act.put, List.setIfInBounds_toArray, List.set_cons_zero, List.set_cons_succ]
                    refine stepB_read 8 (some 89) (v := ?v8) hL rfl (by rfl) (by kernel_rfl) (by kernel_rfl) (by kernel_rfl) (fun _ _ _ h => h) (by rfl) ?y8 ?n8
                    case y8 => intro W hW; go_simp; try with_reducible rfl
                    try simp only [Act.put, List.setIfInBounds_toArray, List.set_cons_zero, List.set_cons_succ]
                    refine stepB_read 9 (some 90) (v := ?v9) hL rfl (by rfl) (by kernel_rfl) (by kernel_rfl) (by kernel_rfl) (fun _ _ _ h => h) (by rfl) ?y9 ?n9
                    case y9 => intro W hW; go_simp; try with_reducible rfl
                    try simp only [Act.put, List.setIfInBounds_toArray, List.set_cons_zero, List.set_cons_succ]
                    refine stepB_read 10 (some 91) (v := ?v10) hL rfl (by rfl) (by kernel_rfl) (by kernel_rfl) (by kernel_rfl) (fun _ _ _ h => h) (by rfl) ?y10 ?n10
                    case y10 => intro W hW; go_simp; try with_reducible rfl
                    try simp only [Act.put, List.setIfInBounds_toArray, List.set_cons_zero, List.set_cons_succ]
                    refine stepB_read 11 (some 92) (v := ?v11) hL rfl (by rfl) (by kernel_rfl) (by kernel_rfl) (by kernel_rfl) (fun _ _ _ h => h) (by rfl) ?y11 ?n11
                    case y11 => intro W hW; have hc := HX0.out W hW; go_simp; try with_reducible rfl
                    try simp only [Act.put, List.setIfInBounds_toArray, List.set_cons_zero, List.set_cons_succ]
                    refine stepB_read 12 (some 93) (v := ?v12) hL rfl (by rfl) (by kernel_rfl) (by kernel_rfl) (by kernel_rfl) (fun _ _ _ h => h) (by rfl) ?y12 ?n12
                    case y12 => intro W hW; go_simp; try with_reducible rfl
                    try simp only [Act.put, List.setIfInBounds_toArray, List.set_cons_zero, List.set_cons_succ]
                    refine stepB_read 14 (some 95) (v := ?v14) hL rfl (by rfl) (by kernel_rfl) (by kernel_rfl) (by kernel_rfl) (fun _ _ _ h => h) (by rfl) ?y14 ?n14
                    case y14 => intro W hW; go_simp; try with_reducible rfl
                    try simp only [Act.put, List.setIfInBounds_toArray, List.set_cons_zero, List.set_cons_succ]
                    refine stepB_read 15 (some 96) (v := ?v15) hL rfl (by rfl) (by kernel_rfl) (by kernel_rfl) (by kernel_rfl) (fun _ _ _ h => h) (by rfl) ?y15 ?n15
                    case y15 => intro W hW; have hc := HX0.out W hW; go_simp; try with_reducible rfl
                    try simp only [Act.put, List.setIfInBounds_toArray, List.set_cons_zero, List.set_cons_succ]
                    refine stepB_read 16 (some 97) (v := ?v16) hL rfl (by rfl) (by kernel_rfl) (by kernel_rfl) (by kernel_rfl) (fun _ _ _ h => h) (by rfl) ?y16 ?n16
                    case y16 => intro W hW; go_simp; try with_reducible rfl
                    try simp only [Act.put, List.setIfInBounds_toArray, List.set_cons_zero, List.set_cons_succ]
                    -- 13: call:13 -> 94
                    refine stepB_only 13 rfl (by kernel_rfl) (by rfl) (fun K' hK => ?_)
                    go_simp
                    go_at_call 13
                    refine (with_is _ L m _ (HUW.out _ hL) (by rw [HLl.out]; omega) S1 n1 HW1c.out HS1n.out).mono ?_
                    rintro e x13 ⟨p13, c13, rfl, hN13, hb13⟩
                    have K13 := Lib.hid hN13
                    replace hL : Low WM.heap.size wr.drew x13 := hL.trans (hb13.mono (Nat.le_trans hN0 hL.size))
                    refine hK _ _ hL ?_
                    clear hN13 hb13
                    clear hK K'
                    try simp only [Act.put, List.setIfInBounds_toArray, List.set_cons_zero, List.set_cons_succ]
                    -- 17: call:14 -> 98
                    refine stepB_only 17 rfl (by kernel_rfl) (by rfl) (fun K' hK => ?_)
                    go_simp
                    go_at_call 14
                    refine (rwith_is _ L m _ (HUW.out _ hL) (by rw [HLl.out]; omega) S1 n1 HW1r.out HS1n.out).mono ?_
                    rintro e x17 ⟨p17, c17, rfl, hN17, hb17⟩
                    have K17 := Lib.hid hN17
                    replace K13 := Lib.hid (K13.out.below hb17 (Nat.le_refl _))
                    replace hL : Low WM.heap.size wr.drew x17 := hL.trans (hb17.mono (Nat.le_trans hN0 hL.size))
                    refine hK _ _ hL ?_
                    clear hN17 hb17
                    clear hK K'
                    try simp only [Act.put, List.setIfInBounds_toArray, List.set_cons_zero, List.set_cons_succ]
                    -- 18: call:12 -> 99
                    refine stepB_only 18 rfl (by kernel_rfl) (by rfl) (fun K' hK => ?_)
                    go_simp
                    go_at_call 12
                    refine (same_is _ _ S1 S1 _ K13.out K17.out (by rw [HS1n.out]; omega) (by rw [HS1n.out]; omega) true (by simp)).mono ?_
                    rintro e x18 ⟨rfl, hb18⟩
                    replace hL : Low WM.heap.size wr.drew x18 := hL.trans (hb18.mono (Nat.le_trans hN0 hL.size))
                    refine hK _ _ hL ?_
                    clear hb18 K13 K17
                    clear hK K'
                    try simp only [Act.put, List.setIfInBounds_toArray, List.set_cons_zero, List.set_cons_succ]
                    refine stepB_read 19 (some 100) (v := ?v19) hL rfl (by rfl) (by kernel_rfl) (by kernel_rfl) (by kernel_rfl) (fun _ _ _ h => h) (by rfl) ?y19 ?n19
                    case y19 => intro W hW; go_simp; try with_reducible rfl
                    try simp only [Act.put, List.setIfInBounds_toArray, List.set_cons_zero, List.set_cons_succ]
                    refine stepB_read 20 (some 101) (v := ?v20) hL rfl (by rfl) (by kernel_rfl) (by kernel_rfl) (by kernel_rfl) (fun _ _ _ h => h) (by rfl) ?y20 ?n20
                    case y20 => intro W hW; go_simp; try with_reducible rfl
                    try simp only [Act.put, List.setIfInBounds_toArray, List.set_cons_zero, List.set_cons_succ]
                    refine stepB_read 21 (some 102) (v := ?v21) hL rfl (by rfl) (by kernel_rfl) (by kernel_rfl) (by kernel_rfl) (fun _ _ _ h => h) (by rfl) ?y21 ?n21
                    case y21 => intro W hW; go_simp; try with_reducible rfl
                    try simp only [Act.put, List.setIfInBounds_toArray, List.set_cons_zero, List.set_cons_succ]
                    refine stepB_read 22 (some 103) (v := ?v22) hL rfl (by rfl) (by kernel_rfl) (by kernel_rfl) (by kernel_rfl) (fun _ _ _ h => h) (by rfl) ?y22 ?n22
                    case y22 => intro W hW; go_simp; try with_reducible rfl
                    try simp only [Act.put, List.setIfInBounds_toArray, List.set_cons_zero, List.set_cons_succ]
                    refine stepB_read 23 (some 104) (v := ?v23) hL rfl (by rfl) (by kernel_rfl) (by kernel_rfl) (by kernel_rfl) (fun _ _ _ h => h) (by rfl) ?y23 ?n23
                    case y23 => intro W hW; have hc := HX0.out W hW; go_simp; try with_reducible rfl
                    try simp only [Act.put, List.setIfInBounds_toArray, List.set_cons_zero, List.set_cons_succ]
                    refine stepB_read 24 (some 105) (v := ?v24) hL rfl (by rfl) (by kernel_rfl) (by kernel_rfl) (by kernel_rfl) (fun _ _ _ h => h) (by rfl) ?y24 ?n24
                    case y24 => intro W hW; go_simp; try with_reducible rfl
                    try simp only [Act.put, List.setIfInBounds_toArray, List.set_cons_zero, List.set_cons_succ]
                    refine stepB_read 26 (some 107) (v := ?v26) hL rfl (by rfl) (by kernel_rfl) (by kernel_rfl) (by kernel_rfl) (fun _ _ _ h => h) (by rfl) ?y26 ?n26
                    case y26 => intro W hW; go_simp; try with_reducible rfl
                    try simp only [Act.put, List.setIfInBounds_toArray, List.set_cons_zero, List.set_cons_succ]
                    refine stepB_read 27 (some 108) (v := ?v27) hL rfl (by rfl) (by kernel_rfl) (by kernel_rfl) (by kernel_rfl) (fun _ _ _ h => h) (by rfl) ?y27 ?n27
                    case y27 => intro W hW; have hc := HX0.out W hW; go_simp; try with_reducible rfl
                    try simp only [Act.put, List.setIfInBounds_toArray, List.set_cons_zero, List.set_cons_succ]
                    refine stepB_read 28 (some 109) (v := ?v28) hL rfl (by rfl) (by kernel_rfl) (by kernel_rfl) (by kernel_rfl) (fun _ _ _ h => h) (by rfl) ?y28 ?n28
                    case y28 => intro W hW; go_simp; try with_reducible rfl
                    try simp only [Act.put, List.setIfInBounds_toArray, List.set_cons_zero, List.set_cons_succ]
                    -- 25: call:15 -> 106
                    refine stepB_only 25 rfl (by kernel_rfl) (by rfl) (fun K' hK => ?_)
                    go_simp
                    go_at_call 15
                    refine (without_is _ L m _ (HUW.out _ hL) (by rw [HLl.out]; omega) S2 n2 HW2c.out HS2n.out).mono ?_
                    rintro e x25 ⟨p25, c25, rfl, hN25, hb25⟩
                    have K25 := Lib.hid hN25
                    replace hL : Low WM.heap.size wr.drew x25 := hL.trans (hb25.mono (Nat.le_trans hN0 hL.size))
                    refine hK _ _ hL ?_
                    clear hN25 hb25
                    clear hK K'
                    try simp only [Act.put, List.setIfInBounds_toArray, List.set_cons_zero, List.set_cons_succ]
                    -- 29: call:16 -> 110
                    refine stepB_only 29 rfl (by kernel_rfl) (by rfl) (fun K' hK => ?_)
                    go_simp
                    go_at_call 16
                    refine (rwithout_is _ L m _ (HUW.out _ hL) (by rw [HLl.out]; omega) S2 n2 HW2c.out HS2n.out).mono ?_
                    rintro e x29 ⟨p29, c29, rfl, hN29, hb29⟩
                    have K29 := Lib.hid hN29
                    replace K25 := Lib.hid (K25.out.below hb29 (Nat.le_refl _))
                    replace hL : Low WM.heap.size wr.drew x29 := hL.trans (hb29.mono (Nat.le_trans hN0 hL.size))
                    refine hK _ _ hL ?_
                    clear hN29 hb29
                    clear hK K'
                    try simp only [Act.put, List.setIfInBounds_toArray, List.set_cons_zero, List.set_cons_succ]
                    -- 30: call:12 -> 111
                    refine stepB_only 30 rfl (by kernel_rfl) (by rfl) (fun K' hK => ?_)
                    go_simp
                    go_at_call 12
                    refine (same_is _ _ S2 S2 _ K25.out K29.out (by rw [HS2n.out]; omega) (by rw [HS2n.out]; omega) true (by simp)).mono ?_
                    rintro e x30 ⟨rfl, hb30⟩
                    replace hL : Low WM.heap.size wr.drew x30 := hL.trans (hb30.mono (Nat.le_trans hN0 hL.size))
                    refine hK _ _ hL ?_
                    clear hb30 K25 K29
                    clear hK K'
                    try simp only [Act.put, List.setIfInBounds_toArray, List.set_cons_zero, List.set_cons_succ]
                    refine stepB_read 31 (some 112) (v := ?v31) hL rfl (by rfl) (by kernel_rfl) (by kernel_rfl) (by kernel_rfl) (fun _ _ _ h => h) (by rfl) ?y31 ?n31
                    case y31 => intro W hW; go_simp; try with_reducible rfl
                    try simp only [Act.put, List.setIfInBounds_toArray, List.set_cons_zero, List.set_cons_succ]
                    refine stepB_read 32 (some 113) (v := ?v32) hL rfl (by rfl) (by kernel_rfl) (by kernel_rfl) (by kernel_rfl) (fun _ _ _ h => h) (by rfl) ?y32 ?n32
                    case y32 => intro W hW; go_simp; try with_reducible rfl
                    try simp only [Act.put, List.setIfInBounds_toArray, List.set_cons_zero, List.set_cons_succ]
                    refine wpAnyH_done (by kernel_rfl) ?_ _
                    go_wp2_with fail
                    have HLx := Lib.hid (hW0.trans hL)
                    clear hL
                    first
                      | exact ⟨⟨s + 1, by omega, by go_num, HLx.out⟩, by simp [intOf]; omega⟩
                      | (go_roundw
                         case rel => exact ⟨s + 1, by omega, by go_num, HLx.out⟩
                         case measure => simp [intOf]; omega)
                  · exact absurd trivial dummy
                · obtain rfl : s = 2 := by omega
                  go_wp2_with fail
                  have hW0 : Below WM.heap.size WM wr.drew := hbs.drew
                  have hN0 : WM.heap.size ≤ wr.drew.heap.size := hW0.size
                  have HX0 := Lib.hid (fun W (hW : Below WM.heap.size wr.drew W) => ((hW0.trans hW).cell (p := ⟨_, 0, none⟩) (World.block_lt_of_cell? WM ⟨_, 0, none⟩ CA0.out)).trans CA0.out)
                  have HX1 := Lib.hid (fun W (hW : Below WM.heap.size wr.drew W) => ((hW0.trans hW).cell (p := ⟨_, 1, none⟩) (World.block_lt_of_cell? WM ⟨_, 1, none⟩ CA1.out)).trans CA1.out)
                  have HUW := Lib.hid (fun W (hW : Low WM.heap.size wr.drew W) => NU3.out.below (hW0.trans hW) (Nat.le_refl _))
                  have HVW := Lib.hid (fun W (hW : Low WM.heap.size wr.drew W) => NV3.out.below (hW0.trans hW) (Nat.le_refl _))
                  have hL : Low WM.heap.size wr.drew wr.drew := Below.refl _ _
                  refine regionB_begin WM.heap.size (by kernel_rfl) ?_
                  refine stepB_read 0 (some 115) (v := ?vb0) hL rfl (by rfl) (by kernel_rfl) (by kernel_rfl) (by kernel_rfl) (fun _ _ _ h => h) (by rfl) ?yb0 ?nb0
                  case yb0 => intro W hW; go_simp; try with_reducible rfl
                  try simp only [Act.put, List.setIfInBounds_toArray, List.set_cons_zero, List.set_cons_succ]
                  refine stepB_read 1 (some 116) (v := ?vb1) hL rfl (by rfl) (by kernel_rfl) (by kernel_rfl) (by kernel_rfl) (fun _ _ _ h => h) (by rfl) ?yb1 ?nb1
                  case yb1 => intro W hW; have hc := HX0.out W hW; go_simp; try with_reducible rfl
                  try simp only [Act.put, List.setIfInBounds_toArray, List.set_cons_zero, List.set_cons_succ]
                  refine stepB_read 3 (some 118) (v := ?vb3) hL rfl (by rfl) (by kernel_rfl) (by kernel_rfl) (by kernel_rfl) (fun _ _ _ h => h) (by rfl) ?yb3 ?nb3
                  case yb3 => intro W hW; go_simp; try with_reducible rfl
                  try simp only [Act.put, List.setIfInBounds_toArray, List.set_cons_zero, List.set_cons_succ]
                  refine stepB_read 4 (some 119) (v := ?vb4) hL rfl (by rfl) (by kernel_rfl) (by kernel_rfl) (by kernel_rfl) (fun _ _ _ h => h) (by rfl) ?yb4 ?nb4
                  case yb4 => intro W hW; have hc := HX0.out W hW; go_simp; try with_reducible rfl
                  try simp only [Act.put, List.setIfInBounds_toArray, List.set_cons_zero, List.set_cons_succ]
                  -- 2: call:17 -> 117
                  refine stepB_only 2 rfl (by kernel_rfl) (by rfl) (fun K' hK => ?_)
                  go_simp
                  go_at_call 17
                  refine (of_is _ L _ (HUW.out _ hL) (by rw [HLl.out]; omega) S3 n3 HS3c.out HS3n.out).mono ?_
                  rintro e x2 ⟨p2, c2, rfl, hN2, hb2⟩
                  have K2 := Lib.hid hN2
                  replace hL : Low WM.heap.size wr.drew x2 := hL.trans (hb2.mono (Nat.le_trans hN0 hL.size))
                  refine hK _ _ hL ?_
                  clear hN2 hb2
                  clear hK K'
                  try simp only [Act.put, List.setIfInBounds_toArray, List.set_cons_zero, List.set_cons_succ]
                  -- 5: call:9 -> 120
                  refine stepB_only 5 rfl (by kernel_rfl) (by rfl) (fun K' hK => ?_)
                  go_simp
                  go_at_call 9
                  refine (rof_is _ L _ (HUW.out _ hL) (by rw [HLl.out]; omega) S3 n3 HS3c.out HS3n.out).mono ?_
                  rintro e x5 ⟨p5, c5, rfl, hN5, hb5⟩
                  have K5 := Lib.hid hN5
                  replace K2 := Lib.hid (K2.out.below hb5 (Nat.le_refl _))
                  replace hL : Low WM.heap.size wr.drew x5 := hL.trans (hb5.mono (Nat.le_trans hN0 hL.size))
                  refine hK _ _ hL ?_
                  clear hN5 hb5
                  clear hK K'
                  try simp only [Act.put, List.setIfInBounds_toArray, List.set_cons_zero, List.set_cons_succ]
                  -- 6: call:12 -> 121
                  refine stepB_only 6 rfl (by kernel_rfl) (by rfl) (fun K' hK => ?_)
                  go_simp
                  go_at_call 12
                  refine (same_is _ _ S3 S3 _ K2.out K5.out (by rw [HS3n.out]; omega) (by rw [HS3n.out]; omega) true (by simp)).mono ?_
                  rintro e x6 ⟨rfl, hb6⟩
                  replace hL : Low WM.heap.size wr.drew x6 := hL.trans (hb6.mono (Nat.le_trans hN0 hL.size))
                  refine hK _ _ hL ?_
                  clear hb6 K2 K5
                  clear hK K'
                  try simp only [Act.put, List.setIfInBounds_toArray, List.set_cons_zero, List.set_cons_succ]
                  refine stepB_read 7 (some 122) (v := ?vb7) hL rfl (by rfl) (by kernel_rfl) (by kernel_rfl) (by kernel_rfl) (fun _ _ _ h => h) (by rfl) ?yb7 ?nb7
                  case yb7 => intro W hW; go_simp; try with_reducible rfl
                  try simp only [Act.put, List.setIfInBounds_toArray, List.set_cons_zero, List.set_cons_succ]
                  refine stepB_read 8 (some 123) (v := ?vb8) hL rfl (by rfl) (by kernel_rfl) (by kernel_rfl) (by kernel_rfl) (fun _ _ _ h => h) (by rfl) ?yb8 ?nb8
                  case yb8 => intro W hW; go_simp; try with_reducible rfl
                  try simp only [Act.put, List.setIfInBounds_toArray, List.set_cons_zero, List.set_cons_succ]
                  refine stepB_read 9 (some 124) (v := ?vb9) hL rfl (by rfl) (by kernel_rfl) (by kernel_rfl) (by kernel_rfl) (fun _ _ _ h => h) (by rfl) ?yb9 ?nb9
                  case yb9 => intro W hW; go_simp; try with_reducible rfl
                  try simp only [Act.put, List.setIfInBounds_toArray, List.set_cons_zero, List.set_cons_succ]
                  refine stepB_read 10 (some 125) (v := ?vb10) hL rfl (by rfl) (by kernel_rfl) (by kernel_rfl) (by kernel_rfl) (fun _ _ _ h => h) (by rfl) ?yb10 ?nb10
                  case yb10 => intro W hW; have hc := HX0.out W hW; go_simp; try with_reducible rfl
                  try simp only [Act.put, List.setIfInBounds_toArray, List.set_cons_zero, List.set_cons_succ]
                  refine stepB_read 12 (some 127) (v := ?vb12) hL rfl (by rfl) (by kernel_rfl) (by kernel_rfl) (by kernel_rfl) (fun _ _ _ h => h) (by rfl) ?yb12 ?nb12
                  case yb12 => intro W hW; go_simp; try with_reducible rfl
                  try simp only [Act.put, List.setIfInBounds_toArray, List.set_cons_zero, List.set_cons_succ]
                  refine stepB_read 13 (some 128) (v := ?vb13) hL rfl (by rfl) (by kernel_rfl) (by kernel_rfl) (by kernel_rfl) (fun _ _ _ h => h) (by rfl) ?yb13 ?nb13
                  case yb13 => intro W hW; have hc := HX0.out W hW; go_simp; try with_reducible rfl
                  try simp only [Act.put, List.setIfInBounds_toArray, List.set_cons_zero, List.set_cons_succ]
                  -- 11: call:18 -> 126
                  refine stepB_only 11 rfl (by kernel_rfl) (by rfl) (fun K' hK => ?_)
                  go_simp
                  go_at_call 18
                  refine (right_is _ L _ (HUW.out _ hL) (by rw [HLl.out]; omega) br HBr.out).mono ?_
                  rintro e x11 ⟨rfl, rfl⟩
                  refine hK _ _ hL ?_
                  clear hK K'
                  try simp only [Act.put, List.setIfInBounds_toArray, List.set_cons_zero, List.set_cons_succ]
                  -- 14: call:19 -> 129
                  refine stepB_only 14 rfl (by kernel_rfl) (by rfl) (fun K' hK => ?_)
                  go_simp
                  go_at_call 19
                  refine (rright_is _ L _ (HUW.out _ hL) (by rw [HLl.out]; omega) br HBr.out).mono ?_
                  rintro e x14 ⟨rfl, hb14⟩
                  replace hL : Low WM.heap.size wr.drew x14 := hL.trans (hb14.mono (Nat.le_trans hN0 hL.size))
                  refine hK _ _ hL ?_
                  clear hb14
                  clear hK K'
                  try simp only [Act.put, List.setIfInBounds_toArray, List.set_cons_zero, List.set_cons_succ]
                  refine stepB_read 15 (some 130) (v := ?vb15) hL rfl (by rfl) (by kernel_rfl) (by kernel_rfl) (by kernel_rfl) (fun _ _ _ h => h) (by rfl) ?yb15 ?nb15
                  case yb15 => intro W hW; go_simp; try with_reducible rfl
                  try simp only [Act.put, List.setIfInBounds_toArray, List.set_cons_zero, List.set_cons_succ]
                  refine stepB_read 16 (some 131) (v := ?vb16) hL rfl (by rfl) (by kernel_rfl) (by kernel_rfl) (by kernel_rfl) (fun _ _ _ h => h) (by rfl) ?yb16 ?nb16
                  case yb16 => intro W hW; go_simp; try with_reducible rfl
                  try simp only [Act.put, List.setIfInBounds_toArray, List.set_cons_zero, List.set_cons_succ]
                  refine stepB_read 17 (some 132) (v := ?vb17) hL rfl (by rfl) (by kernel_rfl) (by kernel_rfl) (by kernel_rfl) (fun _ _ _ h => h) (by rfl) ?yb17 ?nb17
                  case yb17 => intro W hW; go_simp; try with_reducible rfl
                  try simp only [Act.put, List.setIfInBounds_toArray, List.set_cons_zero, List.set_cons_succ]
                  refine stepB_read 18 (some 133) (v := ?vb18) hL rfl (by rfl) (by kernel_rfl) (by kernel_rfl) (by kernel_rfl) (fun _ _ _ h => h) (by rfl) ?yb18 ?nb18
                  case yb18 => intro W hW; go_simp; try with_reducible rfl
                  try simp only [Act.put, List.setIfInBounds_toArray, List.set_cons_zero, List.set_cons_succ]
                  refine stepB_read 19 (some 134) (v := ?vb19) hL rfl (by rfl) (by kernel_rfl) (by kernel_rfl) (by kernel_rfl) (fun _ _ _ h => h) (by rfl) ?yb19 ?nb19
                  case yb19 => intro W hW; have hc := HX0.out W hW; go_simp; try with_reducible rfl
                  try simp only [Act.put, List.setIfInBounds_toArray, List.set_cons_zero, List.set_cons_succ]
                  refine stepB_read 20 (some 135) (v := ?vb20) hL rfl (by rfl) (by kernel_rfl) (by kernel_rfl) (by kernel_rfl) (fun _ _ _ h => h) (by rfl) ?yb20 ?nb20
                  case yb20 => intro W hW; go_simp; try with_reducible rfl
                  try simp only [Act.put, List.setIfInBounds_toArray, List.set_cons_zero, List.set_cons_succ]
                  refine stepB_read 21 (some 136) (v := ?vb21) hL rfl (by rfl) (by kernel_rfl) (by kernel_rfl) (by kernel_rfl) (fun _ _ _ h => h) (by rfl) ?yb21 ?nb21
                  case yb21 => intro W hW; have hc := HX1.out W hW; go_simp; try with_reducible rfl
                  try simp only [Act.put, List.setIfInBounds_toArray, List.set_cons_zero, List.set_cons_succ]
                  refine stepB_read 23 (some 138) (v := ?vb23) hL rfl (by rfl) (by kernel_rfl) (by kernel_rfl) (by kernel_rfl) (fun _ _ _ h => h) (by rfl) ?yb23 ?nb23
                  case yb23 => intro W hW; go_simp; try with_reducible rfl
                  try simp only [Act.put, List.setIfInBounds_toArray, List.set_cons_zero, List.set_cons_succ]
                  refine stepB_read 24 (some 139) (v := ?vb24) hL rfl (by rfl) (by kernel_rfl) (by kernel_rfl) (by kernel_rfl) (fun _ _ _ h => h) (by rfl) ?yb24 ?nb24
                  case yb24 => intro W hW; have hc := HX0.out W hW; go_simp; try with_reducible rfl
                  try simp only [Act.put, List.setIfInBounds_toArray, List.set_cons_zero, List.set_cons_succ]
                  refine stepB_read 25 (some 140) (v := ?vb25) hL rfl (by rfl) (by kernel_rfl) (by kernel_rfl) (by kernel_rfl) (fun _ _ _ h => h) (by rfl) ?yb25 ?nb25
                  case yb25 => intro W hW; go_simp; try with_reducible rfl
                  try simp only [Act.put, List.setIfInBounds_toArray, List.set_cons_zero, List.set_cons_succ]
                  refine stepB_read 26 (some 141) (v := ?vb26) hL rfl (by rfl) (by kernel_rfl) (by kernel_rfl) (by kernel_rfl) (fun _ _ _ h => h) (by rfl) ?yb26 ?nb26
                  case yb26 => intro W hW; have hc := HX1.out W hW; go_simp; try with_reducible rfl
                  try simp only [Act.put, List.setIfInBounds_toArray, List.set_cons_zero, List.set_cons_succ]
                  -- 22: call:20 -> 137
                  refine stepB_only 22 rfl (by kernel_rfl) (by rfl) (fun K' hK => ?_)
                  go_simp
                  go_at_call 20
                  refine (most_is _ _ L Y _ (HUW.out _ hL) (HVW.out _ hL) (by rw [HLl.out]; omega) (by rw [HYl.out]; omega) bm HBm.out).mono ?_
                  rintro e x22 ⟨rfl, hb22⟩
                  replace hL : Low WM.heap.size wr.drew x22 := hL.trans (hb22.mono (Nat.le_trans hN0 hL.size))
                  refine hK _ _ hL ?_
                  clear hb22
                  clear hK K'
                  try simp only [Act.put, List.setIfInBounds_toArray, List.set_cons_zero, List.set_cons_succ]
                  -- 27: call:21 -> 142
                  refine stepB_only 27 rfl (by kernel_rfl) (by rfl) (fun K' hK => ?_)
                  go_simp
                  go_at_call 21
                  refine (rmost_is _ _ L Y _ (HUW.out _ hL) (HVW.out _ hL) (by rw [HLl.out]; omega) (by rw [HYl.out]; omega) bm HBm.out).mono ?_
                  rintro e x27 ⟨rfl, hb27⟩
                  replace hL : Low WM.heap.size wr.drew x27 := hL.trans (hb27.mono (Nat.le_trans hN0 hL.size))
                  refine hK _ _ hL ?_
                  clear hb27
                  clear hK K'
                  try simp only [Act.put, List.setIfInBounds_toArray, List.set_cons_zero, List.set_cons_succ]
                  refine stepB_read 28 (some 143) (v := ?vb28) hL rfl (by rfl) (by kernel_rfl) (by kernel_rfl) (by kernel_rfl) (fun _ _ _ h => h) (by rfl) ?yb28 ?nb28
                  case yb28 => intro W hW; go_simp; try with_reducible rfl
                  try simp only [Act.put, List.setIfInBounds_toArray, List.set_cons_zero, List.set_cons_succ]
                  refine stepB_read 29 (some 144) (v := ?vb29) hL rfl (by rfl) (by kernel_rfl) (by kernel_rfl) (by kernel_rfl) (fun _ _ _ h => h) (by rfl) ?yb29 ?nb29
                  case yb29 => intro W hW; go_simp; try with_reducible rfl
                  try simp only [Act.put, List.setIfInBounds_toArray, List.set_cons_zero, List.set_cons_succ]
                  refine wpAnyH_done (by kernel_rfl) ?_ _
                  go_wp2_with fail
                  have HLx := Lib.hid (HBML.out.trans ((hW0.trans hL).mono HBML.out.size))
                  clear hL
                  first
                    | exact ⟨⟨t + 1, by omega, by go_num, HLx.out⟩, by simp [intOf]; omega⟩
                    | (go_roundw
                       case rel => exact ⟨t + 1, by omega, by go_num, HLx.out⟩
                       case measure => simp [intOf]; omega)
            · obtain rfl : t = 3 := by omega
              go_wp2
              go_ret
              exact ⟨rfl, by rw [hN]; exact HB6.out.trans (hbt.mono (by omega))⟩
end Go.Proofs.Ytdafkboojdjcoaa.K
