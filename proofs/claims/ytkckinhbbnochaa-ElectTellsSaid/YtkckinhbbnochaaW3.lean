/- The walk of ElectCommits: it returns true, and writes nothing that was there. -/
import Derived.Test.YtkckinhbbnochaaE3
import Derived.Test.YtkckinhbbnochaaNums
namespace Go.Proofs.Ytkckinhbbnochaa
open Go.ChangeShapes Go.WideShapes Go.ChangeAt Go.RowKit

theorem toInts {w : World} {v : Value} {zs : List Int} (h : K.IsNums .i64 w v zs) : IsInts w v zs := by
  obtain ⟨a, c, rfl, h | ⟨b, off, rfl, h1, h2⟩⟩ := h
  · obtain rfl := List.length_eq_zero_iff.1 h
    exact .inl ⟨a, c, rfl, rfl⟩
  · by_cases h0 : 0 < zs.length
    · exact .inr ⟨b, off, c, rfl, h0, h1, h2⟩
    · obtain rfl : zs = [] := List.length_eq_zero_iff.1 (by omega)
      exact .inl ⟨_, c, rfl, rfl⟩

theorem commit_ok (t c : Int) (m ts : List Int) : (c ≤ commitF t c m ts ∧ commitF t c m ts ≤ c + ts.length) ∧
    ∀ k : Nat, k < ts.length → (commitF t c m ts < c + 1 + k → ¬ mayB t c m ts k) ∧ (commitF t c m ts = c + 1 + k → mayB t c m ts k) := by
  unfold commitF
  by_cases hm : m = []
  · subst hm
    simp only [if_true]
    refine ⟨by omega, fun k _ => ⟨fun _ h => ?_, fun h => by omega⟩⟩
    have := h.1
    simp [cnt] at this
  · rw [if_neg hm]
    exact scan_spec t c m ts hm ts.length

theorem info_int : (Try.prog.info? 3).map (fun i => (i.zero, i.size, i.bytes)) = some (some (.int .i64 0), 1, 8) := by kernel_rfl

theorem take_map_snoc (f : Int → Int) (z : List Int) (k : Nat) (h : k < z.length) : ((z.take (k + 1)).map f).map (Value.int .i64) = ((z.take k).map f).map (Value.int .i64) ++ [.int .i64 (f (z.getD k 0))] := by
  rw [List.take_succ_eq_append_getElem h, List.map_append, List.map_append]; simp only [List.map_cons, List.map_nil, List.getD, List.getElem?_eq_getElem h, Option.getD_some]

theorem commits_elems (a1 : Int) (z2 : List Int) (b2 : ∀ j, j < z2.length → 0 ≤ z2.getD j 0 ∧ z2.getD j 0 ≤ 255) : ∀ j, j < z2.length → (z2.map fun x => a1 + x % 24).getD j 0 ≤ a1 + 23 := by
  intro j hj
  have := b2 j hj
  simp [List.getD, hj]; omega

set_option maxRecDepth 100000 in
set_option maxHeartbeats 4000000 in
theorem commits_walk (a0 a1 : Int) (v2 v3 : Value) (z2 z3 : List Int) (w : World) (w0 : 0 ≤ a0) (w0' : a0 ≤ 255) (w1 : 0 ≤ a1) (w1' : a1 ≤ 65535) (h2 : K.IsNums .u8 w v2 z2) (h3 : K.IsNums .u8 w v3 z3)
    (b2 : ∀ j, j < z2.length → 0 ≤ z2.getD j 0 ∧ z2.getD j 0 ≤ 255) (b3 : ∀ j, j < z3.length → 0 ≤ z3.getD j 0 ∧ z3.getD j 0 ≤ 255) (hl2 : z2.length ≤ maxLen) (hl3 : z3.length ≤ maxLen) :
    Calls Try.prog 5 #[.int .u8 a0, .int .u16 a1, v2, v3] w fun e w' => e = .returned (.bool true) ∧ Below w.heap.size w w' := by
  unfold maxLen at hl2 hl3
  obtain ⟨p2, c2, rfl, h2⟩ := h2
  obtain ⟨p3, c3, rfl, h3⟩ := h3
  by_cases h7 : 7 < z2.length
  · have H2 := Lib.hid h2
    have H3 := Lib.hid h3
    have B2 := Lib.hid b2
    have B3 := Lib.hid b3
    clear h2 h3 b2 b3
    go_enter Try.func5, Try.ntmps5
    go_wp2_with (go_at_call 8; refine (known_true _).mono ?_; rintro e v ⟨rfl, hb⟩)
    go_ret
    exact ⟨rfl, hb⟩
  by_cases h20 : 20 < z3.length
  · have H2 := Lib.hid h2
    have H3 := Lib.hid h3
    have B2 := Lib.hid b2
    have B3 := Lib.hid b3
    clear h2 h3 b2 b3
    go_enter Try.func5, Try.ntmps5
    go_wp2_with (go_at_call 8; refine (known_true _).mono ?_; rintro e v ⟨rfl, hb⟩)
    go_ret
    exact ⟨rfl, hb⟩
  have H2 := Lib.hid h2
  have H3 := Lib.hid h3
  have B2 := Lib.hid b2
  have B3 := Lib.hid b3
  clear h2 h3 b2 b3
  go_enter Try.func5, Try.ntmps5
  go_wp2_with (go_at_call 8; refine (known_true _).mono ?_; rintro e v ⟨rfl, hb⟩)
  go_loopw [9, 11] (fun u i wr => ∃ k : Nat, k ≤ z2.length ∧ i = .int .i64 k ∧ wr.ownsRow w.heap.size 3 1 u k (((z2.take k).map fun x => a1 + x % 24).map (Value.int .i64)) ∧ Below w.heap.size w wr) (fun _ i _ => z2.length - (intOf i).toNat)
  case atStart => exact ⟨0, Nat.zero_le _, rfl, World.ownsRow_nil _ _ _ _, hb⟩
  case round =>
    obtain ⟨k, hk, rfl, hown, hbel⟩ := hrel
    by_cases hlt : k < z2.length
    · rcases H2.out with h0 | ⟨b, off, rfl, hblk, hcell⟩
      · omega
      obtain ⟨x0, x1⟩ := B2.out k hlt
      have hsn := Lib.hid (take_map_snoc (fun x => a1 + x % 24) z2 k hlt)
      have hc : wr.cell? ⟨b, off + k, none⟩ = some (.int .u8 (z2.getD k 0)) := by rw [hbel.cell hblk]; exact hcell k hlt
      obtain ⟨x, hx⟩ : ∃ x, z2.getD k 0 = x := ⟨_, rfl⟩
      rw [hx] at hc x0 x1
      have HX := Lib.hid hx
      have hsz := hbel.size
      clear hcell hx
      go_wp2_with (at_builtin; refine K.wpList_app1 rfl _ _ 22 rfl w.heap.size 3 .i64 8 Try.underlying22 info_int (by omega) _ k _ rfl hown (a1 + x % 24) 1 rfl (by omega) hsz ?_; intro v' w' hown' hb')
      go_roundw
      case rel => exact ⟨k + 1, by omega, by go_num, by rw [← HX.out] at hown'; rw [hsn.out]; exact hown', hbel.trans hb'⟩
      case measure => simp [intOf]; omega
    · obtain rfl : k = z2.length := by omega
      rw [List.take_length] at hown
      have hM : K.IsNums .i64 wr u9 (z2.map fun x => a1 + x % 24) := K.IsNums.ofOwn hown
      have hsz := hbel.size
      have hMB := Lib.hid (commits_elems a1 z2 B2.out)
      have hML : (z2.map fun x => a1 + x % 24).length = z2.length := by simp
      generalize (z2.map fun x => a1 + x % 24) = M at hM hMB hML
      obtain ⟨pm, cm, rfl, hM⟩ := hM
      rw [hML]
      rw [hML] at hM
      have HM := Lib.hid hM
      clear hown hM
      obtain ⟨wm, rfl⟩ : ∃ wm : World, wm = wr := ⟨_, rfl⟩
      go_wp2
      go_loopw [10, 12] (fun u i wr => ∃ k : Nat, k ≤ z3.length ∧ i = .int .i64 k ∧ wr.ownsRow wm.heap.size 3 1 u k (((z3.take k).map fun x => x % 4).map (Value.int .i64)) ∧ Below wm.heap.size wm wr) (fun _ i _ => z3.length - (intOf i).toNat)
      case atStart => exact ⟨0, Nat.zero_le _, rfl, World.ownsRow_nil _ _ _ _, Below.refl _ _⟩
      case round =>
        obtain ⟨k, hk, rfl, hown, hbel2⟩ := hrel
        by_cases hlt : k < z3.length
        · rcases H3.out with h0 | ⟨b, off, rfl, hblk, hcell⟩
          · omega
          obtain ⟨x0, x1⟩ := B3.out k hlt
          have hsn := Lib.hid (take_map_snoc (fun x => x % 4) z3 k hlt)
          have hc : wr.cell? ⟨b, off + k, none⟩ = some (.int .u8 (z3.getD k 0)) := by rw [hbel2.cell (by show b < wm.heap.size; omega), hbel.cell hblk]; exact hcell k hlt
          obtain ⟨x, hx⟩ : ∃ x, z3.getD k 0 = x := ⟨_, rfl⟩
          rw [hx] at hc x0 x1
          have HX := Lib.hid hx
          have hsz2 := hbel2.size
          clear hcell hx
          go_wp2_with (at_builtin; refine K.wpList_app1 rfl _ _ 22 rfl wm.heap.size 3 .i64 8 Try.underlying22 info_int (by omega) _ k _ rfl hown (x % 4) 1 rfl (by omega) hsz2 ?_; intro v' w' hown' hb')
          go_roundw
          case rel => exact ⟨k + 1, by omega, by go_num, by rw [← HX.out] at hown'; rw [hsn.out]; exact hown', hbel2.trans hb'⟩
          case measure => simp [intOf]; omega
        · obtain rfl : k = z3.length := by omega
          rw [List.take_length] at hown
          have hT : K.IsNums .i64 wr u10 (z3.map fun x => x % 4) := K.IsNums.ofOwn hown
          have hTL : (z3.map fun x => x % 4).length = z3.length := by simp
          generalize (z3.map fun x => x % 4) = T at hT hTL
          have hM2 : K.IsNums .i64 wr (.slice pm z2.length cm) M := (show K.IsNums .i64 wm (.slice pm z2.length cm) M from ⟨pm, cm, by rw [hML], by rw [hML]; exact HM.out⟩).below hbel2 (Nat.le_refl _)
          have hcall := commit_any (a0 % 4) a1 M T _ _ _ (toInts hM2) (toInts hT) (by omega) (by omega) (by omega) (by omega)
          have hok := commit_ok (a0 % 4) a1 M T
          generalize commitF (a0 % 4) a1 M T = C at hcall hok
          obtain ⟨⟨o1, o2⟩, o3⟩ := hok
          rw [hTL] at o2 o3
          have O3 := Lib.hid o3
          have hb9 := (hbel.trans (hbel2.mono hsz))
          obtain ⟨pt, ct, rfl, hT⟩ := hT
          rw [hTL] at hT hcall
          have HT := Lib.hid hT
          rw [hTL]
          obtain ⟨pm', cm', hpm, hM3⟩ := hM2
          injection hpm with e1 e2 e3
          subst e1
          subst e3
          clear e2
          rw [hML] at hM3
          have HM3 := Lib.hid hM3
          have hME := hML
          clear hown hT hM3 o3
          go_wp2_with (go_at_call 13; ((with_reducible refine hcall.mono ?_); rintro e wc ⟨rfl, hbc⟩))
          have hM4 : K.IsNums .i64 wc (.slice pm z2.length cm) M := (show K.IsNums .i64 wr (.slice pm z2.length cm) M from ⟨pm, cm, by rw [hML], by rw [hML]; exact HM3.out⟩).below hbc (Nat.le_refl _)
          have hT4 : K.IsNums .i64 wc (.slice pt z3.length ct) T := (show K.IsNums .i64 wr (.slice pt z3.length ct) T from ⟨pt, ct, by rw [hTL], by rw [hTL]; exact HT.out⟩).below hbc (Nat.le_refl _)
          have hb10 := hb9.trans (hbc.mono hb9.size)
          have HM5 := Lib.hid hM4
          have HT5 := Lib.hid hT4
          clear hM4 hT4 hcall hb9 hbc
          go_loop [14] (fun i => ∃ j : Nat, j ≤ z3.length ∧ i = .int .i64 (a1 + 1 + j)) (fun i => (z3.length + a1 + 1 - intOf i).toNat)
          case atStart => exact ⟨0, by omega, by simp⟩
          case round =>
            obtain ⟨j, hj, rfl⟩ := hrel
            by_cases hlt : j < z3.length
            · go_wp2
              go_loop [15, 16] (fun n i => ∃ k : Nat, k ≤ z2.length ∧ i = .int .i64 k ∧ n = .int .i64 (cnt (a1 + 1 + j) (M.take k))) (fun _ i => z2.length - (intOf i).toNat)
              case atStart => exact ⟨0, by omega, rfl, rfl⟩
              case round =>
                obtain ⟨k, hk, rfl, rfl⟩ := hrel
                have hcl := cnt_le (a1 + 1 + j) (M.take k)
                have hcl2 : (M.take k).length ≤ k := List.length_take_le _ _
                by_cases hlt2 : k < z2.length
                · obtain ⟨pm', cm', hpm, h0 | ⟨b, off, hpp, hblk, hcell⟩⟩ := HM5.out
                  · omega
                  injection hpm with e1 e2 e3
                  rw [← e1] at hpp
                  clear e1 e2 e3
                  subst hpp
                  have hc := hcell k (by omega)
                  have hsn : cnt (a1 + 1 + j) (M.take (k + 1)) = cnt (a1 + 1 + j) (M.take k) + if a1 + 1 + j ≤ M.getD k 0 then 1 else 0 := by
                    rw [List.take_succ_eq_append_getElem (by omega), cnt_snoc]; simp [List.getD, show k < M.length by omega]
                  obtain ⟨x, hx⟩ : ∃ x, M.getD k 0 = x := ⟨_, rfl⟩
                  rw [hx] at hc hsn
                  have HS := Lib.hid hsn
                  clear hcell hx hsn
                  by_cases hge : a1 + 1 + j ≤ x
                  · go_wp2
                    go_round
                    case rel => exact ⟨k + 1, by omega, by go_num, by rw [HS.out, if_pos hge]; go_num⟩
                    case measure => simp [intOf]; omega
                  · go_wp2
                    go_round
                    case rel => exact ⟨k + 1, by omega, by go_num, by rw [HS.out, if_neg hge]; rfl⟩
                    case measure => simp [intOf]; omega
                · obtain rfl : k = z2.length := by omega
                  have hMt : M.take z2.length = M := List.take_of_length_le (by omega)
                  rw [hMt] at hcl ⊢
                  obtain ⟨q1, q2⟩ := O3.out j hlt
                  unfold mayB at q1 q2
                  rw [hML] at q1 q2
                  generalize cnt (a1 + 1 + j) M = N at hcl q1 q2 ⊢
                  obtain ⟨pt', ct', hpt, h0 | ⟨b, off, hpp, hblk, hcell⟩⟩ := HT5.out
                  · omega
                  injection hpt with e1 e2 e3
                  rw [← e1] at hpp
                  clear e1 e2 e3
                  subst hpp
                  have hc := hcell j (by omega)
                  obtain ⟨x, hx⟩ : ∃ x, T.getD j 0 = x := ⟨_, rfl⟩
                  rw [hx] at hc q1 q2
                  have HX := Lib.hid hx
                  have ei : a1 + 1 + (j : Int) - a1 - 1 = j := by omega
                  clear hcell hx
                  rcases Int.lt_trichotomy C (a1 + 1 + j) with h6 | h6 | h6
                  · have hno := q1 h6
                    have hCb : (a1 + 1 + (j : Int) == C) = false := by rw [beq_eq_false_iff_ne]; omega
                    clear q1 q2
                    by_cases hN : z2.length < 2 * N
                    · have hE : (x == a0 % 4) = false := by rw [beq_eq_false_iff_ne]; exact fun e => hno ⟨hN, e⟩
                      clear hno
                      go_wp2
                      go_round
                      case rel => exact ⟨j + 1, by omega, by go_num⟩
                      case measure => simp [intOf]; omega
                    · clear hno
                      go_wp2
                      go_round
                      case rel => exact ⟨j + 1, by omega, by go_num⟩
                      case measure => simp [intOf]; omega
                  · obtain ⟨hN, hE0⟩ := q2 h6
                    have hE : (x == a0 % 4) = true := by rw [beq_iff_eq]; exact hE0
                    clear q1 q2 hE0
                    subst h6
                    go_wp2
                    go_round
                    case rel => exact ⟨j + 1, by omega, by go_num⟩
                    case measure => simp [intOf]; omega
                  · have hCb : (a1 + 1 + (j : Int) == C) = false := by rw [beq_eq_false_iff_ne]; omega
                    clear q1 q2
                    by_cases hN : z2.length < 2 * N
                    · by_cases hE0 : x = a0 % 4
                      · have hE : (x == a0 % 4) = true := by rw [beq_iff_eq]; exact hE0
                        clear hE0
                        go_wp2
                        go_round
                        case rel => exact ⟨j + 1, by omega, by go_num⟩
                        case measure => simp [intOf]; omega
                      · have hE : (x == a0 % 4) = false := by rw [beq_eq_false_iff_ne]; exact hE0
                        clear hE0
                        go_wp2
                        go_round
                        case rel => exact ⟨j + 1, by omega, by go_num⟩
                        case measure => simp [intOf]; omega
                    · go_wp2
                      go_round
                      case rel => exact ⟨j + 1, by omega, by go_num⟩
                      case measure => simp [intOf]; omega
            · go_wp2
              go_ret
              exact ⟨rfl, hb10⟩

end Go.Proofs.Ytkckinhbbnochaa
