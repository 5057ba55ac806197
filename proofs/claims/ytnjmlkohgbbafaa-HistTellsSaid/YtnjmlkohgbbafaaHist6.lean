/- hist.Right; mementoref13.SameHist of what is alike. -/
import Derived.Test.YtnjmlkohgbbafaaHist5
namespace Go.Proofs.Ytnjmlkohgbbafaa.K
open Go.ChangeShapes Go.WideShapes Go.ChangeAt Go.RowKit
set_option linter.unusedVariables false

theorem exec_convH {P : Program} {ev : Operand → Value} {o : Oper} {W : World} (s d : TypeId) (x : Operand) (ho : o.op = .convert s d x) (v r : Value) (hx : ev x = v) (hr : (convert s d v).run P W = .ok r W) : (execOp ev o).run P W = .ok (.value r) W := by
  unfold execOp
  simp only [ho, hx, Sem.run_bind, hr, Result.andThen_ok]
  rfl
theorem right_yes' (s : Int) (w : World) (h1 : 1 ≤ s) (h2 : s ≤ 1099511627776) : Calls Try.prog 50 #[.int .i64 s] w fun e w' => e = .returned (.bool true) ∧ w' = w :=
  (right_yes s w h1 h2).mono fun _ _ ⟨a, b⟩ => ⟨a, b.symm⟩
theorem right_no' (s : Int) (w : World) (h : ¬ (1 ≤ s ∧ s ≤ 1099511627776)) : Calls Try.prog 50 #[.int .i64 s] w fun e w' => e = .returned (.bool false) ∧ w' = w :=
  (right_no s w h).mono fun _ _ ⟨a, b⟩ => ⟨a, b.symm⟩

set_option maxRecDepth 100000 in
set_option maxHeartbeats 1000000 in
theorem same_any (w : World) (v u : Value) (ks : List (Int × List Int)) (hv : Vers w v ks) (hu : Vers w u ks) (hn : ks.length ≤ 1000000) :
    Calls Try.prog 28 #[v, u] w fun e w' => e = .returned (.bool true) ∧ Below w.heap.size w w' := by
  obtain ⟨a1, c1, rfl, hc1⟩ := hv.len
  obtain ⟨a2, c2, rfl, hc2⟩ := hu.len
  have HV := Lib.hid hv
  have HU := Lib.hid hu
  clear hv hu
  go_enter Try.func28, Try.ntmps28
  go_wp2
  go_loopw [5] (fun i wr => ∃ k : Nat, k ≤ ks.length ∧ i = .int .i64 k ∧ Below w.heap.size w wr) (fun i _ => ks.length - (intOf i).toNat)
  case atStart => exact ⟨0, Nat.zero_le _, rfl, Below.refl _ _⟩
  case round =>
    obtain ⟨k, hk, rfl, hbel⟩ := hrel
    by_cases hlt : k < ks.length
    · obtain ⟨b1, o1, c1', u1, e1, hb1, -, hs1, hd1, hn1⟩ := HV.out.cell k hlt
      obtain ⟨b2, o2, c2', u2, e2, hb2, -, hs2, hd2, hn2⟩ := HU.out.cell k hlt
      injection e1 with e1 q1 q2
      injection e2 with e2 q3 q4
      subst e1 e2
      clear q1 q2 q3 q4
      obtain ⟨s, hs⟩ : ∃ s, (ks.getD k (0, [])).1 = s := ⟨_, rfl⟩
      obtain ⟨d, hd⟩ : ∃ d, (ks.getD k (0, [])).2 = d := ⟨_, rfl⟩
      rw [hs] at hs1 hs2
      rw [hd] at hn1 hn2
      obtain ⟨p1, c3, rfl, -⟩ := id hn1
      obtain ⟨p2, c4, rfl, -⟩ := id hn2
      have hwr : Below w.heap.size w wr.drew := hbel.drew
      have keep : ∀ W, Keep (fun _ => False) wr.drew W → ∀ x v, x.block < w.heap.size → w.cell? x = some v → W.cell? x = some v := fun W hW x v hx hv => by
        rw [hW.cell (fun h => h) (Nat.lt_of_lt_of_le hx hwr.size), hwr.cell hx]; exact hv
      have nums : ∀ W, Keep (fun _ => False) wr.drew W → ∀ v, IsNums .u8 w v d → (convert 27 9 v).run Try.prog W = .ok (.string (strOfNums d)) W := fun W hW v hv =>
        conv_str (P := Try.prog) (hv.below (hwr.trans (hW.below (N := w.heap.size) (fun _ h => h.elim) hwr.size)) (Nat.le_refl _)) 27 5 Try.underlying27 Try.underlying5 9 Try.underlying9
      have HS1 := Lib.hid (fun W hW => keep W hW _ _ hb1 hs1)
      have HS2 := Lib.hid (fun W hW => keep W hW _ _ hb2 hs2)
      have HD1 := Lib.hid (fun W hW => keep W hW _ _ hb1 hd1)
      have HD2 := Lib.hid (fun W hW => keep W hW _ _ hb2 hd2)
      have HV1 := Lib.hid (fun W hW => nums W hW _ hn1)
      have HV2 := Lib.hid (fun W hW => nums W hW _ hn2)
      have HBL := Lib.hid hbel
      have hkI : (k : Int) < ks.length := by omega
      have hkM : (k : Int) ≤ 1000000 := by omega
      clear hs1 hs2 hd1 hd2 hn1 hn2 keep nums hwr hbel hs hd
      go_wp2_with fail
      refine regionE_begin 25 (fun W => Keep (fun _ => False) wr.drew W) (by kernel_rfl) ?_
      refine stepE_any 0 (some 17) (v := ?vs0) (fun _ => Keep.refl _ _) rfl (by rfl) (by kernel_rfl) (by kernel_rfl) (by kernel_rfl) (by decide) (fun _ _ _ h => h) (by rfl) ?ys0 ?ns0
      case ys0 => intro W; go_simp; try with_reducible rfl
      try simp only [Act.put, List.setIfInBounds_toArray, List.set_cons_zero, List.set_cons_succ]
      refine stepE_any 1 (some 18) (v := ?vs1) (fun _ => Keep.refl _ _) rfl (by rfl) (by kernel_rfl) (by kernel_rfl) (by kernel_rfl) (by decide) (fun _ _ _ h => h) (by rfl) ?ys1 ?ns1
      case ys1 => intro W; go_simp; try with_reducible rfl
      try simp only [Act.put, List.setIfInBounds_toArray, List.set_cons_zero, List.set_cons_succ]
      refine stepE_any 2 (some 19) (v := ?vs2) (fun _ => Keep.refl _ _) rfl (by rfl) (by kernel_rfl) (by kernel_rfl) (by kernel_rfl) (by decide) (fun _ _ _ h => h) (by rfl) ?ys2 ?ns2
      case ys2 => intro W; go_simp; try with_reducible rfl
      try simp only [Act.put, List.setIfInBounds_toArray, List.set_cons_zero, List.set_cons_succ]
      refine stepE_any 3 (some 20) (v := ?vs3) (fun _ => Keep.refl _ _) rfl (by rfl) (by kernel_rfl) (by kernel_rfl) (by kernel_rfl) (by decide) (fun _ _ _ h => h) (by rfl) ?ys3 ?ns3
      case ys3 => intro W; go_simp; try with_reducible rfl
      try simp only [Act.put, List.setIfInBounds_toArray, List.set_cons_zero, List.set_cons_succ]
      refine stepE_read 4 28 (some 21) (v := ?vs4) (Keep.refl _ _) rfl (by rfl) (by kernel_rfl) (by kernel_rfl) (by kernel_rfl) (by kernel_rfl) (by kernel_rfl) (fun _ _ _ h => h) (by rfl) ?ys4 ?ns4
      case ys4 => intro W hW; have q := HS1.out W hW; go_simp; try with_reducible rfl
      try simp only [Act.put, List.setIfInBounds_toArray, List.set_cons_zero, List.set_cons_succ]
      refine stepE_any 5 (some 22) (v := ?vs5) (fun _ => Keep.refl _ _) rfl (by rfl) (by kernel_rfl) (by kernel_rfl) (by kernel_rfl) (by decide) (fun _ _ _ h => h) (by rfl) ?ys5 ?ns5
      case ys5 => intro W; go_simp; try with_reducible rfl
      try simp only [Act.put, List.setIfInBounds_toArray, List.set_cons_zero, List.set_cons_succ]
      refine stepE_any 6 (some 23) (v := ?vs6) (fun _ => Keep.refl _ _) rfl (by rfl) (by kernel_rfl) (by kernel_rfl) (by kernel_rfl) (by decide) (fun _ _ _ h => h) (by rfl) ?ys6 ?ns6
      case ys6 => intro W; go_simp; try with_reducible rfl
      try simp only [Act.put, List.setIfInBounds_toArray, List.set_cons_zero, List.set_cons_succ]
      refine stepE_any 7 (some 24) (v := ?vs7) (fun _ => Keep.refl _ _) rfl (by rfl) (by kernel_rfl) (by kernel_rfl) (by kernel_rfl) (by decide) (fun _ _ _ h => h) (by rfl) ?ys7 ?ns7
      case ys7 => intro W; go_simp; try with_reducible rfl
      try simp only [Act.put, List.setIfInBounds_toArray, List.set_cons_zero, List.set_cons_succ]
      refine stepE_any 8 (some 25) (v := ?vs8) (fun _ => Keep.refl _ _) rfl (by rfl) (by kernel_rfl) (by kernel_rfl) (by kernel_rfl) (by decide) (fun _ _ _ h => h) (by rfl) ?ys8 ?ns8
      case ys8 => intro W; go_simp; try with_reducible rfl
      try simp only [Act.put, List.setIfInBounds_toArray, List.set_cons_zero, List.set_cons_succ]
      refine stepE_read 9 28 (some 26) (v := ?vs9) (Keep.refl _ _) rfl (by rfl) (by kernel_rfl) (by kernel_rfl) (by kernel_rfl) (by kernel_rfl) (by kernel_rfl) (fun _ _ _ h => h) (by rfl) ?ys9 ?ns9
      case ys9 => intro W hW; have q := HS2.out W hW; go_simp; try with_reducible rfl
      try simp only [Act.put, List.setIfInBounds_toArray, List.set_cons_zero, List.set_cons_succ]
      refine stepE_any 10 (some 27) (v := ?vs10) (fun _ => Keep.refl _ _) rfl (by rfl) (by kernel_rfl) (by kernel_rfl) (by kernel_rfl) (by decide) (fun _ _ _ h => h) (by rfl) ?ys10 ?ns10
      case ys10 => intro W; go_simp; try with_reducible rfl
      try simp only [Act.put, List.setIfInBounds_toArray, List.set_cons_zero, List.set_cons_succ]
      refine stepE_any 11 (some 28) (v := ?vs11) (fun _ => Keep.refl _ _) rfl (by rfl) (by kernel_rfl) (by kernel_rfl) (by kernel_rfl) (by decide) (fun _ _ _ h => h) (by rfl) ?ys11 ?ns11
      case ys11 => intro W; go_simp; try with_reducible rfl
      try simp only [Act.put, List.setIfInBounds_toArray, List.set_cons_zero, List.set_cons_succ]
      refine stepE_any 12 (some 29) (v := ?vs12) (fun _ => Keep.refl _ _) rfl (by rfl) (by kernel_rfl) (by kernel_rfl) (by kernel_rfl) (by decide) (fun _ _ _ h => h) (by rfl) ?ys12 ?ns12
      case ys12 => intro W; go_simp; try with_reducible rfl
      try simp only [Act.put, List.setIfInBounds_toArray, List.set_cons_zero, List.set_cons_succ]
      refine stepE_any 13 (some 30) (v := ?vs13) (fun _ => Keep.refl _ _) rfl (by rfl) (by kernel_rfl) (by kernel_rfl) (by kernel_rfl) (by decide) (fun _ _ _ h => h) (by rfl) ?ys13 ?ns13
      case ys13 => intro W; go_simp; try with_reducible rfl
      try simp only [Act.put, List.setIfInBounds_toArray, List.set_cons_zero, List.set_cons_succ]
      refine stepE_any 14 (some 31) (v := ?vs14) (fun _ => Keep.refl _ _) rfl (by rfl) (by kernel_rfl) (by kernel_rfl) (by kernel_rfl) (by decide) (fun _ _ _ h => h) (by rfl) ?ys14 ?ns14
      case ys14 => intro W; go_simp; try with_reducible rfl
      try simp only [Act.put, List.setIfInBounds_toArray, List.set_cons_zero, List.set_cons_succ]
      refine stepE_any 15 (some 32) (v := ?vs15) (fun _ => Keep.refl _ _) rfl (by rfl) (by kernel_rfl) (by kernel_rfl) (by kernel_rfl) (by decide) (fun _ _ _ h => h) (by rfl) ?ys15 ?ns15
      case ys15 => intro W; go_simp; try with_reducible rfl
      try simp only [Act.put, List.setIfInBounds_toArray, List.set_cons_zero, List.set_cons_succ]
      refine stepE_read 16 28 (some 33) (v := ?vs16) (Keep.refl _ _) rfl (by rfl) (by kernel_rfl) (by kernel_rfl) (by kernel_rfl) (by kernel_rfl) (by kernel_rfl) (fun _ _ _ h => h) (by rfl) ?ys16 ?ns16
      case ys16 => intro W hW; have q := HD1.out W hW; go_simp; try with_reducible rfl
      try simp only [Act.put, List.setIfInBounds_toArray, List.set_cons_zero, List.set_cons_succ]
      refine stepE_read 17 28 (some 34) (v := ?vs17) (Keep.refl _ _) rfl (by rfl) (by kernel_rfl) (by kernel_rfl) (by kernel_rfl) (by kernel_rfl) (by kernel_rfl) (fun _ _ _ h => h) (by rfl) ?ys17 ?ns17
      case ys17 => intro W hW; ((refine exec_convH 27 9 (.tmp 33) ?_ _ (.string (strOfNums d)) ?_ (HV1.out W hW)); rfl; rfl)
      try simp only [Act.put, List.setIfInBounds_toArray, List.set_cons_zero, List.set_cons_succ]
      refine stepE_any 18 (some 35) (v := ?vs18) (fun _ => Keep.refl _ _) rfl (by rfl) (by kernel_rfl) (by kernel_rfl) (by kernel_rfl) (by decide) (fun _ _ _ h => h) (by rfl) ?ys18 ?ns18
      case ys18 => intro W; go_simp; try with_reducible rfl
      try simp only [Act.put, List.setIfInBounds_toArray, List.set_cons_zero, List.set_cons_succ]
      refine stepE_any 19 (some 36) (v := ?vs19) (fun _ => Keep.refl _ _) rfl (by rfl) (by kernel_rfl) (by kernel_rfl) (by kernel_rfl) (by decide) (fun _ _ _ h => h) (by rfl) ?ys19 ?ns19
      case ys19 => intro W; go_simp; try with_reducible rfl
      try simp only [Act.put, List.setIfInBounds_toArray, List.set_cons_zero, List.set_cons_succ]
      refine stepE_any 20 (some 37) (v := ?vs20) (fun _ => Keep.refl _ _) rfl (by rfl) (by kernel_rfl) (by kernel_rfl) (by kernel_rfl) (by decide) (fun _ _ _ h => h) (by rfl) ?ys20 ?ns20
      case ys20 => intro W; go_simp; try with_reducible rfl
      try simp only [Act.put, List.setIfInBounds_toArray, List.set_cons_zero, List.set_cons_succ]
      refine stepE_any 21 (some 38) (v := ?vs21) (fun _ => Keep.refl _ _) rfl (by rfl) (by kernel_rfl) (by kernel_rfl) (by kernel_rfl) (by decide) (fun _ _ _ h => h) (by rfl) ?ys21 ?ns21
      case ys21 => intro W; go_simp; try with_reducible rfl
      try simp only [Act.put, List.setIfInBounds_toArray, List.set_cons_zero, List.set_cons_succ]
      refine stepE_read 22 28 (some 39) (v := ?vs22) (Keep.refl _ _) rfl (by rfl) (by kernel_rfl) (by kernel_rfl) (by kernel_rfl) (by kernel_rfl) (by kernel_rfl) (fun _ _ _ h => h) (by rfl) ?ys22 ?ns22
      case ys22 => intro W hW; have q := HD2.out W hW; go_simp; try with_reducible rfl
      try simp only [Act.put, List.setIfInBounds_toArray, List.set_cons_zero, List.set_cons_succ]
      refine stepE_read 23 28 (some 40) (v := ?vs23) (Keep.refl _ _) rfl (by rfl) (by kernel_rfl) (by kernel_rfl) (by kernel_rfl) (by kernel_rfl) (by kernel_rfl) (fun _ _ _ h => h) (by rfl) ?ys23 ?ns23
      case ys23 => intro W hW; ((refine exec_convH 27 9 (.tmp 39) ?_ _ (.string (strOfNums d)) ?_ (HV2.out W hW)); rfl; rfl)
      try simp only [Act.put, List.setIfInBounds_toArray, List.set_cons_zero, List.set_cons_succ]
      refine stepE_any 24 (some 41) (v := ?vs24) (fun _ => Keep.refl _ _) rfl (by rfl) (by kernel_rfl) (by kernel_rfl) (by kernel_rfl) (by decide) (fun _ _ _ h => h) (by rfl) ?ys24 ?ns24
      case ys24 => intro W; go_simp; try with_reducible rfl
      try simp only [Act.put, List.setIfInBounds_toArray, List.set_cons_zero, List.set_cons_succ]
      -- 25: pick -> 42
      refine stepE_end 25 rfl (by kernel_rfl) (by rfl) (by rfl) (fun K' hK => ?_)
      go_simp
      refine hK _ _ ?_
      clear hK K'
      refine wpAnyE_done (by kernel_rfl) ?_ _
      go_wp2
      go_roundw
      case rel => exact ⟨k + 1, by omega, by go_num, HBL.out.trans ⟨rfl, rfl, rfl, Nat.le_refl _, fun _ _ => rfl⟩⟩
      case measure => simp [intOf]; omega
    · obtain rfl : k = ks.length := by omega
      go_wp2
      go_ret
      exact ⟨rfl, hbel⟩

set_option maxRecDepth 100000 in
set_option maxHeartbeats 1000000 in
theorem rights_any (w : World) (v : Value) (ks : List (Int × List Int)) (hv : Vers w v ks) (hr : Rising (seqs ks)) (h1 : ∀ i, i < ks.length → 1 ≤ (seqs ks).getD i 0 ∧ (seqs ks).getD i 0 ≤ 1099511627776) (hn : ks.length ≤ 1000000) :
    Calls Try.prog 23 #[v] w fun e w' => e = .returned (.bool true) ∧ Below w.heap.size w w' := by
  obtain ⟨a1, c1, rfl, hc1⟩ := hv.len
  have HV := Lib.hid hv
  have HR := Lib.hid hr
  have H1 := Lib.hid h1
  clear hv hr h1
  go_enter Try.func23, Try.ntmps23
  go_wp2
  go_loopw [7] (fun i wr => ∃ k : Nat, k ≤ ks.length ∧ i = .int .i64 k ∧ Below w.heap.size w wr) (fun i _ => ks.length - (intOf i).toNat)
  case atStart => exact ⟨0, Nat.zero_le _, rfl, Below.refl _ _⟩
  case round =>
    obtain ⟨k, hk, rfl, hbel⟩ := hrel
    by_cases hlt : k < ks.length
    · obtain ⟨b1, o1, c1', u1, e1, hb1, -, hs1, hd1, hn1⟩ := HV.out.cell k hlt
      injection e1 with e1 q1 q2
      subst e1
      clear q1 q2
      have hb9 := H1.out k hlt
      rw [seqs_get ks k hlt] at hb9
      obtain ⟨s, hs⟩ : ∃ s, (ks.getD k (0, [])).1 = s := ⟨_, rfl⟩
      have hprev : ∀ j, k = j + 1 → (ks.getD j (0, [])).1 < s := fun j hj => by
        have := HR.out j k (by omega) (by rw [seqs_len]; exact hlt)
        rw [seqs_get ks j (by omega), seqs_get ks k hlt, hs] at this
        exact this
      rw [hs] at hs1 hb9
      have hrr : wr.rangeAt b1 (o1 + k * 2) [.int .i64 s, u1] := fun j x hj => by
        rw [hbel.cell hb1]
        match j, hj with
        | 0, hj => simp at hj; subst hj; rw [Nat.add_zero]; exact hs1
        | 1, hj => simp at hj; subst hj; exact hd1
      have hone : ∀ x ∈ ([.int .i64 s, u1] : List Value), x.oneCell' = true := by
        obtain ⟨a, c, hu, -⟩ := hn1
        intro x hx
        simp only [List.mem_cons, List.not_mem_nil, or_false] at hx
        rcases hx with rfl | rfl
        · rfl
        · rw [hu]; rfl
      have HRR := Lib.hid hrr
      have HONE := Lib.hid hone
      have HBL := Lib.hid hbel
      have HPREV := Lib.hid hprev
      have hs1' := hb9.1
      have hs2' := hb9.2
      have HINF : Hid ((Try.prog.info? 54).map (·.size) = some ([.int .i64 s, u1] : List Value).length) := Lib.hid infoVr
      clear hs1 hd1 hn1 hb9 hrr hone hbel hprev hs
      go_wp2_with (first | ((with_reducible refine wpList_loadM (.tmp 10) b1 (o1 + k * 2) [.int .i64 s, u1] _ HRR.out Try.underlying54 rfl ?_ ?_ ?_); exact HINF.out; exact rfl) | ((with_reducible refine wpList_storeN (.tmp 4) (.tmp 11) [.int .i64 s, u1] HONE.out ?_ ?_ ?_ ?_ ?_); exact HINF.out; exact rfl; exact rfl; exact rfl; intro w2 hb2 hbl2 hz2; have HZ2 := Lib.hid hz2; have HB2 := Lib.hid hb2; have HBL2 := Lib.hid hbl2; clear hz2 hb2 hbl2))
      have hsq : ∀ W, Keep (fun _ => False) w2.drew W → W.cell? ⟨wr.heap.size, 0, none⟩ = some (.int .i64 s) := fun W hW => by
        rw [hW.cell (fun h => h) (show wr.heap.size < w2.drew.heap.size from HB2.out.lt)]; exact HB2.out.cell 0
      have HSQ := Lib.hid hsq
      clear hsq
      rcases k with _ | j
      · rw [show ((0 : Nat) : Int) = 0 from rfl]
        go_wp2_with fail
        refine regionE_begin 18 (fun W => Keep (fun _ => False) w2.drew W) (by kernel_rfl) ?_
        refine stepE_any 0 (some 12) (v := ?vp0) (fun _ => Keep.refl _ _) rfl (by rfl) (by kernel_rfl) (by kernel_rfl) (by kernel_rfl) (by decide) (fun _ _ _ h => h) (by rfl) ?yp0 ?np0
        case yp0 => intro W; go_simp; try with_reducible rfl
        try simp only [Act.put, List.setIfInBounds_toArray, List.set_cons_zero, List.set_cons_succ]
        refine stepE_read 1 24 (some 13) (v := ?vp1) (Keep.refl _ _) rfl (by rfl) (by kernel_rfl) (by kernel_rfl) (by kernel_rfl) (by kernel_rfl) (by kernel_rfl) (fun _ _ _ h => h) (by rfl) ?yp1 ?np1
        case yp1 => intro W hW; have q := HSQ.out W hW; go_simp; try with_reducible rfl
        try simp only [Act.put, List.setIfInBounds_toArray, List.set_cons_zero, List.set_cons_succ]
        -- 2: call:50 -> 14
        refine stepE_only 2 rfl (by kernel_rfl) (by rfl) (fun K' hK => ?_)
        go_simp
        refine (right_yes s _ hs1' hs2').mono ?_
        rintro e w9 ⟨rfl, rfl⟩
        refine hK _ _ (Keep.refl _ _) ?_
        clear hK K'
        try simp only [Act.put, List.setIfInBounds_toArray, List.set_cons_zero, List.set_cons_succ]
        refine stepE_any 3 (some 15) (v := ?vp3) (fun _ => Keep.refl _ _) rfl (by rfl) (by kernel_rfl) (by kernel_rfl) (by kernel_rfl) (by decide) (fun _ _ _ h => h) (by rfl) ?yp3 ?np3
        case yp3 => intro W; go_simp; try with_reducible rfl
        try simp only [Act.put, List.setIfInBounds_toArray, List.set_cons_zero, List.set_cons_succ]
        refine stepE_any 4 (some 16) (v := ?vp4) (fun _ => Keep.refl _ _) rfl (by rfl) (by kernel_rfl) (by kernel_rfl) (by kernel_rfl) (by decide) (fun _ _ _ h => h) (by rfl) ?yp4 ?np4
        case yp4 => intro W; go_simp; try with_reducible rfl
        try simp only [Act.put, List.setIfInBounds_toArray, List.set_cons_zero, List.set_cons_succ]
        refine stepE_any 5 (some 17) (v := ?vp5) (fun _ => Keep.refl _ _) rfl (by rfl) (by kernel_rfl) (by kernel_rfl) (by kernel_rfl) (by decide) (fun _ _ _ h => h) (by rfl) ?yp5 ?np5
        case yp5 => intro W; go_simp; try with_reducible rfl
        try simp only [Act.put, List.setIfInBounds_toArray, List.set_cons_zero, List.set_cons_succ]
        refine stepE_any 6 (some 18) (v := ?vp6) (fun _ => Keep.refl _ _) rfl (by rfl) (by kernel_rfl) (by kernel_rfl) (by kernel_rfl) (by decide) (fun _ _ _ h => h) (by rfl) ?yp6 ?np6
        case yp6 => intro W; go_simp; try with_reducible rfl
        try simp only [Act.put, List.setIfInBounds_toArray, List.set_cons_zero, List.set_cons_succ]
        refine stepE_any 7 (some 19) (v := ?vp7) (fun _ => Keep.refl _ _) rfl (by rfl) (by kernel_rfl) (by kernel_rfl) (by kernel_rfl) (by decide) (fun _ _ _ h => h) (by rfl) ?yp7 ?np7
        case yp7 => intro W; go_simp; try with_reducible rfl
        try simp only [Act.put, List.setIfInBounds_toArray, List.set_cons_zero, List.set_cons_succ]
        refine stepE_skip 8 (some 20) (fun _ => Keep.refl _ _) rfl (by rfl) (by kernel_rfl) (by kernel_rfl) (by kernel_rfl) (by decide) (fun _ _ _ h => h) (by rfl) ?_
        try simp only [Act.put, List.setIfInBounds_toArray, List.set_cons_zero, List.set_cons_succ]
        refine stepE_skip 9 (some 21) (fun _ => Keep.refl _ _) rfl (by rfl) (by kernel_rfl) (by kernel_rfl) (by kernel_rfl) (by decide) (fun _ _ _ h => h) (by rfl) ?_
        try simp only [Act.put, List.setIfInBounds_toArray, List.set_cons_zero, List.set_cons_succ]
        refine stepE_skip 10 (some 22) (fun _ => Keep.refl _ _) rfl (by rfl) (by kernel_rfl) (by kernel_rfl) (by kernel_rfl) (by decide) (fun _ _ _ h => h) (by rfl) ?_
        try simp only [Act.put, List.setIfInBounds_toArray, List.set_cons_zero, List.set_cons_succ]
        refine stepE_skip 11 (some 23) (fun _ => Keep.refl _ _) rfl (by rfl) (by kernel_rfl) (by kernel_rfl) (by kernel_rfl) (by decide) (fun _ _ _ h => h) (by rfl) ?_
        try simp only [Act.put, List.setIfInBounds_toArray, List.set_cons_zero, List.set_cons_succ]
        refine stepE_skip 12 (some 24) (fun _ => Keep.refl _ _) rfl (by rfl) (by kernel_rfl) (by kernel_rfl) (by kernel_rfl) (by decide) (fun _ _ _ h => h) (by rfl) ?_
        try simp only [Act.put, List.setIfInBounds_toArray, List.set_cons_zero, List.set_cons_succ]
        refine stepE_skip 13 (some 25) (fun _ => Keep.refl _ _) rfl (by rfl) (by kernel_rfl) (by kernel_rfl) (by kernel_rfl) (by decide) (fun _ _ _ h => h) (by rfl) ?_
        try simp only [Act.put, List.setIfInBounds_toArray, List.set_cons_zero, List.set_cons_succ]
        refine stepE_skip 14 (some 26) (fun _ => Keep.refl _ _) rfl (by rfl) (by kernel_rfl) (by kernel_rfl) (by kernel_rfl) (by decide) (fun _ _ _ h => h) (by rfl) ?_
        try simp only [Act.put, List.setIfInBounds_toArray, List.set_cons_zero, List.set_cons_succ]
        refine stepE_skip 15 (some 27) (fun _ => Keep.refl _ _) rfl (by rfl) (by kernel_rfl) (by kernel_rfl) (by kernel_rfl) (by decide) (fun _ _ _ h => h) (by rfl) ?_
        try simp only [Act.put, List.setIfInBounds_toArray, List.set_cons_zero, List.set_cons_succ]
        refine stepE_skip 16 (some 28) (fun _ => Keep.refl _ _) rfl (by rfl) (by kernel_rfl) (by kernel_rfl) (by kernel_rfl) (by decide) (fun _ _ _ h => h) (by rfl) ?_
        try simp only [Act.put, List.setIfInBounds_toArray, List.set_cons_zero, List.set_cons_succ]
        refine stepE_any 17 (some 29) (v := ?vp17) (fun _ => Keep.refl _ _) rfl (by rfl) (by kernel_rfl) (by kernel_rfl) (by kernel_rfl) (by decide) (fun _ _ _ h => h) (by rfl) ?yp17 ?np17
        case yp17 => intro W; go_simp; try with_reducible rfl
        try simp only [Act.put, List.setIfInBounds_toArray, List.set_cons_zero, List.set_cons_succ]
        -- 18: pick -> 30
        refine stepE_end 18 rfl (by kernel_rfl) (by rfl) (by rfl) (fun K' hK => ?_)
        go_simp
        refine hK _ _ ?_
        clear hK K'
        refine wpAnyE_done (by kernel_rfl) ?_ _
        go_wp2
        go_roundw
        case rel => exact ⟨1, by omega, rfl, HBL.out.trans ((HBL2.out.mono HBL.out.size).trans ⟨rfl, rfl, rfl, Nat.le_refl _, fun _ _ => rfl⟩)⟩
        case measure => simp [intOf]; omega
      · have hpv := HPREV.out j rfl
        obtain ⟨b3, o3, c3, u3, e3, hb3, -, hs3, -, -⟩ := HV.out.cell j (by omega)
        injection e3 with e3 q1 q2
        injection e3 with e3
        injection e3 with e3 e4
        subst e3 e4
        clear q1 q2
        obtain ⟨sp, hsp⟩ : ∃ s, (ks.getD j (0, [])).1 = s := ⟨_, rfl⟩
        rw [hsp] at hs3 hpv
        have hs4 : ∀ W, Keep (fun _ => False) w2.drew W → W.cell? ⟨b1, o1 + j * 2, none⟩ = some (.int .i64 sp) := fun W hW => by
          have h0 : w2.cell? ⟨b1, o1 + j * 2, none⟩ = some (.int .i64 sp) := by rw [HBL2.out.cell (Nat.lt_of_lt_of_le hb1 HBL.out.size), HBL.out.cell hb1]; exact hs3
          have hlt2 : b1 < w2.drew.heap.size := Nat.lt_of_lt_of_le (Nat.lt_of_lt_of_le hb1 HBL.out.size) HBL2.out.size
          rw [hW.cell (fun h => h) hlt2]; exact h0
        have HS4 := Lib.hid hs4
        clear hs4
        have hle : ¬ s ≤ sp := by omega
        have hj0 : (0 : Int) ≤ j := by omega
        have hjl : (j : Int) < ks.length := by omega
        have hjm : (j : Int) ≤ 1000000 := by omega
        have hwj : IntKind.i64.wrap (j : Int) = (j : Int) := IntWalk.i64_in _ (by omega)
        have hwj2 : IntKind.i64.wrap ((j : Int) + 1 - 1) = (j : Int) := by rw [show ((j : Int) + 1 - 1) = (j : Int) by omega]; exact hwj
        clear hs3 hsp hpv
        rw [show ((j + 1 : Nat) : Int) = (j : Int) + 1 by omega]
        go_wp2_with fail
        refine regionE_begin 18 (fun W => Keep (fun _ => False) w2.drew W) (by kernel_rfl) ?_
        refine stepE_any 0 (some 12) (v := ?vq0) (fun _ => Keep.refl _ _) rfl (by rfl) (by kernel_rfl) (by kernel_rfl) (by kernel_rfl) (by decide) (fun _ _ _ h => h) (by rfl) ?yq0 ?nq0
        case yq0 => intro W; go_simp; try with_reducible rfl
        try simp only [Act.put, List.setIfInBounds_toArray, List.set_cons_zero, List.set_cons_succ]
        refine stepE_read 1 24 (some 13) (v := ?vq1) (Keep.refl _ _) rfl (by rfl) (by kernel_rfl) (by kernel_rfl) (by kernel_rfl) (by kernel_rfl) (by kernel_rfl) (fun _ _ _ h => h) (by rfl) ?yq1 ?nq1
        case yq1 => intro W hW; have q := HSQ.out W hW; go_simp; try with_reducible rfl
        try simp only [Act.put, List.setIfInBounds_toArray, List.set_cons_zero, List.set_cons_succ]
        -- 2: call:50 -> 14
        refine stepE_only 2 rfl (by kernel_rfl) (by rfl) (fun K' hK => ?_)
        go_simp
        refine (right_yes s _ hs1' hs2').mono ?_
        rintro e w9 ⟨rfl, rfl⟩
        refine hK _ _ (Keep.refl _ _) ?_
        clear hK K'
        try simp only [Act.put, List.setIfInBounds_toArray, List.set_cons_zero, List.set_cons_succ]
        refine stepE_any 3 (some 15) (v := ?vq3) (fun _ => Keep.refl _ _) rfl (by rfl) (by kernel_rfl) (by kernel_rfl) (by kernel_rfl) (by decide) (fun _ _ _ h => h) (by rfl) ?yq3 ?nq3
        case yq3 => intro W; go_simp; try with_reducible rfl
        try simp only [Act.put, List.setIfInBounds_toArray, List.set_cons_zero, List.set_cons_succ]
        refine stepE_any 4 (some 16) (v := ?vq4) (fun _ => Keep.refl _ _) rfl (by rfl) (by kernel_rfl) (by kernel_rfl) (by kernel_rfl) (by decide) (fun _ _ _ h => h) (by rfl) ?yq4 ?nq4
        case yq4 => intro W; go_simp; try with_reducible rfl
        try simp only [Act.put, List.setIfInBounds_toArray, List.set_cons_zero, List.set_cons_succ]
        refine stepE_any 5 (some 17) (v := ?vq5) (fun _ => Keep.refl _ _) rfl (by rfl) (by kernel_rfl) (by kernel_rfl) (by kernel_rfl) (by decide) (fun _ _ _ h => h) (by rfl) ?yq5 ?nq5
        case yq5 => intro W; go_simp; try with_reducible rfl
        try simp only [Act.put, List.setIfInBounds_toArray, List.set_cons_zero, List.set_cons_succ]
        refine stepE_any 6 (some 18) (v := ?vq6) (fun _ => Keep.refl _ _) rfl (by rfl) (by kernel_rfl) (by kernel_rfl) (by kernel_rfl) (by decide) (fun _ _ _ h => h) (by rfl) ?yq6 ?nq6
        case yq6 => intro W; go_simp; try with_reducible rfl
        try simp only [Act.put, List.setIfInBounds_toArray, List.set_cons_zero, List.set_cons_succ]
        refine stepE_any 7 (some 19) (v := ?vq7) (fun _ => Keep.refl _ _) rfl (by rfl) (by kernel_rfl) (by kernel_rfl) (by kernel_rfl) (by decide) (fun _ _ _ h => h) (by rfl) ?yq7 ?nq7
        case yq7 => intro W; go_simp; try with_reducible rfl
        try simp only [Act.put, List.setIfInBounds_toArray, List.set_cons_zero, List.set_cons_succ]
        refine stepE_any 8 (some 20) (v := ?vq8) (fun _ => Keep.refl _ _) rfl (by rfl) (by kernel_rfl) (by kernel_rfl) (by kernel_rfl) (by decide) (fun _ _ _ h => h) (by rfl) ?yq8 ?nq8
        case yq8 => intro W; go_simp; try with_reducible rfl
        try simp only [Act.put, List.setIfInBounds_toArray, List.set_cons_zero, List.set_cons_succ]
        refine stepE_read 9 24 (some 21) (v := ?vq9) (Keep.refl _ _) rfl (by rfl) (by kernel_rfl) (by kernel_rfl) (by kernel_rfl) (by kernel_rfl) (by kernel_rfl) (fun _ _ _ h => h) (by rfl) ?yq9 ?nq9
        case yq9 => intro W hW; have q := HSQ.out W hW; go_simp; try with_reducible rfl
        try simp only [Act.put, List.setIfInBounds_toArray, List.set_cons_zero, List.set_cons_succ]
        refine stepE_any 10 (some 22) (v := ?vq10) (fun _ => Keep.refl _ _) rfl (by rfl) (by kernel_rfl) (by kernel_rfl) (by kernel_rfl) (by decide) (fun _ _ _ h => h) (by rfl) ?yq10 ?nq10
        case yq10 => intro W; go_simp; try with_reducible rfl
        try simp only [Act.put, List.setIfInBounds_toArray, List.set_cons_zero, List.set_cons_succ]
        refine stepE_any 11 (some 23) (v := ?vq11) (fun _ => Keep.refl _ _) rfl (by rfl) (by kernel_rfl) (by kernel_rfl) (by kernel_rfl) (by decide) (fun _ _ _ h => h) (by rfl) ?yq11 ?nq11
        case yq11 => intro W; go_simp; try with_reducible rfl
        try simp only [Act.put, List.setIfInBounds_toArray, List.set_cons_zero, List.set_cons_succ]
        refine stepE_any 12 (some 24) (v := ?vq12) (fun _ => Keep.refl _ _) rfl (by rfl) (by kernel_rfl) (by kernel_rfl) (by kernel_rfl) (by decide) (fun _ _ _ h => h) (by rfl) ?yq12 ?nq12
        case yq12 => intro W; go_simp; try with_reducible rfl
        try simp only [Act.put, List.setIfInBounds_toArray, List.set_cons_zero, List.set_cons_succ]
        refine stepE_any 13 (some 25) (v := ?vq13) (fun _ => Keep.refl _ _) rfl (by rfl) (by kernel_rfl) (by kernel_rfl) (by kernel_rfl) (by decide) (fun _ _ _ h => h) (by rfl) ?yq13 ?nq13
        case yq13 => intro W; go_simp; try with_reducible rfl
        try simp only [Act.put, List.setIfInBounds_toArray, List.set_cons_zero, List.set_cons_succ]
        refine stepE_any 14 (some 26) (v := ?vq14) (fun _ => Keep.refl _ _) rfl (by rfl) (by kernel_rfl) (by kernel_rfl) (by kernel_rfl) (by decide) (fun _ _ _ h => h) (by rfl) ?yq14 ?nq14
        case yq14 => intro W; go_simp; try with_reducible rfl
        try simp only [Act.put, List.setIfInBounds_toArray, List.set_cons_zero, List.set_cons_succ]
        refine stepE_read 15 24 (some 27) (v := ?vq15) (Keep.refl _ _) rfl (by rfl) (by kernel_rfl) (by kernel_rfl) (by kernel_rfl) (by kernel_rfl) (by kernel_rfl) (fun _ _ _ h => h) (by rfl) ?yq15 ?nq15
        case yq15 => intro W hW; have q := HS4.out W hW; go_simp; try with_reducible rfl
        try simp only [Act.put, List.setIfInBounds_toArray, List.set_cons_zero, List.set_cons_succ]
        refine stepE_any 16 (some 28) (v := ?vq16) (fun _ => Keep.refl _ _) rfl (by rfl) (by kernel_rfl) (by kernel_rfl) (by kernel_rfl) (by decide) (fun _ _ _ h => h) (by rfl) ?yq16 ?nq16
        case yq16 => intro W; go_simp; try with_reducible rfl
        try simp only [Act.put, List.setIfInBounds_toArray, List.set_cons_zero, List.set_cons_succ]
        refine stepE_any 17 (some 29) (v := ?vq17) (fun _ => Keep.refl _ _) rfl (by rfl) (by kernel_rfl) (by kernel_rfl) (by kernel_rfl) (by decide) (fun _ _ _ h => h) (by rfl) ?yq17 ?nq17
        case yq17 => intro W; go_simp; try with_reducible rfl
        try simp only [Act.put, List.setIfInBounds_toArray, List.set_cons_zero, List.set_cons_succ]
        -- 18: pick -> 30
        refine stepE_end 18 rfl (by kernel_rfl) (by rfl) (by rfl) (fun K' hK => ?_)
        go_simp
        refine hK _ _ ?_
        clear hK K'
        refine wpAnyE_done (by kernel_rfl) ?_ _
        go_wp2
        go_roundw
        case rel => exact ⟨j + 1 + 1, by omega, by go_num, HBL.out.trans ((HBL2.out.mono HBL.out.size).trans ⟨rfl, rfl, rfl, Nat.le_refl _, fun _ _ => rfl⟩)⟩
        case measure => simp [intOf]; omega
    · obtain rfl : k = ks.length := by omega
      go_wp2
      go_ret
      exact ⟨rfl, hbel⟩
end Go.Proofs.Ytnjmlkohgbbafaa.K
