/- mementolaw13.known. -/
import Derived.Test.YtnjmlkohgbbafaaHist7
import Derived.Lib.SlBytesConst
namespace Go.Proofs.Ytnjmlkohgbbafaa.K
open Go.ChangeShapes Go.WideShapes Go.ChangeAt Go.RowKit
set_option linter.unusedVariables false

theorem IsNums.litH (w : World) (zs : List Int) (N : Nat) (e : TypeId) (fr : Nat × Nat) (n c : Nat) (hN : N = w.heap.size) (hn : n = zs.length) : IsNums .u8 (w.alloc (.cells (zs.map (Value.int .u8)).toArray e fr)) (.slice (some ⟨N, 0, none⟩) n c) zs := by
  subst hN; subst hn
  refine ⟨_, c, rfl, .inr ⟨_, 0, rfl, by simp, fun j hj => ?_⟩⟩
  unfold World.cell? World.alloc
  simp [hj, List.getD]

theorem cut_25 (t : Int) (c : Nat) (h : c ≤ 2) (h1 : c = 0 → t < 2) (h2 : c = 1 → 2 ≤ t ∧ t < 5) (h3 : c = 2 → 5 ≤ t) : Cut (seqs [(2, [97]), (5, [98])]) t c := by
  have hc : c = 0 ∨ c = 1 ∨ c = 2 := by omega
  refine ⟨by simpa [seqs] using h, fun i hi => ?_, fun i hi hj => ?_⟩
  · have hi2 : i = 0 ∨ i = 1 := by omega
    rcases hi2 with rfl | rfl
    · show (2 : Int) ≤ t
      omega
    · show (5 : Int) ≤ t
      omega
  · have hj2 : i < 2 := by simpa [seqs] using hj
    have hi2 : i = 0 ∨ i = 1 := by omega
    rcases hi2 with rfl | rfl
    · show t < (2 : Int)
      omega
    · show t < (5 : Int)
      omega
theorem rising_25 : Rising (seqs [(2, [97]), (5, [98])]) := by
  intro i j hij hj
  have hj2 : j < 2 := by simpa [seqs] using hj
  obtain rfl : j = 1 := by omega
  obtain rfl : i = 0 := by omega
  decide
theorem ok_25 : ∀ k ∈ ([(2, [97]), (5, [98])] : List (Int × List Int)), KeyOk k := by
  intro k hk
  simp only [List.mem_cons, List.not_mem_nil, or_false] at hk
  rcases hk with rfl | rfl
  · exact ⟨by decide, by decide, by decide, by decide⟩
  · exact ⟨by decide, by decide, by decide, by decide⟩
theorem vers_zero (w : World) (e : TypeId) : Vers (w.alloc (.cells #[.int .i64 0, .slice none 0 0] e)) (.slice (some ⟨w.heap.size, 0, none⟩) 1 1) [(0, [])] := by
  refine ⟨[⟨0, [], .slice none 0 0⟩], rfl, ⟨_, 1, rfl, Nat.le_refl _, .inr ⟨_, 0, rfl, by simp, fun k hk => ?_⟩⟩, fun r hr => ?_⟩
  · have hk0 : k < 1 := hk
    obtain rfl : k = 0 := by omega
    intro j x hj
    unfold World.cell? World.alloc
    match j, hj with
    | 0, hj => simp [VR.cells] at hj ⊢; exact hj
    | 1, hj => simp [VR.cells] at hj ⊢; exact hj
  · simp only [List.mem_cons, List.not_mem_nil, or_false] at hr
    subst hr
    exact ⟨_, 0, rfl, .inl rfl⟩
theorem ok_2 : ∀ k ∈ ([(2, [97])] : List (Int × List Int)), KeyOk k := by
  intro k hk
  simp only [List.mem_cons, List.not_mem_nil, or_false] at hk
  subst hk
  exact ⟨by decide, by decide, by decide, by decide⟩

set_option maxRecDepth 100000 in
set_option maxHeartbeats 1000000 in
theorem right_zero (w : World) (v : Value) (hv : Vers w v [(0, [])]) :
    Calls Try.prog 23 #[v] w fun e w' => e = .returned (.bool false) ∧ Below w.heap.size w w' := by
  obtain ⟨a1, c1, rfl, hc1⟩ := hv.len
  obtain ⟨b1, o1, c1', u1, e1, hb1, -, hs1, hd1, hn1⟩ := hv.cell 0 (by decide)
  injection e1 with e1 q1 q2
  subst e1
  clear q1 q2
  have hrr : w.rangeAt b1 o1 [.int .i64 0, u1] := fun j x hj => by
    match j, hj with
    | 0, hj => simp at hj; subst hj; exact hs1
    | 1, hj => simp at hj; subst hj; exact hd1
  have hone : ∀ x ∈ ([.int .i64 0, u1] : List Value), x.oneCell' = true := by
    obtain ⟨a, c, hu, -⟩ := hn1
    intro x hx
    simp only [List.mem_cons, List.not_mem_nil, or_false] at hx
    rcases hx with rfl | rfl
    · rfl
    · rw [hu]; rfl
  have HRR := Lib.hid hrr
  have HONE := Lib.hid hone
  have HV := Lib.hid hv
  clear hv hs1 hd1 hn1 hrr hone
  have HINF : Hid ((Try.prog.info? 54).map (·.size) = some ([.int .i64 0, u1] : List Value).length) := Lib.hid infoVr
  go_enter Try.func23, Try.ntmps23
  go_wp2
  go_loopw [7] (fun i wr => ∃ k : Nat, k = 0 ∧ i = .int .i64 k ∧ Below w.heap.size w wr) (fun i _ => 1 - (intOf i).toNat)
  case atStart => exact ⟨0, rfl, rfl, Below.refl _ _⟩
  case round =>
    obtain ⟨k, hk, rfl, hbel⟩ := hrel
    have hrk : wr.rangeAt b1 (o1 + k * 2) [.int .i64 0, u1] := fun j x hj => by
      rw [hbel.cell hb1, hk, Nat.zero_mul, Nat.add_zero]; exact HRR.out j x hj
    have HR2 := Lib.hid hrk
    have HBL := Lib.hid hbel
    have HK := Lib.hid hk
    have hlt : k < 1 := by omega
    have hkI : (k : Int) < 1 := by omega
    clear hbel hrk hk
    go_wp2_with (first | ((with_reducible refine wpList_loadM (.tmp 10) b1 (o1 + k * 2) [.int .i64 0, u1] _ HR2.out Try.underlying54 rfl ?_ ?_ ?_); exact HINF.out; exact rfl) | ((with_reducible refine wpList_storeN (.tmp 4) (.tmp 11) [.int .i64 0, u1] HONE.out ?_ ?_ ?_ ?_ ?_); exact HINF.out; exact rfl; exact rfl; exact rfl; intro w2 hb2 hbl2 hz2; have HZ2 := Lib.hid hz2; have HB2 := Lib.hid hb2; have HBL2 := Lib.hid hbl2; clear hz2 hb2 hbl2))
    have hsq : ∀ W, Keep (fun _ => False) w2.drew W → W.cell? ⟨wr.heap.size, 0, none⟩ = some (.int .i64 0) := fun W hW => by
      rw [hW.cell (fun h => h) (show wr.heap.size < w2.drew.heap.size from HB2.out.lt)]; exact HB2.out.cell 0
    have HSQ := Lib.hid hsq
    clear hsq
    refine regionE_begin 18 (fun W => Keep (fun _ => False) w2.drew W) (by kernel_rfl) ?_
    refine stepE_any 0 (some 12) (v := ?vz0) (fun _ => Keep.refl _ _) rfl (by rfl) (by kernel_rfl) (by kernel_rfl) (by kernel_rfl) (by decide) (fun _ _ _ h => h) (by rfl) ?yz0 ?nz0
    case yz0 => intro W; go_simp; try with_reducible rfl
    try simp only [Act.put, List.setIfInBounds_toArray, List.set_cons_zero, List.set_cons_succ]
    refine stepE_read 1 24 (some 13) (v := ?vz1) (Keep.refl _ _) rfl (by rfl) (by kernel_rfl) (by kernel_rfl) (by kernel_rfl) (by kernel_rfl) (by kernel_rfl) (fun _ _ _ h => h) (by rfl) ?yz1 ?nz1
    case yz1 => intro W hW; have q := HSQ.out W hW; go_simp; try with_reducible rfl
    try simp only [Act.put, List.setIfInBounds_toArray, List.set_cons_zero, List.set_cons_succ]
    -- 2: call:50 -> 14
    refine stepE_only 2 rfl (by kernel_rfl) (by rfl) (fun K' hK => ?_)
    go_simp
    refine (right_no' 0 _ (by omega)).mono ?_
    rintro e w9 ⟨rfl, rfl⟩
    refine hK _ _ (Keep.refl _ _) ?_
    clear hK K'
    try simp only [Act.put, List.setIfInBounds_toArray, List.set_cons_zero, List.set_cons_succ]
    refine stepE_any 3 (some 15) (v := ?vz3) (fun _ => Keep.refl _ _) rfl (by rfl) (by kernel_rfl) (by kernel_rfl) (by kernel_rfl) (by decide) (fun _ _ _ h => h) (by rfl) ?yz3 ?nz3
    case yz3 => intro W; go_simp; try with_reducible rfl
    try simp only [Act.put, List.setIfInBounds_toArray, List.set_cons_zero, List.set_cons_succ]
    refine stepE_any 4 (some 16) (v := ?vz4) (fun _ => Keep.refl _ _) rfl (by rfl) (by kernel_rfl) (by kernel_rfl) (by kernel_rfl) (by decide) (fun _ _ _ h => h) (by rfl) ?yz4 ?nz4
    case yz4 => intro W; go_simp; try with_reducible rfl
    try simp only [Act.put, List.setIfInBounds_toArray, List.set_cons_zero, List.set_cons_succ]
    refine stepE_skip 5 (some 17) (fun _ => Keep.refl _ _) rfl (by rfl) (by kernel_rfl) (by kernel_rfl) (by kernel_rfl) (by decide) (fun _ _ _ h => h) (by rfl) ?_
    try simp only [Act.put, List.setIfInBounds_toArray, List.set_cons_zero, List.set_cons_succ]
    refine stepE_skip 6 (some 18) (fun _ => Keep.refl _ _) rfl (by rfl) (by kernel_rfl) (by kernel_rfl) (by kernel_rfl) (by decide) (fun _ _ _ h => h) (by rfl) ?_
    try simp only [Act.put, List.setIfInBounds_toArray, List.set_cons_zero, List.set_cons_succ]
    refine stepE_skip 7 (some 19) (fun _ => Keep.refl _ _) rfl (by rfl) (by kernel_rfl) (by kernel_rfl) (by kernel_rfl) (by decide) (fun _ _ _ h => h) (by rfl) ?_
    try simp only [Act.put, List.setIfInBounds_toArray, List.set_cons_zero, List.set_cons_succ]
    refine stepE_skip 8 (some 20) (fun _ => Keep.refl _ _) rfl (by rfl) (by kernel_rfl) (by kernel_rfl) (by kernel_rfl) (by decide) (fun _ _ _ h => h) (by rfl) ?_
    try simp only [Act.put, List.setIfInBounds_toArray, List.set_cons_zero, List.set_cons_succ]
    refine stepE_skip 9 (some 21) (fun _ => Keep.refl _ _) rfl (by rfl) (by kernel_rfl) (by kernel_rfl) (by kernel_rfl) (by decide) (fun _ _ _ h => h) (by rfl) ?_
    try simp only [Act.put, List.setIfInBounds_toArray, List.set_cons_zero, List.set_cons_succ]
    refine stepE_skip 10 (some 22) (fun _ => Keep.refl _ _) rfl (by rfl) (by kernel_rfl) (by kernel_rfl) (by kernel_rfl) (by decide) (fun _ _ _ h => h) (by rfl) ?_
    try simp only [Act.put, List.setIfInBounds_toArray, List.set_cons_zero, List.set_cons_succ]
    refine stepE_skip 11 (some 23) (fun _ => Keep.refl _ _) rfl (by rfl) (by kernel_rfl) (by kernel_rfl) (by kernel_rfl) (by decide) (fun _ _ _ h => h) (by rfl) ?_
    try simp only [Act.put, List.setIfInBounds_toArray, List.set_cons_zero, List.set_cons_succ]
    refine stepE_skip 12 (some 24) (fun _ => Keep.refl _ _) rfl (by rfl) (by kernel_rfl) (by kernel_rfl) (by kernel_rfl) (by decide) (fun _ _ _ h => h) (by rfl) ?_
    try simp only [Act.put, List.setIfInBounds_toArray, List.set_cons_zero, List.set_cons_succ]
    refine stepE_skip 13 (some 25) (fun _ => Keep.refl _ _) rfl (by rfl) (by kernel_rfl) (by kernel_rfl) (by kernel_rfl) (by decide) (fun _ _ _ h => h) (by rfl) ?_
    try simp only [Act.put, List.setIfInBounds_toArray, List.set_cons_zero, List.set_cons_succ]
    refine stepE_skip 14 (some 26) (fun _ => Keep.refl _ _) rfl (by rfl) (by kernel_rfl) (by kernel_rfl) (by kernel_rfl) (by decide) (fun _ _ _ h => h) (by rfl) ?_
    try simp only [Act.put, List.setIfInBounds_toArray, List.set_cons_zero, List.set_cons_succ]
    refine stepE_skip 15 (some 27) (fun _ => Keep.refl _ _) rfl (by rfl) (by kernel_rfl) (by kernel_rfl) (by kernel_rfl) (by decide) (fun _ _ _ h => h) (by rfl) ?_
    try simp only [Act.put, List.setIfInBounds_toArray, List.set_cons_zero, List.set_cons_succ]
    refine stepE_skip 16 (some 28) (fun _ => Keep.refl _ _) rfl (by rfl) (by kernel_rfl) (by kernel_rfl) (by kernel_rfl) (by decide) (fun _ _ _ h => h) (by rfl) ?_
    try simp only [Act.put, List.setIfInBounds_toArray, List.set_cons_zero, List.set_cons_succ]
    refine stepE_skip 17 (some 29) (fun _ => Keep.refl _ _) rfl (by rfl) (by kernel_rfl) (by kernel_rfl) (by kernel_rfl) (by decide) (fun _ _ _ h => h) (by rfl) ?_
    try simp only [Act.put, List.setIfInBounds_toArray, List.set_cons_zero, List.set_cons_succ]
    -- 18: pick -> 30
    refine stepE_end 18 rfl (by kernel_rfl) (by rfl) (by rfl) (fun K' hK => ?_)
    go_simp
    refine hK _ _ ?_
    clear hK K'
    refine wpAnyE_done (by kernel_rfl) ?_ _
    go_wp2
    go_ret
    exact ⟨rfl, HBL.out.trans ((HBL2.out.mono HBL.out.size).trans ⟨rfl, rfl, rfl, Nat.le_refl _, fun _ _ => rfl⟩)⟩

set_option maxRecDepth 100000 in
set_option maxHeartbeats 1000000 in
theorem known_any (w : World) : Calls Try.prog 22 #[] w fun e w' => e = .returned (.bool true) ∧ Below w.heap.size w w' := by
  have kc := fun (w : World) (C : Array Value) (n c : Nat) => Lib.run_convert_bytes_const (P := Try.prog) w 27 5 C n c Try.underlying27 Try.underlying5
  have ba := (Below.refl w.heap.size w).alloc (Nat.le_refl _) (.cells #[.int .u8 97] 5 (1, 2))
  have na : IsNums .u8 (w.alloc (.cells #[.int .u8 97] 5 (1, 2))) (.slice (some ⟨w.heap.size, 0, none⟩) 1 1) [97] := IsNums.litH w [97] _ _ _ _ _ rfl rfl
  have BA := Lib.hid ba
  have NA := Lib.hid na
  clear ba na
  go_enter Try.func22, Try.ntmps22
  go_wp2_with fail
  refine (add_first _ _ _ 2 [97] (Vers.nil _) NA.out (by decide) (by decide) (by decide)).mono ?_
  rintro e w1 ⟨v1, rfl, hv1, hb1⟩
  have hb1' := BA.out.trans (hb1.mono BA.out.size)
  have hb1b := hb1'.alloc hb1'.size (.cells #[.int .u8 98] 5 (1, 2))
  have hlb := (Below.refl w1.heap.size w1).alloc (Nat.le_refl _) (.cells #[.int .u8 98] 5 (1, 2))
  have hv1b := hv1.vers.below hlb
  have nb : IsNums .u8 (w1.alloc (.cells #[.int .u8 98] 5 (1, 2))) (.slice (some ⟨w1.heap.size, 0, none⟩) 1 1) [98] := IsNums.litH w1 [98] _ _ _ _ _ rfl rfl
  have BB := Lib.hid hb1b
  have NB := Lib.hid nb
  have V1 := Lib.hid hv1b
  clear hv1 hb1 hb1' hb1b hlb hv1b nb NA BA
  go_wp2_with fail
  refine (add_next _ _ _ [(2, [97])] 5 [98] 0 rfl V1.out ok_2 (by decide) NB.out (by decide) (by decide) (by decide) (by decide)).mono ?_
  rintro e w2 ⟨v2, rfl, hv2, hb2⟩
  have hb2' := BB.out.trans (hb2.mono BB.out.size)
  have hv2' : Vers w2 v2 [(2, [97]), (5, [98])] := hv2.vers
  have B2 := Lib.hid hb2'
  have V2 := Lib.hid hv2'
  obtain ⟨a2, c2, rfl, hc2⟩ := hv2'.len
  clear hv2 hb2 hb2' hv2' hc2 BB NB V1
  go_wp2_with fail
  refine (at_some _ _ [(2, [97]), (5, [98])] 4 0 V2.out ok_25 rising_25 (by decide) (cut_25 4 1 (by omega) (by omega) (by omega) (by omega))).mono ?_
  rintro e w3 ⟨u3, rfl, hown3, hb3⟩
  have hn3 : IsNums .u8 w3 u3 [97] := IsNums.ofOwn hown3
  have hb3' := B2.out.trans (hb3.mono B2.out.size)
  have B3 := Lib.hid hb3'
  have V3 := Lib.hid (V2.out.below hb3)
  have N3 := Lib.hid hn3
  clear hown3 hb3 hb3' hn3 B2 V2
  go_wp2_with fail
  refine (at_none _ _ [(2, [97]), (5, [98])] 1 V3.out rising_25 (by decide) (cut_25 1 0 (by omega) (by omega) (by omega) (by omega))).mono ?_
  rintro e w4 ⟨rfl, hb4⟩
  have hb4' := B3.out.trans (hb4.mono B3.out.size)
  have B4 := Lib.hid hb4'
  have V4 := Lib.hid (V3.out.below hb4)
  have hn4 := N3.out.below hb4 (Nat.le_refl _)
  obtain ⟨p3, c3, rfl, -⟩ := id hn4
  have hconv := conv_str (P := Try.prog) hn4 27 5 Try.underlying27 Try.underlying5 9 Try.underlying9
  replace hconv : (convert 27 9 (.slice p3 1 c3)).run Try.prog w4 = .ok (.string ⟨#[97]⟩) w4 := hconv
  clear hb4 hb4' hn4 B3 V3 N3
  go_wp2_with fail
  refine (prune_any _ _ [(2, [97]), (5, [98])] 5 2 V4.out ok_25 rising_25 (by decide) (cut_25 5 2 (by omega) (by omega) (by omega) (by omega))).mono ?_
  rintro e w5 ⟨v5, rfl, hv5, hb5⟩
  obtain ⟨a5, c5, hv5e, -⟩ := hv5.vers.len
  replace hv5e : v5 = .slice a5 1 c5 := hv5e
  subst hv5e
  have hb5' := B4.out.trans (hb5.mono B4.out.size)
  have B5 := Lib.hid hb5'
  have V5 := Lib.hid (V4.out.below hb5)
  clear hv5 hb5 hb5' B4 V4
  go_wp2_with fail
  refine (prune_any _ _ [(2, [97]), (5, [98])] 4 1 V5.out ok_25 rising_25 (by decide) (cut_25 4 1 (by omega) (by omega) (by omega) (by omega))).mono ?_
  rintro e w6 ⟨v6, rfl, hv6, hb6⟩
  obtain ⟨a6, c6, hv6e, -⟩ := hv6.vers.len
  replace hv6e : v6 = .slice a6 2 c6 := hv6e
  subst hv6e
  have hb6' := B5.out.trans (hb6.mono B5.out.size)
  have B6 := Lib.hid hb6'
  have V6 := Lib.hid (V5.out.below hb6)
  clear hv6 hb6 hb6' B5 V5
  go_wp2_with fail
  refine (changed_any _ _ [(2, [97]), (5, [98])] 2 5 1 V6.out rising_25 (by decide) (cut_25 2 1 (by omega) (by omega) (by omega) (by omega))).mono ?_
  rintro e w7 ⟨rfl, hb7⟩
  rw [show decide (1 < [(2, [97]), ((5 : Int), [(98 : Int)])].length ∧ (seqs [(2, [97]), ((5 : Int), [(98 : Int)])]).getD 1 0 ≤ 5) = true by decide]
  have hb7' := B6.out.trans (hb7.mono B6.out.size)
  have B7 := Lib.hid hb7'
  have V7 := Lib.hid (V6.out.below hb7)
  clear hb7 hb7' B6 V6
  go_wp2_with fail
  refine (changed_any _ _ [(2, [97]), (5, [98])] 5 9 2 V7.out rising_25 (by decide) (cut_25 5 2 (by omega) (by omega) (by omega) (by omega))).mono ?_
  rintro e w8 ⟨rfl, hb8⟩
  rw [show decide (2 < [(2, [97]), ((5 : Int), [(98 : Int)])].length ∧ (seqs [(2, [97]), ((5 : Int), [(98 : Int)])]).getD 2 0 ≤ 9) = false by decide]
  have hb8' := B7.out.trans (hb8.mono B7.out.size)
  have B8 := Lib.hid hb8'
  have V8 := Lib.hid (V7.out.below hb8)
  clear hb8 hb8' B7 V7
  go_wp2_with fail
  refine (rights_any _ _ [(2, [97]), (5, [98])] V8.out rising_25 (by decide) (by decide)).mono ?_
  rintro e w9 ⟨rfl, hb9⟩
  have B9 := Lib.hid (B8.out.trans (hb9.mono B8.out.size))
  clear hb9 V8 B8
  have vz := vers_zero w9 54
  have bz := B9.out.alloc B9.out.size (.cells #[.int .i64 0, .slice none 0 0] 54)
  have VZ := Lib.hid vz
  have BZ := Lib.hid bz
  clear vz bz B9
  go_wp2_with fail
  refine (right_zero _ _ VZ.out).mono ?_
  rintro e w10 ⟨rfl, hb10⟩
  have hbz := BZ.out.trans (hb10.mono BZ.out.size)
  clear hb10 BZ VZ
  go_wp2
  go_ret
  exact ⟨rfl, hbz⟩
end Go.Proofs.Ytnjmlkohgbbafaa.K
