/- hist: Changed, At, Prune, Add. -/
import Derived.Test.YtnjmlkohgbbafaaHist2
namespace Go.Proofs.Ytnjmlkohgbbafaa.K
open Go.ChangeShapes Go.WideShapes Go.ChangeAt Go.RowKit
set_option linter.unusedVariables false

def seqs (ks : List (Int × List Int)) : List Int := ks.map (·.1)
theorem seqs_len (ks : List (Int × List Int)) : (seqs ks).length = ks.length := by simp [seqs]
theorem seqs_get (ks : List (Int × List Int)) (k : Nat) (hk : k < ks.length) : (seqs ks).getD k 0 = (ks.getD k (0, [])).1 := by simp [seqs, List.getD, hk]
/-- The cells of the k-th version. -/
theorem Vers.cell {w : World} {v : Value} {ks : List (Int × List Int)} (h : Vers w v ks) (k : Nat) (hk : k < ks.length) :
    ∃ b off c u, v = .slice (some ⟨b, off, none⟩) ks.length c ∧ b < w.heap.size ∧ ks.length ≤ c ∧ w.cell? ⟨b, off + k * 2, none⟩ = some (.int .i64 (ks.getD k (0, [])).1) ∧ w.cell? ⟨b, off + k * 2 + 1, none⟩ = some u ∧ IsNums .u8 w u (ks.getD k (0, [])).2 := by
  obtain ⟨rs, rfl, ⟨a, c, rfl, hc, ⟨h0, -⟩ | ⟨b, off, rfl, hb, hr⟩⟩, hd⟩ := h
  · rw [List.length_map] at hk; omega
  · rw [List.length_map] at hk
    have e : (rs.map VR.key).getD k (0, []) = (rs.getD k ⟨0, [], .slice none 0 0⟩).key := by simp [List.getD, hk]
    have hm : rs.getD k ⟨0, [], .slice none 0 0⟩ ∈ rs := by
      have : rs.getD k ⟨0, [], .slice none 0 0⟩ = rs[k] := by simp [List.getD, hk]
      rw [this]; exact List.getElem_mem _
    rw [e]
    have h1 := hr k hk 0 _ rfl
    have h2 := hr k hk 1 _ rfl
    rw [Nat.add_zero] at h1
    exact ⟨b, off, c, _, by rw [List.length_map], hb, by rw [List.length_map]; exact hc, h1, h2, hd _ hm⟩

theorem changed_any (w : World) (v : Value) (ks : List (Int × List Int)) (f t : Int) (n : Nat) (hv : Vers w v ks) (hr : Rising (seqs ks)) (hn : ks.length ≤ 1000000) (hc : Cut (seqs ks) f n) :
    Calls Try.prog 33 #[v, .int .i64 f, .int .i64 t] w fun e w' => e = .returned (.bool (decide (n < ks.length ∧ (seqs ks).getD n 0 ≤ t))) ∧ Below w.heap.size w w' := by
  have HV := Lib.hid hv
  have HC := Lib.hid hc
  by_cases h1 : n < ks.length
  · obtain ⟨b, off, c, u, rfl, hb, hcl, hs, -, -⟩ := hv.cell n h1
    have hsq := seqs_get ks n h1
    rw [← hsq] at hs
    clear hv hc hsq
    have hn1 : (n : Int) < ks.length := by omega
    have hn0 : (0 : Int) ≤ n := by omega
    have hd : decide (n < ks.length ∧ (seqs ks).getD n 0 ≤ t) = decide ((seqs ks).getD n 0 ≤ t) := by simp [h1]
    rw [hd]
    clear hd
    obtain ⟨s, hss⟩ : ∃ s, (seqs ks).getD n 0 = s := ⟨_, rfl⟩
    rw [hss] at hs ⊢
    have HS := Lib.hid hs
    clear hs hss
    go_enter Try.func33, Try.ntmps33
    go_wp2_with fail
    refine (upto_any w _ ks f HV.out hr hn).mono ?_
    rintro e w3 ⟨cc, hcc, rfl, hb3⟩
    obtain rfl : cc = n := hcc.unique HC.out
    have hs3 : w3.cell? ⟨b, off + cc * 2, none⟩ = some (.int .i64 s) := by rw [hb3.cell hb]; exact HS.out
    have HB3 := Lib.hid hb3
    clear hb3 hcc
    go_wp2
    go_ret
    exact ⟨rfl, HB3.out⟩
  · obtain ⟨a, c, rfl, hcl⟩ := hv.len
    have hn1 : ¬ (n : Int) < ks.length := by omega
    have hd : decide (n < ks.length ∧ (seqs ks).getD n 0 ≤ t) = false := by simp [h1]
    rw [hd]
    clear hd hv hc
    go_enter Try.func33, Try.ntmps33
    go_wp2_with fail
    refine (upto_any w _ ks f HV.out hr hn).mono ?_
    rintro e w3 ⟨cc, hcc, rfl, hb3⟩
    obtain rfl : cc = n := hcc.unique HC.out
    have HB3 := Lib.hid hb3
    clear hb3 hcc
    go_wp2
    go_ret
    exact ⟨rfl, HB3.out⟩

theorem at_none (w : World) (v : Value) (ks : List (Int × List Int)) (t : Int) (hv : Vers w v ks) (hr : Rising (seqs ks)) (hn : ks.length ≤ 1000000) (hc : Cut (seqs ks) t 0) :
    Calls Try.prog 26 #[v, .int .i64 t] w fun e w' => e = .returned (.tuple #[.slice none 0 0, .bool false]) ∧ Below w.heap.size w w' := by
  obtain ⟨a, c, rfl, hcl⟩ := hv.len
  have HV := Lib.hid hv
  have HC := Lib.hid hc
  clear hv hc
  go_enter Try.func26, Try.ntmps26
  go_wp2_with fail
  refine (upto_any w _ ks t HV.out hr hn).mono ?_
  rintro e w3 ⟨cc, hcc, rfl, hb3⟩
  obtain rfl : cc = 0 := hcc.unique HC.out
  rw [show ((0 : Nat) : Int) = 0 from rfl]
  have HB3 := Lib.hid hb3
  clear hb3 hcc
  go_wp2
  go_ret2
  exact ⟨rfl, HB3.out⟩
def AtPost (w : World) (d : List Int) (e : Ending) (w' : World) : Prop := ∃ u, e = .returned (.tuple #[u, .bool true]) ∧ w'.ownsRow w.heap.size 5 1 u d.length (d.map (Value.int .u8)) ∧ Below w.heap.size w w'
theorem at_some (w : World) (v : Value) (ks : List (Int × List Int)) (t : Int) (m : Nat) (hv : Vers w v ks) (hok : ∀ k ∈ ks, KeyOk k) (hr : Rising (seqs ks)) (hn : ks.length ≤ 1000000) (hc : Cut (seqs ks) t (m + 1)) :
    Calls Try.prog 26 #[v, .int .i64 t] w (AtPost w (ks.getD m (0, [])).2) := by
  have hml : m < ks.length := by have := hc.1; rw [seqs_len] at this; omega
  obtain ⟨b, off, c, u, rfl, hb, hcl, -, hu, hnu⟩ := hv.cell m hml
  have hk : KeyOk (ks.getD m (0, [])) := by
    have : ks.getD m (0, []) = ks[m] := by simp [List.getD, hml]
    rw [this]; exact hok _ (List.getElem_mem _)
  have hdl : (ks.getD m (0, [])).2.length ≤ 1000000 := hk.2.2.1
  generalize (ks.getD m (0, [])).2 = d at hnu hdl ⊢
  obtain ⟨pu, cu, rfl, -⟩ := id hnu
  have HV := Lib.hid hv
  have HC := Lib.hid hc
  have HU := Lib.hid hu
  have HN := Lib.hid hnu
  have hm1 : (m : Int) < ks.length := by omega
  have hm0 : (0 : Int) ≤ m := by omega
  have hq : ((m : Int) + 1 == 0) = false := by rw [beq_eq_false_iff_ne]; omega
  clear hv hc hu hnu hok hk
  go_enter Try.func26, Try.ntmps26
  go_wp2_with fail
  refine (upto_any w _ ks t HV.out hr hn).mono ?_
  rintro e w3 ⟨cc, hcc, rfl, hb3⟩
  obtain rfl : cc = m + 1 := hcc.unique HC.out
  rw [show ((m + 1 : Nat) : Int) = (m : Int) + 1 by omega]
  have hu3 : w3.cell? ⟨b, off + m * 2 + 1, none⟩ = some (.slice pu d.length cu) := by rw [hb3.cell hb]; exact HU.out
  have hn3 : IsNums .u8 w3 (.slice pu d.length cu) d := HN.out.below hb3 (Nat.le_refl _)
  have HN3 := Lib.hid hn3
  have HB3 := Lib.hid hb3
  clear hb3 hcc hn3
  go_wp2_with (at_builtin; (refine wpList_appN rfl _ _ 27 rfl w.heap.size 5 .u8 1 Try.underlying27 info_u8 (by omega) _ 0 [] rfl (World.ownsRow_nil _ _ _ _) _ d rfl HN3.out (by omega) HB3.out.size ?_); intro v4 w4 hown4 hb4; rw [Nat.zero_add, List.nil_append] at hown4; have HO := Lib.hid hown4; have HB := Lib.hid (HB3.out.trans hb4); clear hown4 hb4)
  go_ret2
  exact ⟨_, rfl, HO.out, HB.out⟩

/-- A part of versions, from k on. -/
theorem Vers.drop {w : World} {a : Option Addr} {n c : Nat} {ks : List (Int × List Int)} (h : Vers w (.slice a n c) ks) (b off k : Nat) (ha : a = some ⟨b, off, none⟩) (hk : k < ks.length) : Vers w (.slice (some ⟨b, off + k * 2, none⟩) (n - k) (c - k)) (ks.drop k) := by
  obtain ⟨rs, rfl, ⟨a', c', e1, hc, h0⟩, hd⟩ := h
  injection e1 with e1 e2 e3
  subst e1 e2 e3
  rw [List.length_map] at hk
  obtain ⟨h0, -⟩ | ⟨b', off', e2, hb, hr⟩ := h0
  · omega
  rw [ha] at e2
  injection e2 with e2
  injection e2 with e2 e3
  subst e2 e3
  refine ⟨rs.drop k, by rw [List.map_drop], ⟨_, _, by rw [List.length_drop], by rw [List.length_drop]; omega, .inr ⟨b, off + k * 2, rfl, hb, fun j hj => ?_⟩⟩, fun r hr' => hd r (List.mem_of_mem_drop hr')⟩
  rw [List.length_drop] at hj
  have h1 := hr (k + j) (by omega)
  have e : (rs.drop k).getD j ⟨0, [], .slice none 0 0⟩ = rs.getD (k + j) ⟨0, [], .slice none 0 0⟩ := by simp [List.getD, List.getElem?_drop]
  rw [e, show off + k * 2 + j * 2 = off + (k + j) * 2 by omega]
  exact h1

theorem prune_any (w : World) (v : Value) (ks : List (Int × List Int)) (t : Int) (n : Nat) (hv : Vers w v ks) (hok : ∀ k ∈ ks, KeyOk k) (hr : Rising (seqs ks)) (hn : ks.length ≤ 1000000) (hc : Cut (seqs ks) t n) :
    Calls Try.prog 31 #[v, .int .i64 t] w (CopiedPost w (ks.drop (n - 1))) := by
  obtain ⟨a, c, rfl, hcl⟩ := hv.len
  have hnl : n ≤ ks.length := by have := hc.1; rwa [seqs_len] at this
  have HV := Lib.hid hv
  have HC := Lib.hid hc
  have HOK := Lib.hid hok
  have hclI : (ks.length : Int) ≤ c := by omega
  clear hc hok
  by_cases h0 : ks.length = 0
  · obtain rfl := List.length_eq_zero_iff.1 h0
    have hnone : a = none → c = 0 := by
      obtain ⟨rs, e, ⟨a', c', e1, -, h⟩, -⟩ := hv
      injection e1 with e1 e2 e3
      subst e1 e3
      obtain rfl := List.map_eq_nil_iff.1 e
      rcases h with ⟨-, h⟩ | ⟨b, off, h, -⟩
      · exact h
      · intro h2; rw [h2] at h; cases h
    clear hv
    obtain rfl : n = 0 := by simpa using hnl
    by_cases hc0 : c = 0
    · subst hc0
      go_enter Try.func31, Try.ntmps31
      go_wp2_with fail
      refine (upto_any w _ [] t HV.out hr hn).mono ?_
      rintro e w3 ⟨cc, hcc, rfl, hb3⟩
      obtain rfl : cc = 0 := hcc.unique HC.out
      rw [show ((0 : Nat) : Int) = 0 from rfl]
      have HB3 := Lib.hid hb3
      have HV3 := Lib.hid (HV.out.below hb3)
      clear hb3 hcc
      go_wp2_with fail
      refine (copied_any w3 _ [] ⟨[], rfl, ⟨_, _, rfl, Nat.zero_le _, .inl ⟨rfl, fun _ => rfl⟩⟩, by simp⟩ (by simp) (by simp)).mono ?_
      rintro e w4 ⟨v4, rfl, ho4, hb4⟩
      have HO := Lib.hid (ho4.base HB3.out.size)
      have HB := Lib.hid (HB3.out.trans (hb4.mono HB3.out.size))
      clear ho4 hb4
      go_wp2
      go_ret
      exact ⟨_, rfl, HO.out, HB.out⟩
    · obtain ⟨x, rfl⟩ : ∃ x, a = some x := by
        cases a with
        | none => exact absurd (hnone rfl) hc0
        | some x => exact ⟨x, rfl⟩
      clear hnone
      have hc1 : ¬ 0 = c := by omega
      go_enter Try.func31, Try.ntmps31
      go_wp2_with fail
      refine (upto_any w _ [] t HV.out hr hn).mono ?_
      rintro e w3 ⟨cc, hcc, rfl, hb3⟩
      obtain rfl : cc = 0 := hcc.unique HC.out
      rw [show ((0 : Nat) : Int) = 0 from rfl]
      have HB3 := Lib.hid hb3
      have HV3 := Lib.hid (HV.out.below hb3)
      clear hb3 hcc
      go_wp2_with fail
      refine (copied_any w3 _ [] ⟨[], rfl, ⟨_, _, rfl, Nat.zero_le _, .inl ⟨rfl, fun h => by cases h⟩⟩, by simp⟩ (by simp) (by simp)).mono ?_
      rintro e w4 ⟨v4, rfl, ho4, hb4⟩
      have HO := Lib.hid (ho4.base HB3.out.size)
      have HB := Lib.hid (HB3.out.trans (hb4.mono HB3.out.size))
      clear ho4 hb4
      go_wp2
      go_ret
      exact ⟨_, rfl, HO.out, HB.out⟩
  · obtain ⟨b, off, c', u', e1, -, -, -, -, -⟩ := hv.cell 0 (by omega)
    injection e1 with e1 e2 e3
    subst e1
    clear e2 e3 hv
    rcases n with _ | m
    · have hc1 : ¬ 0 = c := by omega
      have hc2 : ¬ c = 0 := by omega
      go_enter Try.func31, Try.ntmps31
      go_wp2_with fail
      refine (upto_any w _ ks t HV.out hr hn).mono ?_
      rintro e w3 ⟨cc, hcc, rfl, hb3⟩
      obtain rfl : cc = 0 := hcc.unique HC.out
      rw [show ((0 : Nat) : Int) = 0 from rfl]
      have HB3 := Lib.hid hb3
      have HV3 := Lib.hid (HV.out.below hb3)
      clear hb3 hcc
      go_wp2_with fail
      have hvd := HV3.out.drop b off 0 rfl (by omega)
      rw [Nat.zero_mul, Nat.add_zero, Nat.sub_zero, Nat.sub_zero] at hvd
      refine (copied_any w3 _ _ hvd (fun k hk => HOK.out k (List.mem_of_mem_drop hk)) (by rw [List.length_drop]; omega)).mono ?_
      rintro e w4 ⟨v4, rfl, ho4, hb4⟩
      have HO := Lib.hid (ho4.base HB3.out.size)
      have HB := Lib.hid (HB3.out.trans (hb4.mono HB3.out.size))
      clear ho4 hb4
      go_wp2
      go_ret
      exact ⟨_, rfl, HO.out, HB.out⟩
    · have hc1 : ¬ m = c := by omega
      have hc2 : ¬ c = m := by omega
      have hm0 : (0 : Int) ≤ m := by omega
      have hmx : max (m : Int) 0 = m := by omega
      have hml : (m : Int) < ks.length := by omega
      go_enter Try.func31, Try.ntmps31
      go_wp2_with fail
      refine (upto_any w _ ks t HV.out hr hn).mono ?_
      rintro e w3 ⟨cc, hcc, rfl, hb3⟩
      obtain rfl : cc = m + 1 := hcc.unique HC.out
      rw [show ((m + 1 : Nat) : Int) = (m : Int) + 1 by omega]
      have HB3 := Lib.hid hb3
      have HV3 := Lib.hid (HV.out.below hb3)
      clear hb3 hcc
      go_wp2_with fail
      have hvd := HV3.out.drop b off m rfl (by omega)
      refine (copied_any w3 _ _ hvd (fun k hk => HOK.out k (List.mem_of_mem_drop hk)) (by rw [List.length_drop]; omega)).mono ?_
      rintro e w4 ⟨v4, rfl, ho4, hb4⟩
      have HO := Lib.hid (ho4.base HB3.out.size)
      have HB := Lib.hid (HB3.out.trans (hb4.mono HB3.out.size))
      clear ho4 hb4
      go_wp2
      go_ret
      exact ⟨_, rfl, HO.out, HB.out⟩
end Go.Proofs.Ytnjmlkohgbbafaa.K
