/- mementoref13's Prune, Add. -/
import Derived.Test.YtnjmlkohgbbafaaHistD
namespace Go.Proofs.Ytnjmlkohgbbafaa.K
open Go.ChangeShapes Go.WideShapes Go.ChangeAt Go.RowKit
set_option linter.unusedVariables false

theorem RowsAt.ofOwn {w : World} {base : Nat} {v : Value} {rs : List VR} (h1 : w.ownsRow base 54 2 v rs.length (rs.flatMap VR.cells)) : RowsAt w v rs := by
  rcases h1.2 with ⟨rfl, h0⟩ | ⟨g, cap, cur, rfl, hbg, hgg, hle, hcm, hsz, htk⟩
  · exact ⟨none, 0, by rw [h0], by omega, .inl ⟨h0, fun _ => rfl⟩⟩
  · refine ⟨_, cap, rfl, hle, .inr ⟨g, 0, rfl, (Array.getElem?_eq_some_iff.1 hgg).1, fun k hk j u hj => ?_⟩⟩
    have hj2 : j < 2 := (List.getElem?_eq_some_iff.1 hj).1
    have := h1.cells (g := g) rfl (k * 2 + j) u (by rw [parts_at VR.cells 2 rs k j ⟨0, [], .slice none 0 0⟩ (fun s _ => rfl) hk hj2]; exact hj)
    rw [Addr.add_lit, Nat.zero_add] at this
    rw [Nat.zero_add]; exact this
theorem flat_cells (w : World) (b off : Nat) (rs : List VR) (hr : ∀ k, k < rs.length → w.rangeAt b (off + k * 2) (VR.cells (rs.getD k ⟨0, [], .slice none 0 0⟩))) (j : Nat) (u : Value) (hj : (rs.flatMap VR.cells)[j]? = some u) : w.cell? ((⟨b, off, none⟩ : Addr).add j) = some u := by
  have hlen : (rs.flatMap VR.cells).length = rs.length * 2 := parts_len VR.cells 2 rs (fun s _ => rfl)
  have hjl : j < rs.length * 2 := by rw [← hlen]; exact (List.getElem?_eq_some_iff.1 hj).1
  have h2 : j % 2 < 2 := Nat.mod_lt _ (by decide)
  have hk : j / 2 < rs.length := by omega
  have he : j = j / 2 * 2 + j % 2 := by omega
  rw [he, parts_at VR.cells 2 rs (j / 2) (j % 2) ⟨0, [], .slice none 0 0⟩ (fun s _ => rfl) hk h2] at hj
  have := hr (j / 2) hk (j % 2) u hj
  rw [Addr.add_lit]
  rw [show off + j = off + j / 2 * 2 + j % 2 by omega]
  exact this
theorem VR.ones {w : World} {rs : List VR} (h : ∀ r ∈ rs, IsNums .u8 w r.val r.data) : ∀ u ∈ rs.flatMap VR.cells, u.oneCell' = true := by
  intro u hu
  obtain ⟨r, hr, hm⟩ := List.mem_flatMap.1 hu
  exact VR.one (h r hr) u hm

theorem wpList_appV {ops : Array Oper} {rest : List Oper} {d : Option Tmp} {tt : TypeId} {pos : String} {af : Array Edge} {a : Act} {Q : Exit → Act → World → Prop} {w : World} (s x : Operand) (base : Nat) (v : Value) (n : Nat) (xs : List Value) (hown : w.ownsRow base 54 2 v n xs) (u : Value) (rs : List VR) (hu : RowsAt w u rs) (hone : ∀ c ∈ rs.flatMap VR.cells, c.oneCell' = true) (hn : n + rs.length ≤ 1000000000) (hbase : base ≤ w.heap.size) (hs : a.eval s = v) (hx : a.eval x = u)
    (h : ∀ v' w', w'.ownsRow base 54 2 v' (n + rs.length) (xs ++ rs.flatMap VR.cells) → w.grownBy w' v.ownBlock → (v'.ownBlock = v.ownBlock ∨ v'.ownBlock = some w.heap.size) → wpList Try.prog ops Q rest (a.put d v') w') :
    wpList Try.prog ops Q (⟨d, .call { callee := .builtin .append, args := #[s, x], argTypes := #[41, 41] }, tt, pos, af, none⟩ :: rest) a w := by
  obtain ⟨p, c, rfl, hc, hp⟩ := hu
  have hlen : (rs.flatMap VR.cells).length = rs.length * 2 := parts_len VR.cells 2 rs (fun s _ => rfl)
  have main : ∀ ad : Addr, p = some ad → (∀ j u, (rs.flatMap VR.cells)[j]? = some u → w.cell? (ad.add j) = some u) → wpList Try.prog ops Q (⟨d, .call { callee := .builtin .append, args := #[s, x], argTypes := #[41, 41] }, tt, pos, af, none⟩ :: rest) a w := fun ad hpa hnews =>
    wpList_appW s x 41 base 54 _ 2 32 Try.underlying41 infoVer rfl (by omega) v n xs hown ad rs.length c (rs.flatMap VR.cells) hlen hnews hone (by unfold maxLen; omega) (by omega) hbase hs (by rw [hx, hpa]) h
  rcases hp with ⟨h0, hnone⟩ | ⟨b, off, rfl, hb, hrow⟩
  · obtain rfl := List.length_eq_zero_iff.1 h0
    cases p with
    | none =>
      obtain rfl := hnone rfl
      obtain ⟨i0, hi, -, -, -⟩ := info_parts infoVer
      refine wpList_plain rfl fun _ hK => ?_
      unfold Oper.wp execOp
      simp only [resolve, invoke, builtin, Sem.run_bind, Sem.run_pure, Result.andThen_ok, List.map_toArray, List.map_cons, List.map_nil, hs, hx]
      simp only [List.length_nil, run_app_none Try.underlying41 hi hown 0, Result.andThen_ok]
      exact hK _ _ (h v w (by simpa using hown) ⟨rfl, rfl, rfl, Nat.le_refl _, fun _ _ _ => rfl⟩ (.inl rfl))
    | some ad => exact main ad rfl (by simp)
  · exact main _ rfl (flat_cells w b off rs hrow)

def VersPost (w : World) (ks : List (Int × List Int)) (e : Ending) (w' : World) : Prop :=
  ∃ v, e = .returned v ∧ Vers w' v ks ∧ Below w.heap.size w w'

theorem keep_step {α : Type} (l : List α) (K k : Nat) (hk : k < l.length) (d : α) : ((l.take (k + 1)).drop K) = if K ≤ k then (l.take k).drop K ++ [l.getD k d] else [] := by
  split
  · next h =>
    rw [List.take_succ_eq_append_getElem hk, List.drop_append_of_le_length (by rw [List.length_take]; omega)]
    simp [List.getD, hk]
  · next h =>
    apply List.drop_eq_nil_of_le
    rw [List.length_take]; omega
theorem keep_none {α : Type} (l : List α) (K k : Nat) (h : k ≤ K) : ((l.take k).drop K) = [] := by
  apply List.drop_eq_nil_of_le
  rw [List.length_take]; omega

set_option maxRecDepth 100000 in
set_option maxHeartbeats 1000000 in
theorem ref_prune (w : World) (v : Value) (ks : List (Int × List Int)) (t : Int) (n : Nat) (hv : Vers w v ks) (hn : ks.length ≤ 1000000) (hc : Cut (seqs ks) t n) :
    Calls Try.prog 32 #[v, .int .i64 t] w (VersPost w (ks.drop (n - 1))) := by
  have HV := Lib.hid hv
  obtain ⟨rs, rfl, ⟨a, c, rfl, hcl, hrows⟩, hdata⟩ := hv
  have hnl : n ≤ rs.length := by have := hc.1; rwa [seqs_len, List.length_map] at this
  have HRS := Lib.hid hrows
  have HD := Lib.hid hdata
  have HC := Lib.hid hc
  rw [List.length_map] at hn
  have hnI : (rs.length : Int) ≤ 1000000 := by omega
  clear hrows hdata hc
  go_enter Try.func32, Try.ntmps32
  go_wp2
  go_loopw [5, 6] (fun u i wr => ∃ k : Nat, k ≤ rs.length ∧ i = .int .i64 k ∧ wr.ownsRow w.heap.size 54 2 u (((rs.take k).drop (n - 1)).length) (((rs.take k).drop (n - 1)).flatMap VR.cells) ∧ Below w.heap.size w wr) (fun _ i _ => rs.length - (intOf i).toNat)
  case atStart => exact ⟨0, Nat.zero_le _, rfl, by rw [keep_none _ _ _ (Nat.zero_le _)]; exact World.ownsRow_nil _ _ _ _, Below.refl _ _⟩
  case round =>
    obtain ⟨k, hk, rfl, hown, hbel⟩ := hrel
    have HO := Lib.hid hown
    have BL := Lib.hid hbel
    by_cases hlt : k < rs.length
    · obtain ⟨h0, -⟩ | ⟨b, off, rfl, hblt, hrow⟩ := HRS.out
      · omega
      have hrk := hrow k hlt
      obtain ⟨r9, hr9⟩ : ∃ r, rs.getD k ⟨0, [], .slice none 0 0⟩ = r := ⟨_, rfl⟩
      have hst := keep_step rs (n - 1) k hlt ⟨0, [], .slice none 0 0⟩
      rw [hr9] at hrk hst
      have hmem : r9 ∈ rs := by
        rw [← hr9]
        have : rs.getD k ⟨0, [], .slice none 0 0⟩ = rs[k] := by simp [List.getD, hlt]
        rw [this]; exact List.getElem_mem _
      have hdm := HD.out r9 hmem
      obtain ⟨sq, dt, vl⟩ := r9
      obtain ⟨pv, cv, hvl, -⟩ := id hdm
      replace hvl : vl = .slice pv dt.length cv := hvl
      subst hvl
      have hrr : wr.rangeAt b (off + k * 2) [.int .i64 sq, .slice pv dt.length cv] := fun j u hj => by rw [hbel.cell hblt]; exact hrk j u hj
      have HRR := Lib.hid hrr
      have HST := Lib.hid hst
      have HINF : Hid ((Try.prog.info? 54).map (·.size) = some ([.int .i64 sq, .slice pv dt.length cv] : List Value).length) := Lib.hid infoVr
      have hkI : (k : Int) < rs.length := by omega
      have hkM : (k : Int) ≤ 1000000 := by omega
      have hk0 : (0 : Int) ≤ k := by omega
      have how : ∀ o, (wr.alloc o).ownsRow w.heap.size 54 2 u5 (((rs.take k).drop (n - 1)).length) (((rs.take k).drop (n - 1)).flatMap VR.cells) := fun o => own_keep hown (Keep.alloc (fun _ => False) _ _) (fun _ _ h => h)
      have HOW := Lib.hid how
      have hll : ((rs.take k).drop (n - 1)).length ≤ 1000000 := by rw [List.length_drop, List.length_take]; omega
      have HLL := Lib.hid hll
      clear hrow hrk hr9 hst hmem hdm hrr how hll hown hbel
      by_cases hK : n - 1 ≤ k
      · rw [if_pos hK] at HST
        by_cases hlast : k + 1 < rs.length
        · obtain ⟨b1, o1, c1', u1, e1, hb1, -, hs1, -, -⟩ := HV.out.cell (k + 1) (by rw [List.length_map]; exact hlast)
          injection e1 with e1 q1 q2
          injection e1 with e1
          injection e1 with e1 e2
          subst e1 e2
          clear q1 q2
          have hsq := seqs_get (rs.map VR.key) (k + 1) (by rw [List.length_map]; exact hlast)
          obtain ⟨s, hs⟩ : ∃ s, ((rs.map VR.key).getD (k + 1) (0, [])).1 = s := ⟨_, rfl⟩
          rw [hs] at hs1 hsq
          have h9 := HC.out.2.2 (k + 1) (by omega) (by rw [seqs_len, List.length_map]; exact hlast)
          rw [hsq] at h9
          have hcr : wr.cell? ⟨b, off + (k + 1) * 2, none⟩ = some (.int .i64 s) := by rw [BL.out.cell hb1]; exact hs1
          have hk1 : (k : Int) + 1 < rs.length := by omega
          have hk1n : ¬ (rs.length : Int) ≤ (k : Int) + 1 := by omega
          clear hs1 hs hsq
          have HK := Lib.hid hK
          clear hK
          go_wp2_with (first | ((with_reducible refine wpList_loadM (.tmp 31) b (off + k * 2) [.int .i64 sq, .slice pv dt.length cv] _ HRR.out Try.underlying54 rfl ?_ ?_ ?_); exact HINF.out; exact rfl) | ((with_reducible refine wpList_buildS1 41 54 (.tmp 32) [.int .i64 sq, .slice pv dt.length cv] _ 32 Try.underlying41 infoVer ?_ ?_ ?_ ?_); (simp); (simp); exact rfl) | ((with_reducible refine wpList_appW (.tmp 28) (.tmp 33) 41 w.heap.size 54 _ 2 32 Try.underlying41 infoVer rfl ?_ _ _ _ (HOW.out _) ⟨wr.heap.size, 0, none⟩ 1 1 [.int .i64 sq, .slice pv dt.length cv] ?_ (verCells wr sq _) ?_ ?_ ?_ ?_ ?_ ?_ ?_); omega; exact rfl; (intro v hv; simp at hv; rcases hv with rfl | rfl <;> rfl); (have := HLL.out; unfold maxLen; omega); (have := HLL.out; omega); (have := BL.out.size; simp; omega); exact rfl; exact rfl; intro v6 w6 hown6 hg6 hv6; have HO6 := Lib.hid hown6; have HG6 := Lib.hid hg6; clear hown6 hg6 hv6))
          go_roundw
          case rel =>
            have hal : (wr.alloc (.cells #[.int .i64 sq, .slice pv dt.length cv] 54)).heap.size = wr.heap.size + 1 := by simp
            have hbz := BL.out.size
            refine ⟨k + 1, by omega, by go_num, ?_, (BL.out.trans ((Below.refl _ wr).alloc hbz _)).grown HG6.out (by omega) (fun j hj => (HO.out.lt j hj).1)⟩
            rw [HST.out, List.length_append, List.flatMap_append]
            exact HO6.out
          case measure => simp [intOf]; omega
        · have hk1 : (rs.length : Int) ≤ (k : Int) + 1 := by omega
          have HK := Lib.hid hK
          clear hK
          go_wp2_with (first | ((with_reducible refine wpList_loadM (.tmp 31) b (off + k * 2) [.int .i64 sq, .slice pv dt.length cv] _ HRR.out Try.underlying54 rfl ?_ ?_ ?_); exact HINF.out; exact rfl) | ((with_reducible refine wpList_buildS1 41 54 (.tmp 32) [.int .i64 sq, .slice pv dt.length cv] _ 32 Try.underlying41 infoVer ?_ ?_ ?_ ?_); (simp); (simp); exact rfl) | ((with_reducible refine wpList_appW (.tmp 28) (.tmp 33) 41 w.heap.size 54 _ 2 32 Try.underlying41 infoVer rfl ?_ _ _ _ (HOW.out _) ⟨wr.heap.size, 0, none⟩ 1 1 [.int .i64 sq, .slice pv dt.length cv] ?_ (verCells wr sq _) ?_ ?_ ?_ ?_ ?_ ?_ ?_); omega; exact rfl; (intro v hv; simp at hv; rcases hv with rfl | rfl <;> rfl); (have := HLL.out; unfold maxLen; omega); (have := HLL.out; omega); (have := BL.out.size; simp; omega); exact rfl; exact rfl; intro v6 w6 hown6 hg6 hv6; have HO6 := Lib.hid hown6; have HG6 := Lib.hid hg6; clear hown6 hg6 hv6))
          go_roundw
          case rel =>
            have hal : (wr.alloc (.cells #[.int .i64 sq, .slice pv dt.length cv] 54)).heap.size = wr.heap.size + 1 := by simp
            have hbz := BL.out.size
            refine ⟨k + 1, by omega, by go_num, ?_, (BL.out.trans ((Below.refl _ wr).alloc hbz _)).grown HG6.out (by omega) (fun j hj => (HO.out.lt j hj).1)⟩
            rw [HST.out, List.length_append, List.flatMap_append]
            exact HO6.out
          case measure => simp [intOf]; omega
      · obtain ⟨b1, o1, c1', u1, e1, hb1, -, hs1, -, -⟩ := HV.out.cell (k + 1) (by rw [List.length_map]; omega)
        injection e1 with e1 q1 q2
        injection e1 with e1
        injection e1 with e1 e2
        subst e1 e2
        clear q1 q2
        have hsq := seqs_get (rs.map VR.key) (k + 1) (by rw [List.length_map]; omega)
        obtain ⟨s, hs⟩ : ∃ s, ((rs.map VR.key).getD (k + 1) (0, [])).1 = s := ⟨_, rfl⟩
        rw [hs] at hs1 hsq
        have h9 := HC.out.2.1 (k + 1) (by omega)
        rw [hsq] at h9
        have hns : ¬ t < s := by omega
        have hcr : wr.cell? ⟨b, off + (k + 1) * 2, none⟩ = some (.int .i64 s) := by rw [BL.out.cell hb1]; exact hs1
        have hk1 : (k : Int) + 1 < rs.length := by omega
        have hk1n : ¬ (rs.length : Int) ≤ (k : Int) + 1 := by omega
        clear hs1 hs hsq h9
        rw [if_neg hK] at HST
        have hold := keep_none rs (n - 1) k (by omega)
        rw [hold] at HO
        have HK := Lib.hid hK
        clear hK hold HOW HLL
        go_wp2
        go_roundw
        case rel => exact ⟨k + 1, by omega, by go_num, by rw [HST.out]; exact HO.out, BL.out⟩
        case measure => simp [intOf]; omega
    · obtain rfl : k = rs.length := by omega
      rw [List.take_length] at hown
      have HO2 := Lib.hid hown
      clear hown hbel HO
      go_wp2
      go_ret
      refine ⟨_, rfl, ⟨rs.drop (n - 1), by rw [List.map_drop], RowsAt.ofOwn HO2.out, fun r hr => (HD.out r (List.mem_of_mem_drop hr)).below BL.out (Nat.le_refl _)⟩, BL.out⟩
end Go.Proofs.Ytnjmlkohgbbafaa.K
