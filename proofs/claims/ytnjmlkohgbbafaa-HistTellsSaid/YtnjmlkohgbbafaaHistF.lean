/- mementoref13's Add. -/
import Derived.Test.YtnjmlkohgbbafaaHistE
namespace Go.Proofs.Ytnjmlkohgbbafaa.K
open Go.ChangeShapes Go.WideShapes Go.ChangeAt Go.RowKit
set_option linter.unusedVariables false

set_option maxRecDepth 100000 in
set_option maxHeartbeats 1000000 in
theorem ref_add_wrong (w : World) (v u : Value) (ks : List (Int × List Int)) (sq : Int) (hv : Vers w v ks) (hs : ¬ (1 ≤ sq ∧ sq ≤ 1099511627776)) :
    Calls Try.prog 30 #[v, .int .i64 sq, u] w (VersPost w ks) := by
  have HV := Lib.hid hv
  clear hv
  by_cases s1 : sq < 1
  · clear hs
    go_enter Try.func30, Try.ntmps30
    go_wp2
    go_ret
    exact ⟨_, rfl, HV.out, Below.refl _ _⟩
  · have s2 : 1099511627776 < sq := by omega
    clear hs
    go_enter Try.func30, Try.ntmps30
    go_wp2
    go_ret
    exact ⟨_, rfl, HV.out, Below.refl _ _⟩

set_option maxRecDepth 100000 in
set_option maxHeartbeats 1000000 in
theorem ref_add_old (w : World) (v u : Value) (ks : List (Int × List Int)) (sq : Int) (m : Nat) (hm : ks.length = m + 1) (hv : Vers w v ks) (hn : ks.length ≤ 1000000) (s1 : 1 ≤ sq) (s2 : sq ≤ 1099511627776) (hs : sq ≤ (ks.getD m (0, [])).1) :
    Calls Try.prog 30 #[v, .int .i64 sq, u] w (VersPost w ks) := by
  obtain ⟨b, off, c, uu, rfl, hb, hcl, hcs, -, -⟩ := hv.cell m (by omega)
  obtain ⟨ls, hls⟩ : ∃ ls, (ks.getD m (0, [])).1 = ls := ⟨_, rfl⟩
  rw [hls] at hcs hs
  have HV := Lib.hid hv
  clear hv hls
  rw [hm] at hn HV ⊢
  clear hm
  have hm0 : (0 : Int) ≤ m := by omega
  have hmI : (m : Int) ≤ 1000000 := by omega
  have hs1 : ¬ sq < 1 := by omega
  have hs2 : ¬ 1099511627776 < sq := by omega
  go_enter Try.func30, Try.ntmps30
  go_wp2
  go_ret
  exact ⟨_, rfl, HV.out, Below.refl _ _⟩

set_option maxRecDepth 100000 in
set_option maxHeartbeats 1000000 in
theorem ref_add_new (w : World) (v u : Value) (ks : List (Int × List Int)) (sq : Int) (d : List Int) (hv : Vers w v ks) (hn : ks.length ≤ 1000000) (hd : IsNums .u8 w u d) (hdl : d.length ≤ 1000000) (s1 : 1 ≤ sq) (s2 : sq ≤ 1099511627776) (hs : ∀ m, ks.length = m + 1 → (ks.getD m (0, [])).1 < sq) :
    Calls Try.prog 30 #[v, .int .i64 sq, u] w (VersPost w (ks ++ [(sq, d)])) := by
  obtain ⟨pu, cu, rfl, -⟩ := id hd
  obtain ⟨rs, hrk, hrows, hdata⟩ := id hv
  have hrl : rs.length ≤ 1000000 := by have := congrArg List.length hrk; simp at this; omega
  have HONE := Lib.hid (VR.ones hdata)
  have HROWS := Lib.hid hrows
  have HDATA := Lib.hid hdata
  have HRK := Lib.hid hrk
  have HRL := Lib.hid hrl
  have HD := Lib.hid hd
  have hs1 : ¬ sq < 1 := by omega
  have hs2 : ¬ 1099511627776 < sq := by omega
  clear hrows hdata hrk hrl hd
  rcases hkl : ks.length with _ | m
  · obtain ⟨a, c, hve, hcl⟩ := hv.len
    rw [hkl] at hve
    clear hs hv hkl hcl
    subst hve
    clear hn
    go_enter Try.func30, Try.ntmps30
    go_wp2_with (first | ((with_reducible refine wpList_appV (.const (.slice none 0 0)) (.tmp 30) w.heap.size _ 0 [] (World.ownsRow_nil _ _ _ _) _ rs HROWS.out HONE.out ?_ (Nat.le_refl _) ?_ ?_ ?_); (have := HRL.out; omega); exact rfl; exact rfl; intro v1 w1 hown1 hg1 hv1; rw [Nat.zero_add, List.nil_append] at hown1; obtain ⟨p1, c1, hv1e⟩ := ownsRow_shape hown1; have hb1 := (Below.refl w.heap.size w).grown hg1 (Nat.le_refl _) (fun j hj => by cases hj); have HND := Lib.hid (HD.out.below hb1 (Nat.le_refl _)); have how : ∀ w5, Below w1.heap.size w1 w5 → ∀ o, (w5.alloc o).ownsRow w.heap.size 54 2 v1 rs.length (rs.flatMap VR.cells) := fun w5 hb o => own_keep (own_keep hown1 (Keep.ofBelow (bad := fun _ => False) hb) (fun _ _ h => h)) (Keep.alloc (fun _ => False) _ _) (fun _ _ h => h); have HOW := Lib.hid how; have HR1 := Lib.hid hown1; have HB1 := Lib.hid hb1; subst hv1e; clear hown1 hg1 hv1 hb1 how) | (at_builtin; (refine wpList_appN rfl (.const (.slice none 0 0)) (.tmp 33) 27 rfl w1.heap.size 5 .u8 1 Try.underlying27 info_u8 (by omega) _ 0 [] rfl (World.ownsRow_nil _ _ _ _) _ d rfl HND.out (by omega) (Nat.le_refl _) ?_); intro v5 w5 hown5 hb5; obtain ⟨p5, c5, rfl⟩ := ownsRow_shape hown5; rw [Nat.zero_add, List.nil_append] at hown5; rw [Nat.zero_add]; have HO5 := Lib.hid hown5; have HB5 := Lib.hid hb5; clear hown5 hb5) | ((with_reducible refine wpList_buildS1 41 54 (.tmp 35) [.int .i64 sq, .slice p5 d.length c5] _ 32 Try.underlying41 infoVer ?_ ?_ ?_ ?_); (simp); (simp); exact rfl) | ((with_reducible refine wpList_appW (.tmp 31) (.tmp 36) 41 w.heap.size 54 _ 2 32 Try.underlying41 infoVer rfl ?_ _ rs.length (rs.flatMap VR.cells) (HOW.out _ HB5.out _) ⟨w5.heap.size, 0, none⟩ 1 1 [.int .i64 sq, .slice p5 d.length c5] ?_ (verCells w5 sq _) ?_ ?_ ?_ ?_ ?_ ?_ ?_); omega; exact rfl; (intro v hv; simp at hv; rcases hv with rfl | rfl <;> rfl); (have := HRL.out; unfold maxLen; omega); (have := HRL.out; omega); (have := HB1.out.size; have := HB5.out.size; simp; omega); exact rfl; exact rfl; intro v6 w6 hown6 hg6 hv6; have HO6 := Lib.hid hown6; have HG6 := Lib.hid hg6; have HV6 := Lib.hid hv6; clear hown6 hg6 hv6))
    go_ret
    have hz2 := HB1.out.size
    have hz3 := HB5.out.size
    have hb5 : Below w1.heap.size w1 w5 := HB5.out
    have hnn : NumsOff (fun j => (Value.slice p1 rs.length c1).ownBlock = some j ∨ j = w5.heap.size + 1) w5 (.slice p5 d.length c5) d := NumsOff.ofOwn HO5.out (by
      rintro j hj1 hj2 (h | h)
      · have := (HR1.out.lt j h).2; omega
      · omega)
    have hoff : ∀ x ∈ rs, NumsOff (fun k => (Value.slice p1 rs.length c1).ownBlock = some k) w1 x.val x.data := fun x hx => NumsOff.below (N := 0) (HDATA.out x hx) HB1.out (fun k hk => (HR1.out.lt k hk).1)
    have hfin := OwnVers.snoc (r := ⟨sq, d, .slice p5 d.length c5⟩) _ hoff hb5 hnn HG6.out HV6.out HO6.out
    refine ⟨_, rfl, by rw [HRK.out] at hfin; exact hfin.vers, ?_⟩
    have hal : (w5.alloc (.cells #[.int .i64 sq, .slice p5 d.length c5] 54)).heap.size = w5.heap.size + 1 := by simp
    exact (HB1.out.trans ((hb5.trans ((Below.refl _ w5).alloc hz3 _)).mono hz2)).grown HG6.out (by omega) (fun j hj => (HR1.out.lt j hj).1)
  · obtain ⟨b, off, c, uu, hve, hb, hcl, hcs, -, -⟩ := hv.cell m (by omega)
    have hlt := hs m hkl
    obtain ⟨ls, hls⟩ : ∃ ls, (ks.getD m (0, [])).1 = ls := ⟨_, rfl⟩
    rw [hls] at hcs hlt
    rw [hkl] at hve hn
    clear hs hv hls hcl
    clear hkl
    subst hve
    have hm0 : (0 : Int) ≤ m := by omega
    have hmI : (m : Int) ≤ 1000000 := by omega
    have hle : ¬ sq ≤ ls := by omega
    go_enter Try.func30, Try.ntmps30
    go_wp2_with (first | ((with_reducible refine wpList_appV (.const (.slice none 0 0)) (.tmp 30) w.heap.size _ 0 [] (World.ownsRow_nil _ _ _ _) _ rs HROWS.out HONE.out ?_ (Nat.le_refl _) ?_ ?_ ?_); (have := HRL.out; omega); exact rfl; exact rfl; intro v1 w1 hown1 hg1 hv1; rw [Nat.zero_add, List.nil_append] at hown1; obtain ⟨p1, c1, hv1e⟩ := ownsRow_shape hown1; have hb1 := (Below.refl w.heap.size w).grown hg1 (Nat.le_refl _) (fun j hj => by cases hj); have HND := Lib.hid (HD.out.below hb1 (Nat.le_refl _)); have how : ∀ w5, Below w1.heap.size w1 w5 → ∀ o, (w5.alloc o).ownsRow w.heap.size 54 2 v1 rs.length (rs.flatMap VR.cells) := fun w5 hb o => own_keep (own_keep hown1 (Keep.ofBelow (bad := fun _ => False) hb) (fun _ _ h => h)) (Keep.alloc (fun _ => False) _ _) (fun _ _ h => h); have HOW := Lib.hid how; have HR1 := Lib.hid hown1; have HB1 := Lib.hid hb1; subst hv1e; clear hown1 hg1 hv1 hb1 how) | (at_builtin; (refine wpList_appN rfl (.const (.slice none 0 0)) (.tmp 33) 27 rfl w1.heap.size 5 .u8 1 Try.underlying27 info_u8 (by omega) _ 0 [] rfl (World.ownsRow_nil _ _ _ _) _ d rfl HND.out (by omega) (Nat.le_refl _) ?_); intro v5 w5 hown5 hb5; obtain ⟨p5, c5, rfl⟩ := ownsRow_shape hown5; rw [Nat.zero_add, List.nil_append] at hown5; rw [Nat.zero_add]; have HO5 := Lib.hid hown5; have HB5 := Lib.hid hb5; clear hown5 hb5) | ((with_reducible refine wpList_buildS1 41 54 (.tmp 35) [.int .i64 sq, .slice p5 d.length c5] _ 32 Try.underlying41 infoVer ?_ ?_ ?_ ?_); (simp); (simp); exact rfl) | ((with_reducible refine wpList_appW (.tmp 31) (.tmp 36) 41 w.heap.size 54 _ 2 32 Try.underlying41 infoVer rfl ?_ _ rs.length (rs.flatMap VR.cells) (HOW.out _ HB5.out _) ⟨w5.heap.size, 0, none⟩ 1 1 [.int .i64 sq, .slice p5 d.length c5] ?_ (verCells w5 sq _) ?_ ?_ ?_ ?_ ?_ ?_ ?_); omega; exact rfl; (intro v hv; simp at hv; rcases hv with rfl | rfl <;> rfl); (have := HRL.out; unfold maxLen; omega); (have := HRL.out; omega); (have := HB1.out.size; have := HB5.out.size; simp; omega); exact rfl; exact rfl; intro v6 w6 hown6 hg6 hv6; have HO6 := Lib.hid hown6; have HG6 := Lib.hid hg6; have HV6 := Lib.hid hv6; clear hown6 hg6 hv6))
    go_ret
    have hz2 := HB1.out.size
    have hz3 := HB5.out.size
    have hb5 : Below w1.heap.size w1 w5 := HB5.out
    have hnn : NumsOff (fun j => (Value.slice p1 rs.length c1).ownBlock = some j ∨ j = w5.heap.size + 1) w5 (.slice p5 d.length c5) d := NumsOff.ofOwn HO5.out (by
      rintro j hj1 hj2 (h | h)
      · have := (HR1.out.lt j h).2; omega
      · omega)
    have hoff : ∀ x ∈ rs, NumsOff (fun k => (Value.slice p1 rs.length c1).ownBlock = some k) w1 x.val x.data := fun x hx => NumsOff.below (N := 0) (HDATA.out x hx) HB1.out (fun k hk => (HR1.out.lt k hk).1)
    have hfin := OwnVers.snoc (r := ⟨sq, d, .slice p5 d.length c5⟩) _ hoff hb5 hnn HG6.out HV6.out HO6.out
    refine ⟨_, rfl, by rw [HRK.out] at hfin; exact hfin.vers, ?_⟩
    have hal : (w5.alloc (.cells #[.int .i64 sq, .slice p5 d.length c5] 54)).heap.size = w5.heap.size + 1 := by simp
    exact (HB1.out.trans ((hb5.trans ((Below.refl _ w5).alloc hz3 _)).mono hz2)).grown HG6.out (by omega) (fun j hj => (HR1.out.lt j hj).1)
end Go.Proofs.Ytnjmlkohgbbafaa.K
