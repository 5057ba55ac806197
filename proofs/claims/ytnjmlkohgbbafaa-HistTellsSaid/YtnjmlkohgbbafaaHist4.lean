/- hist: timeRight, Add. -/
import Derived.Test.YtnjmlkohgbbafaaHist3
namespace Go.Proofs.Ytnjmlkohgbbafaa.K
open Go.ChangeShapes Go.WideShapes Go.ChangeAt Go.RowKit
set_option linter.unusedVariables false

/-- One more version behind a row of one's own. -/
theorem OwnVers.snoc {w w5 w6 : World} {base : Nat} {v v6 : Value} {rs : List VR} {r : VR} (o : Obj) (hoff : ∀ x ∈ rs, NumsOff (fun k => v.ownBlock = some k) w x.val x.data) (hb : Below w.heap.size w w5)
    (hr : NumsOff (fun j => v.ownBlock = some j ∨ j = w5.heap.size + 1) w5 r.val r.data) (hg : (w5.alloc o).grownBy w6 v.ownBlock) (hv6 : v6.ownBlock = v.ownBlock ∨ v6.ownBlock = some (w5.alloc o).heap.size)
    (hown : w6.ownsRow base 54 2 v6 (rs.length + 1) (rs.flatMap VR.cells ++ r.cells)) : OwnVers w6 base v6 (rs.map VR.key ++ [r.key]) := by
  have hal : (w5.alloc o).heap.size = w5.heap.size + 1 := by simp
  have k56 : Keep (fun j => v.ownBlock = some j) w5 w6 := (Keep.alloc (fun j => v.ownBlock = some j) w5 o).trans ⟨hg.os, hg.tape, hg.output, hg.size, fun j hj hn => hg.block j hj (fun e => hn e.symm)⟩
  have kw : Keep (fun j => v.ownBlock = some j) w w6 := (Keep.ofBelow (bad := fun j => v.ownBlock = some j) hb).trans k56
  have hblk : ∀ j, v6.ownBlock = some j → v.ownBlock = some j ∨ j = w5.heap.size + 1 := fun j hj => by
    rcases hv6 with e | e
    · left; rw [← e]; exact hj
    · right; rw [e] at hj; injection hj with hj; omega
  refine ⟨rs ++ [r], by simp, by rw [List.length_append, List.flatMap_append]; simpa using hown, ?_⟩
  intro x hx
  rcases List.mem_append.1 hx with hx | hx
  · obtain ⟨a', c', e1, h2 | ⟨b', o', e2, h3, h4, h5⟩⟩ := hoff x hx
    · exact ⟨a', c', e1, .inl h2⟩
    · refine ⟨a', c', e1, .inr ⟨b', o', e2, Nat.lt_of_lt_of_le h3 kw.size, fun hbad => ?_, fun j hj => ?_⟩⟩
      · rcases hblk b' hbad with h | h
        · exact h4 h
        · have := hb.size; omega
      · rw [kw.cell h4 h3]; exact h5 j hj
  · obtain rfl : x = r := by simpa using hx
    obtain ⟨a', c', e1, h2 | ⟨b', o', e2, h3, h4, h5⟩⟩ := hr
    · exact ⟨a', c', e1, .inl h2⟩
    · refine ⟨a', c', e1, .inr ⟨b', o', e2, Nat.lt_of_lt_of_le h3 k56.size, fun hbad => h4 (hblk b' hbad), fun j hj => ?_⟩⟩
      rw [k56.cell (fun h => h4 (.inl h)) h3]; exact h5 j hj
theorem verCells (w5 : World) (sq : Int) (x : Value) : ∀ j u, ([.int .i64 sq, x] : List Value)[j]? = some u → (w5.alloc (.cells #[.int .i64 sq, x] 54)).cell? ((⟨w5.heap.size, 0, none⟩ : Addr).add j) = some u := fun j u hj => by
  rw [Addr.add_lit, Nat.zero_add, (Blk.alloc w5 54 #[.int .i64 sq, x]).cell]
  simpa using hj

theorem right_yes (s : Int) (w : World) (h1 : 1 ≤ s) (h2 : s ≤ 1099511627776) : Calls Try.prog 50 #[.int .i64 s] w fun e w' => e = .returned (.bool true) ∧ w = w' := by
  go_enter Try.func50, Try.ntmps50
  go_wp2
  go_ret
  exact ⟨rfl, rfl⟩
theorem right_no (s : Int) (w : World) (h : ¬ (1 ≤ s ∧ s ≤ 1099511627776)) : Calls Try.prog 50 #[.int .i64 s] w fun e w' => e = .returned (.bool false) ∧ w = w' := by
  by_cases h1 : 1 ≤ s
  · have h2 : ¬ s ≤ 1099511627776 := fun h2 => h ⟨h1, h2⟩
    clear h
    go_enter Try.func50, Try.ntmps50
    go_wp2
    go_ret
    exact ⟨rfl, rfl⟩
  · clear h
    go_enter Try.func50, Try.ntmps50
    go_wp2
    go_ret
    exact ⟨rfl, rfl⟩

set_option maxRecDepth 100000 in
set_option maxHeartbeats 1000000 in
theorem add_first (w : World) (v u : Value) (sq : Int) (d : List Int) (hv : Vers w v []) (hd : IsNums .u8 w u d) (hdl : d.length ≤ 1000000) (s1 : 1 ≤ sq) (s2 : sq ≤ 1099511627776) :
    Calls Try.prog 29 #[v, .int .i64 sq, u] w (CopiedPost w [(sq, d)]) := by
  obtain ⟨ks, hks⟩ : ∃ ks : List (Int × List Int), [] = ks := ⟨_, rfl⟩
  rw [hks] at hv
  have hn : ks.length ≤ 1000000 := by rw [← hks]; simp
  have hpost : [(sq, d)] = ks ++ [(sq, d)] := by rw [← hks]; rfl
  rw [hpost]
  have hok : ∀ k ∈ ks, KeyOk k := by rw [← hks]; simp
  obtain ⟨a, c, rfl, hcl⟩ := hv.len
  have hl0 : ks.length = 0 := by rw [← hks]; rfl
  obtain ⟨pu, cu, rfl, -⟩ := id hd
  have HV := Lib.hid hv
  have HD := Lib.hid hd
  have HOK := Lib.hid hok
  have HL0 := Lib.hid hl0
  clear hv hd hpost hok hks hl0
  rw [HL0.out] at HV ⊢
  go_enter Try.func29, Try.ntmps29
  go_wp2_with fail
  refine (copied_any w _ ks HV.out HOK.out hn).mono ?_
  rintro e w1 ⟨v1, rfl, ⟨rs, hrk, hr1, hoff⟩, hb1⟩
  obtain ⟨p1, c1, hv1⟩ := ownsRow_shape hr1
  have HLK := Lib.hid (show rs.length ≤ 1000000 by have := congrArg List.length hrk; simp at this; omega)
  have HND := Lib.hid (HD.out.below hb1 (Nat.le_refl _))
  have HRK := Lib.hid hrk
  have HR1 := Lib.hid hr1
  have HOFF := Lib.hid hoff
  have HB1 := Lib.hid hb1
  have how : ∀ w5, Below w1.heap.size w1 w5 → ∀ o, (w5.alloc o).ownsRow w.heap.size 54 2 v1 rs.length (rs.flatMap VR.cells) := fun w5 hb o => own_keep (own_keep hr1 (Keep.ofBelow (bad := fun _ => False) hb) (fun _ _ h => h)) (Keep.alloc (fun _ => False) _ _) (fun _ _ h => h)
  have HOW := Lib.hid how
  subst hv1
  clear hrk hr1 hoff hb1 how
  go_wp2_with fail
  refine (right_yes sq w1 s1 s2).mono ?_
  rintro e w' ⟨rfl, rfl⟩
  go_wp2_with (first | (at_builtin; (refine wpList_appN rfl (.const (.slice none 0 0)) (.tmp 32) 27 rfl w1.heap.size 5 .u8 1 Try.underlying27 info_u8 (by omega) _ 0 [] rfl (World.ownsRow_nil _ _ _ _) _ d rfl HND.out (by omega) (Nat.le_refl _) ?_); intro v5 w5 hown5 hb5; obtain ⟨p5, c5, rfl⟩ := ownsRow_shape hown5; rw [Nat.zero_add, List.nil_append] at hown5; rw [Nat.zero_add]; have HO5 := Lib.hid hown5; have HB5 := Lib.hid hb5; clear hown5 hb5) | ((with_reducible refine wpList_buildS1 41 54 (.tmp 34) [.int .i64 sq, .slice p5 d.length c5] _ 32 Try.underlying41 infoVer ?_ ?_ ?_ ?_); (simp); (simp); exact rfl) | ((with_reducible refine wpList_appW (.tmp 30) (.tmp 35) 41 w.heap.size 54 _ 2 32 Try.underlying41 infoVer rfl ?_ _ rs.length (rs.flatMap VR.cells) (HOW.out _ HB5.out _) ⟨w5.heap.size, 0, none⟩ 1 1 [.int .i64 sq, .slice p5 d.length c5] ?_ (verCells w5 sq _) ?_ ?_ ?_ ?_ ?_ ?_ ?_); omega; exact rfl; (intro v hv; simp at hv; rcases hv with rfl | rfl <;> rfl); (have := HLK.out; unfold maxLen; omega); (have := HLK.out; omega); (have := HB1.out.size; have := HB5.out.size; simp; omega); exact rfl; exact rfl; intro v6 w6 hown6 hg6 hv6; have HO6 := Lib.hid hown6; have HG6 := Lib.hid hg6; have HV6 := Lib.hid hv6; clear hown6 hg6 hv6))
  go_ret
  have hz2 := HB1.out.size
  have hz3 := HB5.out.size
  have hb5 : Below w1.heap.size w1 w5 := HB5.out
  have hnn : NumsOff (fun j => (Value.slice p1 rs.length c1).ownBlock = some j ∨ j = w5.heap.size + 1) w5 (.slice p5 d.length c5) d := NumsOff.ofOwn HO5.out (by
    rintro j hj1 hj2 (h | h)
    · have := (HR1.out.lt j h).2; omega
    · omega)
  have hfin := OwnVers.snoc (r := ⟨sq, d, .slice p5 d.length c5⟩) _ HOFF.out hb5 hnn HG6.out HV6.out HO6.out
  refine ⟨_, rfl, by rw [HRK.out] at hfin; exact hfin, ?_⟩
  have hal : (w5.alloc (.cells #[.int .i64 sq, .slice p5 d.length c5] 54)).heap.size = w5.heap.size + 1 := by simp
  exact (HB1.out.trans ((hb5.trans ((Below.refl _ w5).alloc hz3 _)).mono hz2)).grown HG6.out (by omega) (fun j hj => (HR1.out.lt j hj).1)

set_option maxRecDepth 100000 in
set_option maxHeartbeats 1000000 in
theorem add_next (w : World) (v u : Value) (ks : List (Int × List Int)) (sq : Int) (d : List Int) (m : Nat) (hm : ks.length = m + 1) (hv : Vers w v ks) (hok : ∀ k ∈ ks, KeyOk k) (hn : ks.length ≤ 1000000) (hd : IsNums .u8 w u d) (hdl : d.length ≤ 1000000) (s1 : 1 ≤ sq) (s2 : sq ≤ 1099511627776) (hs : (ks.getD m (0, [])).1 < sq) :
    Calls Try.prog 29 #[v, .int .i64 sq, u] w (CopiedPost w (ks ++ [(sq, d)])) := by
  obtain ⟨b, off, c, uu, rfl, hb, hcl, hcs, -, -⟩ := hv.cell m (by omega)
  obtain ⟨pu, cu, rfl, -⟩ := id hd
  obtain ⟨ls, hls⟩ : ∃ ls, (ks.getD m (0, [])).1 = ls := ⟨_, rfl⟩
  rw [hls] at hcs hs
  have HV := Lib.hid hv
  have HD := Lib.hid hd
  have HOK := Lib.hid hok
  have HCS := Lib.hid hcs
  have HM := Lib.hid hm
  clear hv hd hok hls hcs
  rw [hm] at hn HV ⊢
  clear hm
  have hm0 : (0 : Int) ≤ m := by omega
  have hmI : (m : Int) ≤ 1000000 := by omega
  have hle : ¬ sq ≤ ls := by omega
  go_enter Try.func29, Try.ntmps29
  go_wp2_with fail
  refine (copied_any w _ ks HV.out HOK.out (by rw [HM.out]; exact hn)).mono ?_
  rintro e w1 ⟨v1, rfl, ⟨rs, hrk, hr1, hoff⟩, hb1⟩
  obtain ⟨p1, c1, hv1⟩ := ownsRow_shape hr1
  have HLK := Lib.hid (show rs.length ≤ 1000000 by have := congrArg List.length hrk; have h9 := HM.out; simp at this; omega)
  have HND := Lib.hid (HD.out.below hb1 (Nat.le_refl _))
  have HRK := Lib.hid hrk
  have HR1 := Lib.hid hr1
  have HOFF := Lib.hid hoff
  have HB1 := Lib.hid hb1
  have how : ∀ w5, Below w1.heap.size w1 w5 → ∀ o, (w5.alloc o).ownsRow w.heap.size 54 2 v1 rs.length (rs.flatMap VR.cells) := fun w5 hb o => own_keep (own_keep hr1 (Keep.ofBelow (bad := fun _ => False) hb) (fun _ _ h => h)) (Keep.alloc (fun _ => False) _ _) (fun _ _ h => h)
  have HOW := Lib.hid how
  subst hv1
  have hc1 : w1.cell? ⟨b, off + m * 2, none⟩ = some (.int .i64 ls) := by rw [hb1.cell hb]; exact HCS.out
  clear hrk hr1 hoff hb1 how
  go_wp2_with fail
  refine (right_yes sq w1 s1 s2).mono ?_
  rintro e w' ⟨rfl, rfl⟩
  go_wp2_with (first | (at_builtin; (refine wpList_appN rfl (.const (.slice none 0 0)) (.tmp 32) 27 rfl w1.heap.size 5 .u8 1 Try.underlying27 info_u8 (by omega) _ 0 [] rfl (World.ownsRow_nil _ _ _ _) _ d rfl HND.out (by omega) (Nat.le_refl _) ?_); intro v5 w5 hown5 hb5; obtain ⟨p5, c5, rfl⟩ := ownsRow_shape hown5; rw [Nat.zero_add, List.nil_append] at hown5; rw [Nat.zero_add]; have HO5 := Lib.hid hown5; have HB5 := Lib.hid hb5; clear hown5 hb5) | ((with_reducible refine wpList_buildS1 41 54 (.tmp 34) [.int .i64 sq, .slice p5 d.length c5] _ 32 Try.underlying41 infoVer ?_ ?_ ?_ ?_); (simp); (simp); exact rfl) | ((with_reducible refine wpList_appW (.tmp 30) (.tmp 35) 41 w.heap.size 54 _ 2 32 Try.underlying41 infoVer rfl ?_ _ rs.length (rs.flatMap VR.cells) (HOW.out _ HB5.out _) ⟨w5.heap.size, 0, none⟩ 1 1 [.int .i64 sq, .slice p5 d.length c5] ?_ (verCells w5 sq _) ?_ ?_ ?_ ?_ ?_ ?_ ?_); omega; exact rfl; (intro v hv; simp at hv; rcases hv with rfl | rfl <;> rfl); (have := HLK.out; unfold maxLen; omega); (have := HLK.out; omega); (have := HB1.out.size; have := HB5.out.size; simp; omega); exact rfl; exact rfl; intro v6 w6 hown6 hg6 hv6; have HO6 := Lib.hid hown6; have HG6 := Lib.hid hg6; have HV6 := Lib.hid hv6; clear hown6 hg6 hv6))
  go_ret
  have hz2 := HB1.out.size
  have hz3 := HB5.out.size
  have hb5 : Below w1.heap.size w1 w5 := HB5.out
  have hnn : NumsOff (fun j => (Value.slice p1 rs.length c1).ownBlock = some j ∨ j = w5.heap.size + 1) w5 (.slice p5 d.length c5) d := NumsOff.ofOwn HO5.out (by
    rintro j hj1 hj2 (h | h)
    · have := (HR1.out.lt j h).2; omega
    · omega)
  have hfin := OwnVers.snoc (r := ⟨sq, d, .slice p5 d.length c5⟩) _ HOFF.out hb5 hnn HG6.out HV6.out HO6.out
  refine ⟨_, rfl, by rw [HRK.out] at hfin; exact hfin, ?_⟩
  have hal : (w5.alloc (.cells #[.int .i64 sq, .slice p5 d.length c5] 54)).heap.size = w5.heap.size + 1 := by simp
  exact (HB1.out.trans ((hb5.trans ((Below.refl _ w5).alloc hz3 _)).mono hz2)).grown HG6.out (by omega) (fun j hj => (HR1.out.lt j hj).1)

end Go.Proofs.Ytnjmlkohgbbafaa.K
