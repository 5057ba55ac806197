/- General laws of walks: Crc5o, LisIn. -/
import Derived.Test.YtogjhjiapinmcaaDoorG2
import Derived.Deep.Matrix
import Derived.OpenShut
section
namespace Go.Proofs.YtogjhjiapinmcaaDoor.K
open Go.ChangeShapes Go.WideShapes Go.ChangeAt Go.RowKit
set_option linter.unusedVariables false

def OpenOwn (bs : List Int) (w : World) (e : Ending) (w' : World) : Prop :=
 ∃ u, e = .returned (.tuple #[u, .bool (openB bs)]) ∧ w'.ownsRow w.heap.size 5 1 u (openC bs).length ((openC bs).map (Value.int .u8)) ∧ Below w.heap.size w w'

set_option maxRecDepth 100000 in
set_option maxHeartbeats 2000000 in
theorem open_own (p : Option Addr) (n cc : Nat) (bs : List Int) (w : World) (hT : TabOk w) (h1 : 1 ≤ w.heap.size) (hv : IsNums .u8 w (.slice p (n + 4) cc) bs) (hl : bs.length = n + 4) (hcc : n + 4 ≤ cc) (hb : Bytes bs) (hn : n ≤ 10000) : Calls Tryd.prog 48 #[.slice p (n + 4 : Nat) cc] w (OpenOwn bs w) := by
 obtain ⟨b, off, rfl⟩ : ∃ b off, p = some ⟨b, off, none⟩ := by
   obtain ⟨a, c', hv1, h⟩ := hv
   simp only [Value.slice.injEq] at hv1
   obtain ⟨rfl, hl1, rfl⟩ := hv1
   rcases h with h | ⟨b', off', hh, -, -⟩
   · omega
   · exact ⟨b', off', hh⟩
 have HV := Lib.hid hv
 have HT := Lib.hid (show TabOk w.drew from hT)
 have HP := Lib.hid (show IsNums .u8 w.drew (.slice (some ⟨b, off, none⟩) n cc) (bs.take n) from by have := (hv.part 0 n (by omega) (by omega) cc n (by omega)).drew; simpa using this)
 have HQ := Lib.hid (show IsNums .u8 w.drew (.slice (some ⟨b, off + n, none⟩) 4 (cc - n)) (bs.drop n) from by have := (hv.part n (n + 4) (by omega) (by omega) (cc - n) 4 (by omega)).drew; rw [← hl, List.take_length] at this; exact this)
 have HF1 := Lib.hid (show ∀ j, j < [bs.take n].length → Bytes ([bs.take n].getD j []) ∧ ([bs.take n].getD j []).length ≤ 1000000 from by
   intro j hj
   obtain rfl : j = 0 := by simpa using hj
   refine ⟨fun i hi => ?_, ?_⟩
   · have hi' : i < (bs.take n).length := hi
     simp only [List.length_take] at hi'
     have := hb i (by omega)
     have e : (bs.take n).getD i 0 = bs.getD i 0 := by simp only [List.getD, List.getElem?_take]; rw [if_pos (by omega)]
     show 0 ≤ (bs.take n).getD i 0 ∧ (bs.take n).getD i 0 ≤ 255
     rw [e]; exact this
   · show (bs.take n).length ≤ _
     simp; omega)
 have HBB := Lib.hid hb
 have HL := Lib.hid hl
 clear hv hT hb hl
 have e0 : ((n + 4 : Nat) : Int) - 4 = (n : Int) := by omega
 go_enter Tryd.func48, Tryd.ntmps48
 go_wp2_with fail
 refine region_begin (by kernel_rfl) ?_
 refine step_read 0 (some 8) (v := ?v0) rfl (by rfl) (by kernel_rfl) (by kernel_rfl) (by kernel_rfl) (fun _ _ _ h => h) (by rfl) ?y0 ?n0
 case y0 => intro W hW; go_simp; try with_reducible rfl
 try simp only [Act.put, List.setIfInBounds_toArray, List.set_cons_zero, List.set_cons_succ]
 refine step_read 1 (some 9) (v := ?v1) rfl (by rfl) (by kernel_rfl) (by kernel_rfl) (by kernel_rfl) (fun _ _ _ h => h) (by rfl) ?y1 ?n1
 case y1 => intro W hW; go_simp; try with_reducible rfl
 try simp only [Act.put, List.setIfInBounds_toArray, List.set_cons_zero, List.set_cons_succ]
 refine step_read 2 (some 10) (v := ?v2) rfl (by rfl) (by kernel_rfl) (by kernel_rfl) (by kernel_rfl) (fun _ _ _ h => h) (by rfl) ?y2 ?n2
 case y2 => intro W hW; go_simp; try with_reducible rfl
 try simp only [Act.put, List.setIfInBounds_toArray, List.set_cons_zero, List.set_cons_succ]
 refine step_read 3 (some 11) (v := ?v3) rfl (by rfl) (by kernel_rfl) (by kernel_rfl) (by kernel_rfl) (fun _ _ _ h => h) (by rfl) ?y3 ?n3
 case y3 => intro W hW; go_simp; try with_reducible rfl
 try simp only [Act.put, List.setIfInBounds_toArray, List.set_cons_zero, List.set_cons_succ]
 refine step_read 4 (some 12) (v := ?v4) rfl (by rfl) (by kernel_rfl) (by kernel_rfl) (by kernel_rfl) (fun _ _ _ h => h) (by rfl) ?y4 ?n4
 case y4 => intro W hW; go_simp; try with_reducible rfl
 try simp only [Act.put, List.setIfInBounds_toArray, List.set_cons_zero, List.set_cons_succ]
 refine step_read 5 (some 13) (v := ?v5) rfl (by rfl) (by kernel_rfl) (by kernel_rfl) (by kernel_rfl) (fun _ _ _ h => h) (by rfl) ?y5 ?n5
 case y5 => intro W hW; go_simp; rw [if_pos (by omega), if_neg (by omega)]; try with_reducible rfl
 try simp only [Act.put, List.setIfInBounds_toArray, List.set_cons_zero, List.set_cons_succ]
 refine step_read 6 (some 14) (v := ?v6) rfl (by rfl) (by kernel_rfl) (by kernel_rfl) (by kernel_rfl) (fun _ _ _ h => h) (by rfl) ?y6 ?n6
 case y6 => intro W hW; have ec := conv_at HQ.out hW; go_simp; try with_reducible rfl
 try simp only [Act.put, List.setIfInBounds_toArray, List.set_cons_zero, List.set_cons_succ]
 refine step_read 7 (some 15) (v := ?v7) rfl (by rfl) (by kernel_rfl) (by kernel_rfl) (by kernel_rfl) (fun _ _ _ h => h) (by rfl) ?y7 ?n7
 case y7 => intro W hW; go_simp; try with_reducible rfl
 try simp only [Act.put, List.setIfInBounds_toArray, List.set_cons_zero, List.set_cons_succ]
 refine step_read 8 (some 16) (v := ?v8) rfl (by rfl) (by kernel_rfl) (by kernel_rfl) (by kernel_rfl) (fun _ _ _ h => h) (by rfl) ?y8 ?n8
 case y8 => intro W hW; go_simp; try with_reducible rfl
 try simp only [Act.put, List.setIfInBounds_toArray, List.set_cons_zero, List.set_cons_succ]
 refine step_read 9 (some 17) (v := ?v9) rfl (by rfl) (by kernel_rfl) (by kernel_rfl) (by kernel_rfl) (fun _ _ _ h => h) (by rfl) ?y9 ?n9
 case y9 => intro W hW; go_simp; rw [if_pos (by omega)]; try with_reducible rfl
 try simp only [Act.put, List.setIfInBounds_toArray, List.set_cons_zero, List.set_cons_succ]
 -- 10: buildSlice -> 18
 refine step_only 10 rfl (by kernel_rfl) (by rfl) (fun K' hK => ?_)
 go_simp
 refine hK _ _ ((Below.refl _ _).alloc (Nat.le_refl _) _) ?_
 have HT1 := Lib.hid (HT.out.alloc (by show 1 ≤ w.heap.size; exact h1) (Obj.cells #[Value.slice (some ⟨b, off, none⟩) n cc] 24))
 have HL1 := Lib.hid (CLists.one (HP.out) w.drew.heap.size rfl 24)
 clear hK K'
 try simp only [Act.put, List.setIfInBounds_toArray, List.set_cons_zero, List.set_cons_succ]
 -- 11: call:10 -> 19
 refine step_only 11 rfl (by kernel_rfl) (by rfl) (fun K' hK => ?_)
 go_simp
 go_at_call 38
 refine (sum_any _ [bs.take n] _ HT1.out HL1.out HF1.out (by simp)).mono ?_
 rintro e x ⟨rfl, rfl⟩
 refine hK _ _ (Below.refl _ _) ?_
 clear hK K'
 try simp only [Act.put, List.setIfInBounds_toArray, List.set_cons_zero, List.set_cons_succ]
 -- 12: call:15 -> 20
 refine step_only 12 rfl (by kernel_rfl) (by rfl) (fun K' hK => ?_)
 go_simp
 go_at_call 37
 refine (four_any (sumC [bs.take n]) _ (sumC_range _)).mono ?_
 rintro e x ⟨u20, rfl, hown20, bx⟩
 have K20 := Lib.hid (IsNums.ofOwn hown20)
 refine hK _ _ bx ?_
 clear hK K'
 try simp only [Act.put, List.setIfInBounds_toArray, List.set_cons_zero, List.set_cons_succ]
 refine step_read 13 (some 21) (v := ?v13) rfl (by rfl) (by kernel_rfl) (by kernel_rfl) (by kernel_rfl) (fun _ _ _ h => h) (by rfl) ?y13 ?n13
 case y13 => intro W hW; have ec := conv_at K20.out hW; go_simp; try with_reducible rfl
 try simp only [Act.put, List.setIfInBounds_toArray, List.set_cons_zero, List.set_cons_succ]
 refine step_read 14 (some 22) (v := ?v14) rfl (by rfl) (by kernel_rfl) (by kernel_rfl) (by kernel_rfl) (fun _ _ _ h => h) (by rfl) ?y14 ?n14
 case y14 => intro W hW; go_simp; try with_reducible rfl
 try simp only [Act.put, List.setIfInBounds_toArray, List.set_cons_zero, List.set_cons_succ]
 refine step_read 15 (some 23) (v := ?v15) rfl (by rfl) (by kernel_rfl) (by kernel_rfl) (by kernel_rfl) (fun _ _ _ h => h) (by rfl) ?y15 ?n15
 case y15 => intro W hW; go_simp; try with_reducible rfl
 try simp only [Act.put, List.setIfInBounds_toArray, List.set_cons_zero, List.set_cons_succ]
 refine wpAnyH_done (by kernel_rfl) ?_ _
 have heq : ((strOfNums (List.drop n bs)).toList == (strOfNums (fourC (sumC [List.take n bs]))).toList) = openB bs := by
   rw [str_beq (fun x hx => HBB.out.mem x (List.mem_of_mem_drop hx)) (fourC_bytes _).mem]
   unfold openB
   rw [show bs.length - 4 = n by rw [HL.out]; omega]
   simp only [decide_eq_decide]
   exact ⟨fun h => ⟨by rw [HL.out]; omega, h⟩, fun h => h.2⟩
 rw [heq]
 have hbd : Below w.drew.heap.size w.drew x := ((Below.refl _ w.drew).alloc (Nat.le_refl _) _).trans (show Below _ (w.drew.alloc _) x from bx.mono (by show w.heap.size ≤ _; simp))
 have hbx : Below w.heap.size w x := (Below.refl _ w).drew.trans hbd
 have hn0 : decide ((n : Int) < 0) = false := by simp
 rw [hn0]
 have HPx := Lib.hid (HP.out.below hbd (Nat.le_refl _))
 have HO := Lib.hid (rfl : openB bs = openB bs)
 have HBX := Lib.hid hbx
 clear heq hn0 hown20 bx hbx hbd K20 HT1 HL1 HF1 HQ HP
 obtain ⟨o, ho⟩ : ∃ o, openB bs = o := ⟨_, rfl⟩
 rw [ho]
 replace HO := Lib.hid ho
 clear ho
 cases o
 · go_wp2
   go_ret2
   refine ⟨.slice none 0 0, ?_, ?_, HBX.out⟩
   · rw [HO.out]; rfl
   · unfold openC; rw [if_neg (by rw [HO.out]; decide)]; exact World.ownsRow_nil _ _ _ _
 · go_wp2_with (at_builtin; refine wpList_appN rfl _ _ 24 rfl x.heap.size 5 .u8 1 Tryd.underlying24 info_u8 (by omega) _ 0 [] rfl (World.ownsRow_nil _ _ _ _) _ _ rfl HPx.out (by simp; omega) (Nat.le_refl _) ?_; intro v6 w6 hown6 hb6)
   go_ret2
   refine ⟨v6, ?_, ?_, HBX.out.trans (hb6.mono HBX.out.size)⟩
   · rw [HO.out]; rfl
   · have hown7 := ownsRow_base hown6 HBX.out.size
     unfold openC; rw [if_pos HO.out, HL.out]
     have hl9 : (bs.take (n + 4 - 4)).length = 0 + (List.take n bs).length := by rw [Nat.add_sub_cancel]; omega
     rw [hl9]
     simpa using hown7
end Go.Proofs.YtogjhjiapinmcaaDoor.K
end
section
namespace Go.Proofs.YtogjhjiapinmcaaDoor.K
open Go.ChangeShapes Go.WideShapes Go.ChangeAt Go.RowKit
set_option linter.unusedVariables false
set_option linter.unusedSimpArgs false

theorem lists_openB {H : Type} {enc : TypeId × Value → H} {W : World} {base : Nat} {held : Bool} {fuel : Nat} {a : Option Addr} {len cap : Nat} {x : DataW H × List MemPlace}
   (h : DataW.trod enc Tryd.prog W base (fun _ => true) held fuel 22 [.slice a len cap] = some x) (ce : Tryd.prog.cellsOf 24 = 1) (cq : Tryd.prog.cellsOf 5 = 1) :
   ∃ ls : List (List Int), Rd (fun _ => True) W (.slice a ls.length cap) (.l 1 (ls.map bD)) ∧ ls.length = len ∧ ∀ l ∈ ls, BytesL l := by
 rcases Deep.open_int_rows Tryd.underlying22 Tryd.underlying24 Tryd.underlying5 ce cq h with ⟨hcs, -⟩ | ⟨b, l, c, A, L, C, Z, hcs, -, hl, hm, -, hr⟩
 · simp only [List.cons.injEq, Value.slice.injEq, and_true] at hcs
   obtain ⟨rfl, rfl, rfl⟩ := hcs
   exact ⟨[], .l0 none 0 1, rfl, fun l hl => by cases hl⟩
 · simp only [List.cons.injEq, Value.slice.injEq, and_true] at hcs
   obtain ⟨rfl, rfl, rfl⟩ := hcs
   have hex : ∀ r, ∃ ys : List Int, r < len → Rd (fun _ => True) W (.slice (A r) (L r) (C r)) (.ns .u8 ys) ∧ BytesL ys := fun r => by
     by_cases hrl : r < len
     · obtain ⟨c1, c2, c3, c4, c5, c6, c7⟩ := hr r (by omega)
       obtain ⟨ys, h1, h2, h3⟩ := NumsS.ofRow (k := .u8) (w := W) (a := A r) (len := L r) (cap := C r) (zs := Z r) (by
         cases hA : A r with
         | none =>
           have := c6 hA
           exact .inl ⟨rfl, by omega, this, List.eq_nil_of_length_eq_zero (by omega)⟩
         | some a' => exact .inr ⟨a', rfl, c2, c3, c4, fun i hi => (c7 a' hA).2 i (by omega), c5⟩)
       exact ⟨ys, fun _ => ⟨h2 ▸ h1, fun z hz => bounds_u8 (h3 z hz)⟩⟩
     · exact ⟨[], fun h => absurd h hrl⟩
   obtain ⟨Y, hY⟩ : ∃ Y : Nat → List Int, ∀ r, r < len → Rd (fun _ => True) W (.slice (A r) (L r) (C r)) (.ns .u8 (Y r)) ∧ BytesL (Y r) := ⟨fun r => Classical.choose (hex r), fun r => Classical.choose_spec (hex r)⟩
   refine ⟨(List.range len).map Y, ?_, by simp, fun l hl => by obtain ⟨r, hr9, rfl⟩ := List.mem_map.1 hl; exact (hY r (List.mem_range.1 hr9)).2⟩
   by_cases h0 : len = 0
   · subst h0; exact .l0 _ _ _
   · obtain ⟨bb, bo, spot⟩ := b
     have hc0 := (hr 0 (by omega)).1
     have hspot : spot = none := by simpa [Addr.add] using World.cell?_spot hc0
     subst hspot
     have hlen : (((List.range len).map Y).map bD).length = ((List.range len).map Y).length := by simp
     have := Rd.l (S := fun _ => True) (w := W) 1 bb bo cap (((List.range len).map Y).map bD) (fun j _ => .slice (A j) (L j) (C j)) trivial (World.block_lt_of_cell? W _ hc0) (by simp; omega) (by simp [bD]) (fun j q hj hq => by
       have hjl : j < len := by simpa using hj
       have c1 := (hr j (by omega)).1
       rw [Addr.add_lit] at c1
       obtain rfl : q = 0 := by omega
       rw [Nat.mul_one, Nat.add_zero]
       exact ⟨c1, rfl⟩) (fun j q r d hj hq => by
       have hjl : j < len := by have := (List.getElem?_eq_some_iff.1 hj).1; simpa using this
       simp [bD, hjl] at hj
       subst hj
       have hq0 : q = 0 := by have := (List.getElem?_eq_some_iff.1 hq).1; simpa using this
       subst hq0
       simp at hq
       subst hq
       exact (hY j hjl).1)
     rw [hlen] at this
     exact this
end Go.Proofs.YtogjhjiapinmcaaDoor.K
end
