/- General laws of walks: Crc5o, Cha1, Cha2. -/
import Derived.Test.YtodiklpfdfjikaaDoorG3
import Derived.Test.YtodiklpfdfjikaaDoorG1
import Derived.Test.YtodiklpfdfjikaaDoorG5
section
namespace Go.Proofs.YtodiklpfdfjikaaDoor.K
open Go.ChangeShapes Go.WideShapes Go.ChangeAt Go.RowKit
set_option linter.unusedVariables false
def OpenOwn (bs : List Int) (w : World) (e : Ending) (w' : World) : Prop :=
 ∃ u, e = .returned (.tuple #[u, .bool (openB bs)]) ∧ w'.ownsRow w.heap.size 5 1 u (openC bs).length ((openC bs).map (Value.int .u8)) ∧ Below w.heap.size w w'
set_option maxRecDepth 100000 in
set_option maxHeartbeats 2000000 in
theorem open_own (p : Option Addr) (n cc : Nat) (bs : List Int) (w : World) (hT : TabOk w) (h1 : 1 ≤ w.heap.size) (hv : IsNums .u8 w (.slice p (n + 4) cc) bs) (hl : bs.length = n + 4) (hcc : n + 4 ≤ cc) (hb : Bytes bs) (hn : n ≤ 10000) : Calls Tryd.prog 23 #[.slice p (n + 4 : Nat) cc] w (OpenOwn bs w) := by
 obtain ⟨b, off, rfl⟩ : ∃ b off, p = some ⟨b, off, none⟩ := by
   obtain ⟨a, c', hv1, h⟩ := hv
   simp only [Value.slice.injEq] at hv1
   obtain ⟨rfl, hl1, rfl⟩ := hv1
   rcases h with h | ⟨b', off', hh, -, -⟩
   · omega
   exact ⟨b', off', hh⟩
 have HV := Lib.hid hv
 have HT := Lib.hid (show TabOk w.drew from hT)
 have HP := Lib.hid (show IsNums .u8 w.drew (.slice (some ⟨b, off, none⟩) n cc) (bs.take n) from by have := (hv.part 0 n (by omega) (by omega) cc n (by omega)).drew; simpa using this)
 have HQ := Lib.hid (show IsNums .u8 w.drew (.slice (some ⟨b, off + n, none⟩) 4 (cc - n)) (bs.drop n) from by have := (hv.part n (n + 4) (by omega) (by omega) (cc - n) 4 (by omega)).drew; rw [← hl, List.take_length] at this; exact this)
 have HF1 := Lib.hid (show ∀ j, j < [bs.take n].length → Bytes ([bs.take n].getD j []) ∧ ([bs.take n].getD j []).length ≤ 1000000 from by
   intro j hj
   obtain rfl : j = 0 := by simpa using hj
   refine ⟨fun i hi => ?_, ?_⟩
   · have hi' : i < (bs.take n).length := hi
     simp only [List.length_take] at hi'
     have := hb i (by omega)
     have e : (bs.take n).getD i 0 = bs.getD i 0 := by simp only [List.getD, List.getElem?_take]; rw [if_pos (by omega)]
     show 0 ≤ (bs.take n).getD i 0 ∧ (bs.take n).getD i 0 ≤ 255
     rw [e]; exact this
   show (bs.take n).length ≤ _
   simp; omega)
 have HBB := Lib.hid hb
 have HL := Lib.hid hl
 clear hv hT hb hl
 have e0 : ((n + 4 : Nat) : Int) - 4 = (n : Int) := by omega
 go_enter Tryd.func23, Tryd.ntmps23
 go_wp2_with fail
 refine region_begin (by kernel_rfl) ?_
 refine step_read 0 (some 8) (v := ?v0) rfl (by rfl) (by kernel_rfl) (by kernel_rfl) (by kernel_rfl) (fun _ _ _ h => h) (by rfl) ?y0 ?n0
 case y0 => intro W hW; go_simp; try with_reducible rfl
 try simp only [Act.put, List.setIfInBounds_toArray, List.set_cons_zero, List.set_cons_succ]
 refine step_read 1 (some 9) (v := ?v1) rfl (by rfl) (by kernel_rfl) (by kernel_rfl) (by kernel_rfl) (fun _ _ _ h => h) (by rfl) ?y1 ?n1
 case y1 => intro W hW; go_simp; try with_reducible rfl
 try simp only [Act.put, List.setIfInBounds_toArray, List.set_cons_zero, List.set_cons_succ]
 refine step_read 2 (some 10) (v := ?v2) rfl (by rfl) (by kernel_rfl) (by kernel_rfl) (by kernel_rfl) (fun _ _ _ h => h) (by rfl) ?y2 ?n2
 case y2 => intro W hW; go_simp; try with_reducible rfl
 try simp only [Act.put, List.setIfInBounds_toArray, List.set_cons_zero, List.set_cons_succ]
 refine step_read 3 (some 11) (v := ?v3) rfl (by rfl) (by kernel_rfl) (by kernel_rfl) (by kernel_rfl) (fun _ _ _ h => h) (by rfl) ?y3 ?n3
 case y3 => intro W hW; go_simp; try with_reducible rfl
 try simp only [Act.put, List.setIfInBounds_toArray, List.set_cons_zero, List.set_cons_succ]
 refine step_read 4 (some 12) (v := ?v4) rfl (by rfl) (by kernel_rfl) (by kernel_rfl) (by kernel_rfl) (fun _ _ _ h => h) (by rfl) ?y4 ?n4
 case y4 => intro W hW; go_simp; try with_reducible rfl
 try simp only [Act.put, List.setIfInBounds_toArray, List.set_cons_zero, List.set_cons_succ]
 refine step_read 5 (some 13) (v := ?v5) rfl (by rfl) (by kernel_rfl) (by kernel_rfl) (by kernel_rfl) (fun _ _ _ h => h) (by rfl) ?y5 ?n5
 case y5 => intro W hW; go_simp; rw [if_pos (by omega), if_neg (by omega)]; try with_reducible rfl
 try simp only [Act.put, List.setIfInBounds_toArray, List.set_cons_zero, List.set_cons_succ]
 refine step_read 6 (some 14) (v := ?v6) rfl (by rfl) (by kernel_rfl) (by kernel_rfl) (by kernel_rfl) (fun _ _ _ h => h) (by rfl) ?y6 ?n6
 case y6 => intro W hW; have ec := conv_at HQ.out hW; go_simp; try with_reducible rfl
 try simp only [Act.put, List.setIfInBounds_toArray, List.set_cons_zero, List.set_cons_succ]
 refine step_read 7 (some 15) (v := ?v7) rfl (by rfl) (by kernel_rfl) (by kernel_rfl) (by kernel_rfl) (fun _ _ _ h => h) (by rfl) ?y7 ?n7
 case y7 => intro W hW; go_simp; try with_reducible rfl
 try simp only [Act.put, List.setIfInBounds_toArray, List.set_cons_zero, List.set_cons_succ]
 refine step_read 8 (some 16) (v := ?v8) rfl (by rfl) (by kernel_rfl) (by kernel_rfl) (by kernel_rfl) (fun _ _ _ h => h) (by rfl) ?y8 ?n8
 case y8 => intro W hW; go_simp; try with_reducible rfl
 try simp only [Act.put, List.setIfInBounds_toArray, List.set_cons_zero, List.set_cons_succ]
 refine step_read 9 (some 17) (v := ?v9) rfl (by rfl) (by kernel_rfl) (by kernel_rfl) (by kernel_rfl) (fun _ _ _ h => h) (by rfl) ?y9 ?n9
 case y9 => intro W hW; go_simp; rw [if_pos (by omega)]; try with_reducible rfl
 try simp only [Act.put, List.setIfInBounds_toArray, List.set_cons_zero, List.set_cons_succ]
 -- 10: buildSlice -> 18
 refine step_only 10 rfl (by kernel_rfl) (by rfl) (fun K' hK => ?_)
 go_simp
 refine hK _ _ ((Below.refl _ _).alloc (Nat.le_refl _) _) ?_
 have HT1 := Lib.hid (HT.out.alloc (by show 1 ≤ w.heap.size; exact h1) (Obj.cells #[Value.slice (some ⟨b, off, none⟩) n cc] 22))
 have HL1 := Lib.hid (CLists.one (HP.out) w.drew.heap.size rfl 22)
 clear hK K'
 try simp only [Act.put, List.setIfInBounds_toArray, List.set_cons_zero, List.set_cons_succ]
 -- 11: call:10 -> 19
 refine step_only 11 rfl (by kernel_rfl) (by rfl) (fun K' hK => ?_)
 go_simp
 go_at_call 35
 refine (sum_any _ [bs.take n] _ HT1.out HL1.out HF1.out (by simp)).mono ?_
 rintro e x ⟨rfl, rfl⟩
 refine hK _ _ (Below.refl _ _) ?_
 clear hK K'
 try simp only [Act.put, List.setIfInBounds_toArray, List.set_cons_zero, List.set_cons_succ]
 -- 12: call:15 -> 20
 refine step_only 12 rfl (by kernel_rfl) (by rfl) (fun K' hK => ?_)
 go_simp
 go_at_call 34
 refine (four_any (sumC [bs.take n]) _ (sumC_range _)).mono ?_
 rintro e x ⟨u20, rfl, hown20, bx⟩
 have K20 := Lib.hid (IsNums.ofOwn hown20)
 refine hK _ _ bx ?_
 clear hK K'
 try simp only [Act.put, List.setIfInBounds_toArray, List.set_cons_zero, List.set_cons_succ]
 refine step_read 13 (some 21) (v := ?v13) rfl (by rfl) (by kernel_rfl) (by kernel_rfl) (by kernel_rfl) (fun _ _ _ h => h) (by rfl) ?y13 ?n13
 case y13 => intro W hW; have ec := conv_at K20.out hW; go_simp; try with_reducible rfl
 try simp only [Act.put, List.setIfInBounds_toArray, List.set_cons_zero, List.set_cons_succ]
 refine step_read 14 (some 22) (v := ?v14) rfl (by rfl) (by kernel_rfl) (by kernel_rfl) (by kernel_rfl) (fun _ _ _ h => h) (by rfl) ?y14 ?n14
 case y14 => intro W hW; go_simp; try with_reducible rfl
 try simp only [Act.put, List.setIfInBounds_toArray, List.set_cons_zero, List.set_cons_succ]
 refine step_read 15 (some 23) (v := ?v15) rfl (by rfl) (by kernel_rfl) (by kernel_rfl) (by kernel_rfl) (fun _ _ _ h => h) (by rfl) ?y15 ?n15
 case y15 => intro W hW; go_simp; try with_reducible rfl
 try simp only [Act.put, List.setIfInBounds_toArray, List.set_cons_zero, List.set_cons_succ]
 refine wpAnyH_done (by kernel_rfl) ?_ _
 have heq : ((strOfNums (List.drop n bs)).toList == (strOfNums (fourC (sumC [List.take n bs]))).toList) = openB bs := by
   rw [str_beq (fun x hx => HBB.out.mem x (List.mem_of_mem_drop hx)) (fourC_bytes _).mem]
   unfold openB
   rw [show bs.length - 4 = n by rw [HL.out]; omega]
   simp only [decide_eq_decide]
   exact ⟨fun h => ⟨by rw [HL.out]; omega, h⟩, fun h => h.2⟩
 rw [heq]
 have hbd : Below w.drew.heap.size w.drew x := ((Below.refl _ w.drew).alloc (Nat.le_refl _) _).trans (show Below _ (w.drew.alloc _) x from bx.mono (by show w.heap.size ≤ _; simp))
 have hbx : Below w.heap.size w x := (Below.refl _ w).drew.trans hbd
 have hn0 : decide ((n : Int) < 0) = false := by simp
 rw [hn0]
 have HPx := Lib.hid (HP.out.below hbd (Nat.le_refl _))
 have HO := Lib.hid (rfl : openB bs = openB bs)
 have HBX := Lib.hid hbx
 clear heq hn0 hown20 bx hbx hbd K20 HT1 HL1 HF1 HQ HP
 obtain ⟨o, ho⟩ : ∃ o, openB bs = o := ⟨_, rfl⟩
 rw [ho]
 replace HO := Lib.hid ho
 clear ho
 cases o
 · go_wp2
   go_ret2
   refine ⟨.slice none 0 0, ?_, ?_, HBX.out⟩
   · rw [HO.out]; rfl
   unfold openC; rw [if_neg (by rw [HO.out]; decide)]; exact World.ownsRow_nil _ _ _ _
 go_wp2_with (at_builtin; refine wpList_appN rfl _ _ 22 rfl x.heap.size 5 .u8 1 Tryd.underlying22 info_u8 (by omega) _ 0 [] rfl (World.ownsRow_nil _ _ _ _) _ _ rfl HPx.out (by simp; omega) (Nat.le_refl _) ?_; intro v6 w6 hown6 hb6)
 go_ret2
 refine ⟨v6, ?_, ?_, HBX.out.trans (hb6.mono HBX.out.size)⟩
 · rw [HO.out]; rfl
 have hown7 := ownsRow_base hown6 HBX.out.size
 unfold openC; rw [if_pos HO.out, HL.out]
 have hl9 : (bs.take (n + 4 - 4)).length = 0 + (List.take n bs).length := by rw [Nat.add_sub_cancel]; omega
 rw [hl9]
 simpa using hown7
end Go.Proofs.YtodiklpfdfjikaaDoor.K
end
section
namespace Go.Proofs.YtodiklpfdfjikaaDoor.K
open Go.ChangeShapes Go.WideShapes Go.ChangeAt Go.RowKit
set_option linter.unusedVariables false
set_option linter.unusedSimpArgs false
structure StrV where
 bl : Int
 sz : Int
 fr : Int
 to : Int
 its : List PI
def s0V : StrV := ⟨0, 0, 0, 0, []⟩
def strD (s : StrV) : List D := [.v (.int .i64 s.bl), .v (.int .i64 s.sz), .v (.int .i64 s.fr), .v (.int .i64 s.to), .l 2 (s.its.map itD)]
def laterL : List PI → List PI → List PI
 | [], b => b
 | p :: a, [] => p :: a
 | p :: a, q :: b => if p.1 < q.1 then p :: laterL a (q :: b) else if p.1 = q.1 then q :: laterL a b else q :: laterL (p :: a) b
termination_by a b => a.length + b.length
def mergeV (x y : StrV) : StrV := ⟨x.bl, x.sz, x.fr, y.to, laterL x.its y.its⟩
inductive Ev : List StrV → StrV → Prop
 | one (s : StrV) : Ev [s] s
 | two {a b : List StrV} {x y : StrV} (h1 : Ev a x) (h2 : Ev b y) : Ev (a ++ b) (mergeV x y)
def totL (l : List StrV) : Nat := (l.map (·.its.length)).sum
set_option maxRecDepth 100000
set_option maxHeartbeats 4000000
end Go.Proofs.YtodiklpfdfjikaaDoor.K
end
section
namespace Go.Proofs.YtodiklpfdfjikaaDoor.K
open Go.ChangeShapes Go.WideShapes Go.ChangeAt Go.RowKit
set_option linter.unusedVariables false
set_option linter.unusedSimpArgs false
def FolB (x y : StrV) : Prop := x.bl = y.bl ∧ x.sz = y.sz ∧ y.fr = x.to
def OkAt (l : List StrV) (i : Nat) : Prop := if i = 0 then (l.getD 0 s0V).fr < 0 else FolB (l.getD (i - 1) s0V) (l.getD i s0V)
def ChainOk (l : List StrV) : Prop := 0 < l.length ∧ ∀ i, i < l.length → OkAt l i
def sndD (e : PI) : List D := [.ns .u8 e.2]
set_option maxRecDepth 100000
set_option maxHeartbeats 4000000
end Go.Proofs.YtodiklpfdfjikaaDoor.K
end
