/- General laws of walks. -/
import Derived.Test.YtkehgingagggaaaGreatG1
import Derived.Laws.Bits64
import Derived.RegionTactic
import Derived.ChangeAlike
import Derived.Lib.SlBytesConst
import Derived.Deep.Matrix
import Derived.Test.YtkehgingagggaaaGreatG10
namespace Go.Proofs.YtkehgingagggaaaGreat.K
open Go.ChangeShapes Go.WideShapes Go.ChangeAt Go.RowKit
set_option linter.unusedVariables false
set_option linter.unusedSimpArgs false
section
def encF : Nat → Nat → List Int
 | 0,n => [(n : Int)]
 | f + 1,n => if n < 128 then [(n : Int)] else ((n % 128 + 128 : Nat) : Int) :: encF f (n / 128)
def enc (n : Int) : List Int := encF 9 n.toNat
def encs (l : List Int) : List Int := l.flatMap enc
theorem or128 (y : Nat) : bits .or .u8 ((y : Int) % 256) 128 = ((y % 128 + 128 : Nat) : Int) := by
 have h : ∀ z : Fin 256,bits .or .u8 ((z.val : Nat) : Int) 128 = ((z.val % 128 + 128 : Nat) : Int) := by decide +kernel
 have := h ⟨y % 256,by omega⟩
 simp only at this
 rw [show ((y : Int) % 256) = ((y % 256 : Nat) : Int) by omega,this]
 omega
theorem encF_len : ∀ (f n : Nat),(encF f n).length ≤ f + 1 ∧ 1 ≤ (encF f n).length
 | 0,n => by simp [encF]
 | f + 1,n => by
   unfold encF
   have := encF_len f (n / 128)
   split <;> simp <;> omega
theorem enc_len (n : Int) : (enc n).length ≤ 10 ∧ 1 ≤ (enc n).length := encF_len 9 _
theorem encs_len : ∀ l : List Int,(encs l).length ≤ 10 * l.length
 | [] => by simp [encs]
 | a :: l => by
   have h1 := (enc_len a).1
   have h2 := encs_len l
   simp only [encs,List.flatMap_cons,List.length_append,List.length_cons] at h2 ⊢
   omega
theorem encs_snoc (l : List Int) (k : Nat) (h : k < l.length) : encs (l.take (k + 1)) = encs (l.take k) ++ enc (l.getD k 0) := by
 rw [List.take_succ_eq_append_getElem h]
 simp only [encs,List.flatMap_append,List.flatMap_cons,List.flatMap_nil,List.append_nil,List.getD,List.getElem?_eq_getElem h,Option.getD_some]
theorem len_take_le (l : List Int) (k : Nat) : (l.take k).length ≤ k := List.length_take_le _ _
set_option maxRecDepth 100000 in
set_option maxHeartbeats 2000000 in
theorem put_any (v : Value) (ns : List Int) (w : World) (hv : IsNums .u64 w v ns) (hb : ∀ j,j < ns.length → 0 ≤ ns.getD j 0 ∧ ns.getD j 0 ≤ 18446744073709551615) (hl : ns.length ≤ 1000) :
   Calls Tryz.prog 104 #[v] w fun e w' => ∃ u,e = .returned u ∧ w'.ownsRow w.heap.size 5 1 u (encs ns).length ((encs ns).map (Value.int .u8)) ∧ Below w.heap.size w w' := by
 obtain ⟨p,c,rfl,h⟩ := hv
 have H := Lib.hid h
 have HB := Lib.hid hb
 clear h hb
 go_enter Tryz.func104,Tryz.ntmps104
 go_wp2
 go_loopw [3,8] (fun u i wr => ∃ k : Nat,k ≤ ns.length ∧ i = .int .i64 k ∧ wr.ownsRow w.heap.size 5 1 u (encs (ns.take k)).length ((encs (ns.take k)).map (Value.int .u8)) ∧ Below w.heap.size w wr) (fun _ i _ => ns.length - (intOf i).toNat)
 case atStart => exact ⟨0,Nat.zero_le _,rfl,World.ownsRow_nil _ _ _ _,Below.refl _ _⟩
 case round =>
   obtain ⟨k,hk,rfl,hown,hbel⟩ := hrel
   by_cases hlt : k < ns.length
   · obtain h0 | ⟨b,off,rfl,hblk,hcell⟩ := H.out
     · omega
     have hc : wr.cell? ⟨b,off + k,none⟩ = some (.int .u64 (ns.getD k 0)) := by rw [hbel.cell hblk]; exact hcell k hlt
     obtain ⟨x0,x1⟩ := HB.out k hlt
     obtain ⟨x,hx⟩ : ∃ x : Nat,ns.getD k 0 = (x : Int) := ⟨(ns.getD k 0).toNat,by omega⟩
     rw [hx] at hc x0 x1
     have HX := Lib.hid hx
     clear hcell hx
     have hlen := encs_len (ns.take k)
     have hlt2 := len_take_le ns k
     generalize hN : (encs (ns.take k)).length = N at hown hlen
     have HN := Lib.hid hN
     clear hN
     have hbz := hbel.size
     obtain ⟨wo,rfl⟩ : ∃ wo : World,wo = wr := ⟨_,rfl⟩
     go_wp2
     go_loopw [3,5] (fun u y wr => ∃ (f n : Nat) (dn : List Int),y = .int .u64 (n : Int) ∧ n < 128 ^ (f + 1) ∧ (n : Int) ≤ 18446744073709551615 ∧ dn ++ encF f n = enc x ∧ wr.ownsRow w.heap.size 5 1 u (N + dn.length) ((encs (ns.take k) ++ dn).map (Value.int .u8)) ∧ Below w.heap.size w wr) (fun _ y _ => (intOf y).toNat)
     case atStart => exact ⟨9,x,[],rfl,by omega,by omega,rfl,by simpa using hown,hbel⟩
     case round =>
       obtain ⟨f,n,dn,rfl,hn1,hn2,hdn,hown2,hbel2⟩ := hrel
       have hdl : dn.length ≤ 10 := by
         have h1 := (enc_len x).1
         rw [← hdn] at h1
         simp at h1; omega
       have hsz2 := hbel2.size
       have HD := Lib.hid hdn
       have HP := Lib.hid hn1
       clear hdn hn1
       have ho := or128 n
       by_cases hge : 128 ≤ n
       · go_wp2_with (at_builtin; refine wpList_app1 rfl _ _ 22 rfl w.heap.size 5 .u8 1 Tryz.underlying22 info_u8 (by omega) _ _ _ rfl hown2 _ 1 rfl (by omega) hsz2 ?_; intro v' w' hown' hb')
         rcases f with _ | f
         · exfalso; have := HP.out; omega
         go_roundw
         case rel =>
           refine ⟨f,n / 128,dn ++ [((n % 128 + 128 : Nat) : Int)],by simp,?_,by omega,?_,?_,hbel2.trans hb'⟩
           · have := HP.out
             rw [Nat.pow_succ] at this
             exact Nat.div_lt_of_lt_mul (by rw [Nat.mul_comm]; exact this)
           · rw [← HD.out,encF,if_neg (by omega)]; simp
           rw [show N + (dn ++ [((n % 128 + 128 : Nat) : Int)]).length = N + dn.length + 1 by simp; omega]
           simpa using hown'
         case measure => simp [intOf]; omega
       have hen : encF f n = [(n : Int)] := by cases f <;> simp [encF]; omega
       have HE := Lib.hid hen
       clear hen ho
       go_wp2_with (at_builtin; refine wpList_app1 rfl _ _ 22 rfl w.heap.size 5 .u8 1 Tryz.underlying22 info_u8 (by omega) _ _ _ rfl hown2 _ 1 rfl (by omega) hsz2 ?_; intro v' w' hown' hb')
       have hd2 := HD.out
       rw [HE.out] at hd2
       go_roundw
       case rel =>
         refine ⟨k + 1,by omega,by go_num,?_,hbel2.trans hb'⟩
         rw [encs_snoc _ _ hlt,HX.out,← hd2,List.length_append,HN.out,List.length_append]
         rw [show N + (dn.length + [(n : Int)].length) = N + dn.length + 1 by simp; omega]
         simpa using hown'
       case measure => simp [intOf]; omega
   obtain rfl : k = ns.length := by omega
   rw [List.take_length] at hown
   go_wp2
   go_ret
   exact ⟨_,rfl,hown,hbel⟩
end
section
set_option maxRecDepth 100000 in
set_option maxHeartbeats 2000000 in
theorem grow_nil (n : Nat) (w : World) (hn : n ≤ 1000000) :
   Calls Tryz.prog 116 #[.slice none 0 0,.int .i64 n] w fun e w' => ∃ u,e = .returned u ∧ w'.ownsRow w.heap.size 5 1 u 0 [] ∧ Below w.heap.size w w' := by
 by_cases h0 : n = 0
 · subst h0
   go_enter Tryz.func116,Tryz.ntmps116
   go_wp2
   go_ret
   exact ⟨_,rfl,World.ownsRow_nil _ _ _ _,Below.refl _ _⟩
 obtain ⟨i0,hi,hz0,hz1,hz2⟩ := info_parts info_u8
 have hbn : n * i0.bytes ≤ 140737488355328 := by rw [hz2]; omega
 have hrz : ∀ ty,(Builtin.append_ #[22,3] ty #[.slice none 0 0,.int .i64 (n : Int)]).run Tryz.prog w =
     .ok (.slice (some ⟨w.heap.size,0,none⟩) n (grownCap w n 0 5)) (w.drew.alloc (.cells (#[] ++ Builtin.zeroCells (Value.int .u8 0).cells n ++ Builtin.zeroCells (Value.int .u8 0).cells (grownCap w n 0 5 - n)) 5)) := fun ty => by
   have h := Lib.run_append_grow_zeros w 22 3 ty 5 i0 (.int .u8 0) .i64 .i64 Tryz.underlying22 Tryz.underlying3 hi hz0 none 0 0 [] (run_firstCells_none w.drew i0.size 0 0 0) n (by omega) (by omega) (by omega) (by omega) (by omega)
     (by rw [Nat.zero_add]; exact growslice_fits (by omega) hbn)
   rw [Nat.zero_add] at h
   exact h
 have hG := grownCap_ge w n 0 5
 have hM := grownCap_le_maxLen w n 0 5 (by unfold maxLen; omega)
 generalize grownCap w n 0 5 = G at hrz hG hM
 have hown : (w.drew.alloc (.cells (#[] ++ Builtin.zeroCells (Value.int .u8 0).cells n ++ Builtin.zeroCells (Value.int .u8 0).cells (G - n)) 5)).ownsRow w.heap.size 5 1 (.slice (some ⟨w.heap.size,0,none⟩) 0 G) 0 [] := by
   refine World.ownsRow_made w.drew _ G (Nat.le_refl _) hM ?_
   have h1 : (Value.int .u8 0).cells.size = 1 := rfl
   simp [size_zeroCells,h1]
   omega
 have hbel : Below w.heap.size w (w.drew.alloc (.cells (#[] ++ Builtin.zeroCells (Value.int .u8 0).cells n ++ Builtin.zeroCells (Value.int .u8 0).cells (G - n)) 5)) := ((Below.refl _ w).drew).alloc (Nat.le_refl _) _
 generalize (w.drew.alloc (.cells (#[] ++ Builtin.zeroCells (Value.int .u8 0).cells n ++ Builtin.zeroCells (Value.int .u8 0).cells (G - n)) 5)) = W' at hrz hown hbel
 have HO := Lib.hid hown
 have HB := Lib.hid hbel
 clear hown hbel hi hz0 hz1 hz2
 unfold maxLen at hM
 go_enter Tryz.func116,Tryz.ntmps116
 go_wp2_with (at_builtin; refine Lib.wpList_append_run _ rfl _ _ _ _ rfl _ _ rfl rfl _ _ (hrz _) ?_)
 all_goals (go_ret; exact ⟨_,rfl,HO.out,HB.out⟩)
def IsLists (w : World) (v : Value) (ls : List (List Int)) : Prop :=
 ∃ a c,v = .slice a ls.length c ∧ (ls.length = 0 ∨ ∃ b off,a = some ⟨b,off,none⟩ ∧ b < w.heap.size ∧ ∀ j,j < ls.length → ∃ u,w.cell? ⟨b,off + j,none⟩ = some u ∧ IsNums .u8 w u (ls.getD j []))
def sumLen (ls : List (List Int)) : Nat := ls.flatten.length
theorem flatten_snoc (ls : List (List Int)) (k : Nat) (h : k < ls.length) : (ls.take (k + 1)).flatten = (ls.take k).flatten ++ ls.getD k [] := by
 rw [List.take_succ_eq_append_getElem h]; simp only [List.flatten_append,List.flatten_cons,List.flatten_nil,List.append_nil,List.getD,List.getElem?_eq_getElem h,Option.getD_some]
theorem sumLen_snoc (ls : List (List Int)) (k : Nat) (h : k < ls.length) : sumLen (ls.take (k + 1)) = sumLen (ls.take k) + (ls.getD k []).length := by
 unfold sumLen; rw [flatten_snoc _ _ h,List.length_append]
theorem sumLen_take (ls : List (List Int)) (k : Nat) : sumLen (ls.take k) ≤ sumLen ls := by
 have : ls.flatten = (ls.take k).flatten ++ (ls.drop k).flatten := by rw [← List.flatten_append,List.take_append_drop]
 unfold sumLen; rw [this]; simp
set_option maxRecDepth 100000 in
set_option maxHeartbeats 2000000 in
theorem join_any (v : Value) (ls : List (List Int)) (w : World) (hv : IsLists w v ls) (hl : ls.length ≤ 1000) (hs : sumLen ls ≤ 1000000) :
   Calls Tryz.prog 68 #[v] w fun e w' => ∃ u,e = .returned u ∧ w'.ownsRow w.heap.size 5 1 u ls.flatten.length (ls.flatten.map (Value.int .u8)) ∧ Below w.heap.size w w' := by
 obtain ⟨p,c,rfl,h⟩ := hv
 have H := Lib.hid h
 clear h
 go_enter Tryz.func68,Tryz.ntmps68
 go_wp2
 go_loop [3,11] (fun n i => ∃ k : Nat,k ≤ ls.length ∧ i = .int .i64 k ∧ n = .int .i64 (sumLen (ls.take k) : Nat)) (fun _ i => ls.length - (intOf i).toNat)
 case atStart => exact ⟨0,Nat.zero_le _,rfl,rfl⟩
 case round =>
   obtain ⟨k,hk,rfl,rfl⟩ := hrel
   have hst := sumLen_take ls k
   obtain ⟨S0,hS0⟩ : ∃ S,sumLen (ls.take k) = S := ⟨_,rfl⟩
   by_cases hlt : k < ls.length
   · obtain h0 | ⟨b,off,rfl,hblk,hcell⟩ := H.out
     · omega
     obtain ⟨u,hc,pu,cu,rfl,-⟩ := hcell k hlt
     have hsn := sumLen_snoc ls k hlt
     obtain ⟨L,hL⟩ : ∃ L,(ls.getD k []).length = L := ⟨_,rfl⟩
     rw [hL] at hsn hc
     have hst2 := sumLen_take ls (k + 1)
     rw [hsn] at hst2
     rw [hS0] at hst hsn hst2 ⊢
     have HS := Lib.hid hsn
     have H0 := Lib.hid hS0
     have H1 := Lib.hid hL
     clear hsn hS0 hcell hL
     go_wp2
     go_round
     case rel => exact ⟨k + 1,by omega,by go_num,by rw [HS.out,Int.natCast_add]⟩
     case measure => simp [intOf]; omega
   obtain rfl : k = ls.length := by omega
   rw [List.take_length] at hst ⊢
   clear hS0
   go_wp2_with fail
   refine (grow_nil (sumLen ls) w hs).mono ?_
   rintro e w1 ⟨u,rfl,hown,hb⟩
   go_wp2
   go_loopw [6,24] (fun u i wr => ∃ k : Nat,k ≤ ls.length ∧ i = .int .i64 k ∧ wr.ownsRow w.heap.size 5 1 u (sumLen (ls.take k)) ((ls.take k).flatten.map (Value.int .u8)) ∧ Below w.heap.size w wr) (fun _ i _ => ls.length - (intOf i).toNat)
   case atStart => exact ⟨0,Nat.zero_le _,rfl,by simpa [sumLen] using hown,hb⟩
   case round =>
     obtain ⟨k,hk,rfl,hown,hbel⟩ := hrel
     have hst := sumLen_take ls k
     by_cases hlt : k < ls.length
     · obtain h0 | ⟨b,off,rfl,hblk,hcell⟩ := H.out
       · omega
       obtain ⟨u,hc0,hu⟩ := hcell k hlt
       have hc : wr.cell? ⟨b,off + k,none⟩ = some u := by rw [hbel.cell hblk]; exact hc0
       have hu2 : IsNums .u8 wr u (ls.getD k []) := hu.below hbel (Nat.le_refl _)
       have HS := Lib.hid (sumLen_snoc ls k hlt)
       have HF := Lib.hid (flatten_snoc ls k hlt)
       have hst2 := sumLen_take ls (k + 1)
       rw [HS.out] at hst2
       have hsz := hbel.size
       have HU := Lib.hid hu2
       obtain ⟨S0,hS0⟩ : ∃ S,sumLen (ls.take k) = S := ⟨_,rfl⟩
       rw [hS0] at hst hst2 hown
       have H0 := Lib.hid hS0
       obtain ⟨L,hL⟩ : ∃ L,(ls.getD k []).length = L := ⟨_,rfl⟩
       rw [hL] at hst2
       have H1 := Lib.hid hL
       clear hcell hc0 hu hu2 hS0 hL
       go_wp2_with (at_builtin; refine wpList_appN rfl _ _ 22 rfl w.heap.size 5 .u8 1 Tryz.underlying22 info_u8 (by omega) _ _ _ rfl hown _ _ rfl HU.out (by rw [H1.out]; omega) hsz ?_; intro v' w' hown' hb')
       go_roundw
       case rel => exact ⟨k + 1,by omega,by go_num,by rw [HS.out,HF.out,H0.out,List.map_append]; exact hown',hbel.trans hb'⟩
       case measure => simp [intOf]; omega
     obtain rfl : k = ls.length := by omega
     rw [List.take_length] at hown
     go_wp2
     go_ret
     exact ⟨_,rfl,hown,hbel⟩
end
section
def NumsLt (N : Nat) (k : IntKind) (w : World) (v : Value) (zs : List Int) : Prop :=
 ∃ a c,v = .slice a zs.length c ∧ zs.length ≤ c ∧ c ≤ 9223372036854775807 ∧ (zs.length = 0 ∨ ∃ b off,a = some ⟨b,off,none⟩ ∧ b < N ∧ ∀ j,j < zs.length → w.cell? ⟨b,off + j,none⟩ = some (.int k (zs.getD j 0)))
theorem NumsLt.below {N : Nat} {k : IntKind} {w w' : World} {v : Value} {zs : List Int} (h : NumsLt N k w v zs) (hb : Below N w w') : NumsLt N k w' v zs := by
 obtain ⟨a,c,rfl,hc1,hc2,h | ⟨b,off,rfl,h1,h2⟩⟩ := h
 · exact ⟨a,c,rfl,hc1,hc2,.inl h⟩
 refine ⟨_,c,rfl,hc1,hc2,.inr ⟨b,off,rfl,h1,fun j hj =>?_⟩⟩
 rw [hb.cell (by show b < N; omega)]
 exact h2 j hj
theorem NumsLt.nums {N : Nat} {k : IntKind} {w : World} {v : Value} {zs : List Int} (h : NumsLt N k w v zs) (hN : N ≤ w.heap.size) : IsNums k w v zs := by
 obtain ⟨a,c,rfl,hc1,hc2,h | ⟨b,off,rfl,h1,h2⟩⟩ := h
 · exact ⟨a,c,rfl,.inl h⟩
 exact ⟨_,c,rfl,.inr ⟨b,off,rfl,by omega,h2⟩⟩
inductive Dec where
 | ok (n : Nat) (k : Nat)
 | err (e : Int)
def dec : Nat → Nat → List Int → Dec
 | _,_,[] => .err 21
 | acc,i,b :: r => if (i = 9 ∧ 1 < b) ∨ (0 < i ∧ b = 0) then .err 20 else
     if b < 128 then .ok (acc + (b % 128).toNat * 2 ^ (7 * i)) (i + 1) else dec (acc + (b % 128).toNat * 2 ^ (7 * i)) (i + 1) r
theorem andNot128 (b : Int) (h0 : 0 ≤ b) (h1 : b ≤ 255) : bits .andNot .u8 b 128 = b % 128 := by
 have h : ∀ z : Fin 256,bits .andNot .u8 ((z.val : Nat) : Int) 128 = ((z.val : Nat) : Int) % 128 := by decide +kernel
 have := h ⟨b.toNat,by omega⟩
 simp only at this
 rw [show ((b.toNat : Nat) : Int) = b by omega] at this
 exact this
theorem or_shift (acc k : Nat) (x : Int) (hacc : acc < 2 ^ (7 * k)) (hk : k ≤ 9) (x0 : 0 ≤ x) (hx : x ≤ 255) (h9 : k = 9 → x ≤ 1) :
   bits .or .u64 (acc : Int) (IntKind.u64.wrap (x % 128 * 2 ^ (7 * k))) = ((acc + (x % 128).toNat * 2 ^ (7 * k) : Nat) : Int) := by
 obtain ⟨y,hy⟩ : ∃ y : Nat,x % 128 = y := ⟨(x % 128).toNat,by omega⟩
 have hy1 : y < 128 := by omega
 have hy9 : k = 9 → y ≤ 1 := fun h => by have := h9 h; omega
 rw [hy]
 have hb : y * 2 ^ (7 * k) < 2 ^ 64 := by
   by_cases e : k = 9
   · subst e
     have := hy9 rfl
     have : y * 2 ^ (7 * 9) ≤ 1 * 2 ^ (7 * 9) := Nat.mul_le_mul_right _ this
     exact Nat.lt_of_le_of_lt this (by decide)
   have h1 : 2 ^ (7 * k) ≤ 2 ^ 56 := Nat.pow_le_pow_right (by decide) (by omega)
   have h2 : y * 2 ^ (7 * k) ≤ 127 * 2 ^ 56 := Nat.mul_le_mul (by omega) h1
   exact Nat.lt_of_le_of_lt h2 (by decide)
 have ha : acc < 2 ^ 64 := Nat.lt_of_lt_of_le hacc (Nat.pow_le_pow_right (by decide) (by omega))
 have hcast : ((y : Int) * 2 ^ (7 * k)) = ((y * 2 ^ (7 * k) : Nat) : Int) := by simp
 have hw : ∀ n : Int,0 ≤ n → n < 2 ^ 64 → IntKind.u64.wrap n = n := fun n h0 h1 => by rw [IntKind.wrap_u64]; omega
 rw [hcast,hw _ (by omega) (by have : ((y * 2 ^ (7 * k) : Nat) : Int) < ((2 ^ 64 : Nat) : Int) := Int.ofNat_lt.2 hb; simpa using this)]
 have h := (bits_nat .u64 64 (by decide) hw acc (y * 2 ^ (7 * k)) ha hb).2
 rw [h]
 have h2 : 2 ^ (7 * k) * y + acc = 2 ^ (7 * k) * y ||| acc := Nat.two_pow_add_eq_or_of_lt hacc y
 rw [Nat.or_comm,Nat.mul_comm y,← h2,Int.toNat_natCast,Nat.mul_comm,Nat.add_comm]
theorem acc_bound (acc k : Nat) (x : Int) (hacc : acc < 2 ^ (7 * k)) : acc + (x % 128).toNat * 2 ^ (7 * k) < 2 ^ (7 * (k + 1)) := by
 have h1 : (x % 128).toNat ≤ 127 := by omega
 have h2 : (x % 128).toNat * 2 ^ (7 * k) ≤ 127 * 2 ^ (7 * k) := Nat.mul_le_mul_right _ h1
 rw [show 7 * (k + 1) = 7 * k + 7 by omega,Nat.pow_add]
 omega
def IsReader (w : World) (B : Nat) (v : Value) (bs : List Int) (e : Int) : Prop :=
 w.cell? ⟨B,0,none⟩ = some v ∧ w.cell? ⟨B,1,none⟩ = some (.int .i64 e) ∧ w.frozen? ⟨B,0,none⟩ = false ∧ w.frozen? ⟨B,1,none⟩ = false ∧ NumsLt B .u8 w v bs ∧ ∀ x ∈ bs,0 ≤ x ∧ x ≤ 255
theorem reader_shift {w : World} {B b off c k c' : Nat} {bs : List Int} {e : Int} {v : Value} {a' : Option Addr} (h0 : w.cell? ⟨B,0,none⟩ = some v) (h1 : w.cell? ⟨B,1,none⟩ = some (.int .i64 e)) (h2 : w.frozen? ⟨B,0,none⟩ = false) (h3 : w.frozen? ⟨B,1,none⟩ = false)
   (hblk : b < B) (hcell : ∀ j,j < bs.length → w.cell? ⟨b,off + j,none⟩ = some (.int .u8 (bs.getD j 0))) (hbs : ∀ x ∈ bs,0 ≤ x ∧ x ≤ 255) (hk : k ≤ bs.length) (hc1 : bs.length - k ≤ c') (hc2 : c' ≤ 9223372036854775807) (ha : bs.length - k = 0 ∨ a' = some ⟨b,off + k,none⟩) :
   IsReader (w.setCell ⟨B,0,none⟩ (.slice a' (bs.length - k) c')) B (.slice a' (bs.length - k) c') (bs.drop k) e := by
 refine ⟨World.cell?_setCell_same _ _ _ h0,?_,by rw [World.frozen?_setCell]; exact h2,by rw [World.frozen?_setCell]; exact h3,?_,fun x hx => hbs x (List.mem_of_mem_drop hx)⟩
 · rw [World.cell?_setCell_other _ _ _ _ (by simp)]; exact h1
 have hl : (bs.drop k).length = bs.length - k := by simp
 refine NumsLt.below (w := w) ⟨a',c',by rw [hl],by omega,hc2,?_⟩ ((Below.refl B w).setCell (p := ⟨B,0,none⟩) (Nat.le_refl _) _)
 rcases ha with ha | ha
 · left; omega
 right
 refine ⟨b,off + k,ha,hblk,fun j hj =>?_⟩
 have := hcell (k + j) (by omega)
 rw [show off + k + j = off + (k + j) by omega,this]
 simp [List.getD]
def decPost (w : World) (B : Nat) (bs : List Int) (e : Int) : Dec → Ending → World → Prop
 | .ok n k,en,w' => en = .returned (.tuple #[.int .u64 n,.int .i64 0]) ∧ ∃ v',w' = w.setCell ⟨B,0,none⟩ v' ∧ IsReader w' B v' (bs.drop k) e
 | .err er,en,w' => en = .returned (.tuple #[.int .u64 0,.int .i64 er]) ∧ w' = w
end
section
def Only (B : Nat) (w w' : World) : Prop := w.grownBy w' (some B)
theorem Only.refl (B : Nat) (w : World) : Only B w w := ⟨rfl,rfl,rfl,Nat.le_refl _,fun _ _ _ => rfl⟩
theorem Only.trans {B : Nat} {a b c : World} (h : Only B a b) (k : Only B b c) : Only B a c :=
 ⟨k.os.trans h.os,k.tape.trans h.tape,k.output.trans h.output,Nat.le_trans h.size k.size,fun i hi hne => (k.block i (Nat.lt_of_lt_of_le hi h.size) hne).trans (h.block i hi hne)⟩
theorem Only.set (B : Nat) (w : World) (o : Nat) (v : Value) : Only B w (w.setCell ⟨B,o,none⟩ v) :=
 ⟨rfl,rfl,rfl,by simp [World.setCell],fun k _ hne => Below.heap_setCell _ _ _ _ (fun e => hne (by rw [e]))⟩
theorem Only.ofBelow {B : Nat} {w w' : World} (h : Below w.heap.size w w') : Only B w w' := ⟨h.os,h.tape,h.output,h.size,fun k hk _ => h.block k hk⟩
theorem Only.below {B N : Nat} {w w' : World} (h : Only B w w') (hB : N ≤ B) (hN : N ≤ w.heap.size) : Below N w w' :=
 ⟨h.os,h.tape,h.output,h.size,fun k hk => h.block k (by omega) (fun e => by cases e; omega)⟩
theorem Only.drew (B : Nat) (w : World) : Only B w w.drew := ⟨rfl,rfl,rfl,Nat.le_refl _,fun _ _ _ => rfl⟩
theorem IsReader.lt {w : World} {B : Nat} {v : Value} {bs : List Int} {e : Int} (h : IsReader w B v bs e) : B < w.heap.size := World.block_lt_of_cell? w ⟨B,0,none⟩ h.1
theorem IsReader.kept {w w' : World} {B B2 : Nat} {v : Value} {bs : List Int} {e : Int} (h : IsReader w B v bs e) (ho : Only B2 w w') (hB : B < B2) : IsReader w' B v bs e := by
 have hlt := h.lt
 obtain ⟨h0,h1,h2,h3,h4,h5⟩ := h
 have hb : w'.heap[B]? = w.heap[B]? := ho.block B hlt (fun e => by cases e; omega)
 exact ⟨by rw [World.cell?_of_block (w := w) hb]; exact h0,by rw [World.cell?_of_block (w := w) hb]; exact h1,by rw [World.frozen?_of_block (w := w) hb]; exact h2,by rw [World.frozen?_of_block (w := w) hb]; exact h3,h4.below (ho.below (by omega) (by omega)),h5⟩
theorem IsReader.later {w w' : World} {B : Nat} {v : Value} {bs : List Int} {e : Int} (h : IsReader w B v bs e) (hb : Below w.heap.size w w') : IsReader w' B v bs e := by
 have hlt := h.lt
 obtain ⟨h0,h1,h2,h3,h4,h5⟩ := h
 exact ⟨by rw [hb.cell (by exact hlt)]; exact h0,by rw [hb.cell (by exact hlt)]; exact h1,by rw [hb.frozen (by exact hlt)]; exact h2,by rw [hb.frozen (by exact hlt)]; exact h3,h4.below (hb.mono (by omega)),h5⟩
theorem dec_err : ∀ (bs : List Int) (acc i : Nat) (er : Int),dec acc i bs = .err er → er = 20 ∨ er = 21
 | [],acc,i,er,h => by rw [dec] at h; cases h; exact .inr rfl
 | b :: r,acc,i,er,h => by
   rw [dec] at h
   split at h
   · cases h; exact .inl rfl
   split at h
   · cases h
   exact dec_err r _ _ er h
theorem dec_ok : ∀ (bs : List Int) (acc i n k : Nat),(∀ x ∈ bs,0 ≤ x ∧ x ≤ 255) → i ≤ 9 → acc < 2 ^ (7 * i) → dec acc i bs = .ok n k → n < 2 ^ 64 ∧ i < k ∧ k ≤ i + bs.length
 | [],acc,i,n,k,_,_,_,h => by rw [dec] at h; cases h
 | b :: r,acc,i,n,k,hb,hi,ha,h => by
   have hbb := hb b (by simp)
   rw [dec] at h
   split at h
   · cases h
   rename_i hc
   split at h
   · cases h
     refine ⟨?_,by omega,by simp⟩
     by_cases h9 : i = 9
     · subst h9
       have : (b % 128).toNat ≤ 1 := by omega
       have h2 : (b % 128).toNat * 2 ^ (7 * 9) ≤ 1 * 2 ^ (7 * 9) := Nat.mul_le_mul_right _ this
       have h3 : (2 : Nat) ^ (7 * 9) + 2 ^ (7 * 9) = 2 ^ 64 := by decide
       omega
     have := acc_bound acc i b ha
     have h2 : 2 ^ (7 * (i + 1)) ≤ 2 ^ 64 := Nat.pow_le_pow_right (by decide) (by omega)
     omega
   rename_i h128
   by_cases h9 : i = 9
   · exfalso; omega
   have := dec_ok r _ (i + 1) n k (fun x hx => hb x (by simp [hx])) (by omega) (acc_bound acc i b ha) h
   simp; omega
def numR (bs : List Int) (e most : Int) : Int × List Int × Int :=
 if e = 0 then match dec 0 0 bs with
   | .err er => (0,[],er)
   | .ok n k => if most < n then (0,[],22) else (n,bs.drop k,0)
 else (0,bs,e)
end
section
def lumpR (bs : List Int) (e most : Int) : List Int × List Int × Int :=
 if (numR bs e (max most 0)).2.2 = 0 then
   if ((numR bs e (max most 0)).2.1.length : Int) < (numR bs e (max most 0)).1 then ([],[],21)
   else ((numR bs e (max most 0)).2.1.take (numR bs e (max most 0)).1.toNat,(numR bs e (max most 0)).2.1.drop (numR bs e (max most 0)).1.toNat,0)
 else ([],(numR bs e (max most 0)).2.1,(numR bs e (max most 0)).2.2)
theorem IsLists.lit (w : World) (us : List Value) (ls : List (List Int)) (N : Nat) (T : TypeId) (n c : Nat) (hN : N = w.heap.size) (hn : n = us.length) (hl : us.length = ls.length) (h : ∀ j,j < us.length → IsNums .u8 w (us.getD j default) (ls.getD j [])) :
   IsLists (w.alloc (.cells us.toArray T)) (.slice (some ⟨N,0,none⟩) n c) ls := by
 subst hN; subst hn
 refine ⟨_,c,by rw [hl],.inr ⟨_,0,rfl,by simp,fun j hj =>?_⟩⟩
 refine ⟨us.getD j default,?_,(h j (by omega)).alloc _⟩
 unfold World.cell? World.alloc
 simp [List.getD,show j < us.length by omega]
theorem IsLists.one (w : World) (u : Value) (bs : List Int) (N : Nat) (T : TypeId) (hN : N = w.heap.size) (h : IsNums .u8 w u bs) : IsLists (w.alloc (.cells #[u] T)) (.slice (some ⟨N,0,none⟩) 1 1) [bs] :=
 IsLists.lit w [u] [bs] N T 1 1 hN rfl rfl (fun j hj => by
   rcases j with _ | j
   · exact h
   simp at hj)
theorem NumsLt.ofOwn {k : IntKind} {w : World} {B : Nat} {e : TypeId} {v : Value} {n : Nat} {zs : List Int} (h : w.ownsRow B e 1 v n (zs.map (Value.int k))) : NumsLt w.heap.size k w v zs := by
 have hn : n = zs.length := by have := h.1; simpa using this.symm
 subst hn
 rcases h.2 with ⟨rfl,h0⟩ | ⟨g,cap,cur,rfl,hg,hb,h1,h2,h3,h4⟩
 · obtain rfl := List.length_eq_zero_iff.1 h0
   exact ⟨none,0,rfl,Nat.le_refl _,by omega,.inl rfl⟩
 refine ⟨_,cap,rfl,h1,h2,.inr ⟨g,0,rfl,(Array.getElem?_eq_some_iff.1 hb).1,fun j hj =>?_⟩⟩
 have := h.cellAt j (by omega)
 rw [Nat.zero_add,this]
 simp [hj,List.getD]
theorem NumsLt.take {N : Nat} {k : IntKind} {w : World} {a : Option Addr} {len c : Nat} {zs : List Int} (h : NumsLt N k w (.slice a len c) zs) (n : Nat) (hn : n ≤ zs.length) : NumsLt N k w (.slice a n c) (zs.take n) := by
 obtain ⟨a',c',e,h1,h2,h3⟩ := h
 injection e with e1 e2 e3
 subst e1; subst e3
 refine ⟨a,c,by simp [hn],by simp; omega,h2,?_⟩
 rcases h3 with h3 | ⟨b,off,rfl,hb,hc⟩
 · left; simp; omega
 right
 refine ⟨b,off,rfl,hb,fun j hj =>?_⟩
 simp at hj
 rw [hc j (by omega)]
 simp only [List.getD,List.getElem?_take]
 rw [if_pos (by omega)]
theorem IsReader.set {w : World} {B : Nat} {a : Option Addr} {len c n : Nat} {bs : List Int} {e : Int} (h : IsReader w B (.slice a len c) bs e) (hn : n ≤ bs.length) (a' : Option Addr) (c' : Nat) (hc1 : bs.length - n ≤ c') (hc2 : c' ≤ 9223372036854775807)
   (ha : ∀ b off,a = some ⟨b,off,none⟩ → bs.length - n = 0 ∨ a' = some ⟨b,off + n,none⟩) : IsReader (w.setCell ⟨B,0,none⟩ (.slice a' (bs.length - n) c')) B (.slice a' (bs.length - n) c') (bs.drop n) e := by
 obtain ⟨h0,h1,h2,h3,⟨p,c0,ep,hc3,hc4,hcells⟩,h5⟩ := h
 injection ep with e1 e2 e3
 subst e1; subst e3
 rcases hcells with hz | ⟨b,off,rfl,hblk,hcell⟩
 · have hn0 : bs = [] := List.length_eq_zero_iff.1 hz
   subst hn0
   refine ⟨World.cell?_setCell_same _ _ _ h0,?_,by rw [World.frozen?_setCell]; exact h2,by rw [World.frozen?_setCell]; exact h3,⟨a',c',by simp,by simp,hc2,.inl (by simp)⟩,by simp⟩
   rw [World.cell?_setCell_other _ _ _ _ (by simp)]; exact h1
 exact reader_shift (c := c) h0 h1 h2 h3 hblk hcell h5 hn hc1 hc2 (ha b off rfl)
def LumpPost (w : World) (B : Nat) (r : List Int × List Int × Int) (en : Ending) (w' : World) : Prop :=
 ∃ u,en = .returned u ∧ w'.ownsRow w.heap.size 5 1 u r.1.length (r.1.map (Value.int .u8)) ∧ ∃ v',IsReader w' B v' r.2.1 r.2.2 ∧ Only B w w'
end
section
def Low (N : Nat) (w0 : World) : World → Prop := fun W => Below N w0 W
section
variable {P : Program} {ops : Array Oper} {Q : Exit → Act → World → Prop} {md : Region.Mode} {w0 : World} {N : Nat}
end
end
section
theorem enc_dec (rest : List Int) : ∀ (f n i acc : Nat),i + f = 9 → n * 2 ^ (7 * i) < 2 ^ 64 → (0 < i → n ≠ 0) → dec acc i (encF f n ++ rest) = .ok (acc + n * 2 ^ (7 * i)) (i + (encF f n).length)
 | 0,n,i,acc,hi,hb,hz => by
   obtain rfl : i = 9 := by omega
   have hn : n ≤ 1 := by omega
   have h0 := hz (by omega)
   obtain rfl : n = 1 := by omega
   simp [encF,dec]
 | f + 1,n,i,acc,hi,hb,hz => by
   unfold encF
   by_cases h : n < 128
   · rw [if_pos h]
     have hc : ¬ ((i = 9 ∧ (1 : Int) < (n : Int)) ∨ (0 < i ∧ (n : Int) = 0)) := by omega
     simp only [List.cons_append,List.nil_append,dec]
     rw [if_neg hc,if_pos (by omega)]
     rw [show ((n : Int) % 128).toNat = n by omega]
     simp
   rw [if_neg h]
   have hc : ¬ ((i = 9 ∧ (1 : Int) < ((n % 128 + 128 : Nat) : Int)) ∨ (0 < i ∧ ((n % 128 + 128 : Nat) : Int) = 0)) := by omega
   simp only [List.cons_append,dec]
   rw [if_neg hc,if_neg (by omega)]
   have hpow : (2 : Nat) ^ (7 * (i + 1)) = 128 * 2 ^ (7 * i) := by rw [show 7 * (i + 1) = 7 + 7 * i by omega,Nat.pow_add]
   have hdm : 128 * (n / 128) + n % 128 = n := Nat.div_add_mod n 128
   have hmul : n / 128 * 2 ^ (7 * (i + 1)) = 128 * (n / 128) * 2 ^ (7 * i) := by rw [hpow]; ac_rfl
   have hle : 128 * (n / 128) * 2 ^ (7 * i) ≤ n * 2 ^ (7 * i) := Nat.mul_le_mul_right _ (by omega)
   rw [enc_dec rest f (n / 128) (i + 1) _ (by omega) (by omega) (by omega)]
   rw [show (((n % 128 + 128 : Nat) : Int) % 128).toNat = n % 128 by omega,hmul]
   have hsum : n * 2 ^ (7 * i) = 128 * (n / 128) * 2 ^ (7 * i) + n % 128 * 2 ^ (7 * i) := by rw [← Nat.add_mul,hdm]
   rw [hsum]
   simp
   constructor <;> omega
theorem dec_enc (x : Int) (h0 : 0 ≤ x) (h1 : x ≤ 18446744073709551615) (rest : List Int) : dec 0 0 (enc x ++ rest) = .ok x.toNat (enc x).length := by
 have := enc_dec rest 9 x.toNat 0 0 (by omega) (by simp; omega) (by omega)
 simpa [enc] using this
theorem enc_bytes (x : Int) (h1 : x ≤ 18446744073709551615) : ∀ b ∈ enc x,0 ≤ b ∧ b ≤ 255 := by
 have : ∀ (f n : Nat),n < 128 ^ (f + 1) → ∀ b ∈ encF f n,0 ≤ b ∧ b ≤ 255 := by
   intro f
   induction f with
   | zero => intro n hn b hb; simp [encF] at hb hn; omega
   | succ f ih =>
     intro n hn b hb
     unfold encF at hb
     split at hb
     · simp at hb; omega
     rcases List.mem_cons.1 hb with rfl | hb
     · omega
     refine ih (n / 128) ?_ b hb
     rw [Nat.pow_succ] at hn
     exact Nat.div_lt_of_lt_mul (by rw [Nat.mul_comm]; exact hn)
 refine this 9 x.toNat ?_
 have : (128 : Nat) ^ 10 = 1180591620717411303424 := by decide
 omega
theorem numR_ok (x : Int) (h0 : 0 ≤ x) (h1 : x ≤ 18446744073709551615) (rest : List Int) (most : Int) (hm : x ≤ most) : numR (enc x ++ rest) 0 most = (x,rest,0) := by
 unfold numR
 rw [if_pos rfl,dec_enc x h0 h1 rest]
 simp only []
 rw [if_neg (by omega)]
 simp; omega
theorem numR_bad (bs : List Int) (e most : Int) (h : e ≠ 0) : numR bs e most = (0,bs,e) := by rw [numR,if_neg h]
theorem IsNums.drew {k : IntKind} {w : World} {v : Value} {zs : List Int} (h : IsNums k w v zs) : IsNums k w.drew v zs := h.below (Below.refl w.heap.size w).drew (Nat.le_refl _)
theorem IsLists.nil (w : World) (a : Option Addr) (c : Nat) : IsLists w (.slice a 0 c) [] := ⟨a,c,rfl,.inl rfl⟩
theorem IsNums.after {k : IntKind} {w w' : World} {v : Value} {zs : List Int} {o : Obj} (h : IsNums k w v zs) (hb : Below (w.alloc o).heap.size (w.alloc o) w') : IsNums k w' v zs := (h.alloc o).below hb (Nat.le_refl _)
theorem str_beq {a b : List Int} (ha : ∀ x ∈ a,0 ≤ x ∧ x ≤ 255) (hb : ∀ x ∈ b,0 ≤ x ∧ x ≤ 255) : ((strOfNums a).toList == (strOfNums b).toList) = decide (a = b) := by
 rw [Bool.eq_iff_iff]
 simp only [beq_iff_eq,decide_eq_true_eq]
 constructor
 · intro h
   refine str_inj ha hb (bytes_inj ?_)
   rw [← ByteArray.toList_eq,← ByteArray.toList_eq]
   exact h
 rintro rfl; rfl
end
section
section
variable {P : Program} {a : Act} {w : World} {K : Act → World → Prop} {Q : Exit → Act → World → Prop}
end
theorem NumsOff.ofOwn {bad : Nat → Prop} {w : World} {base : Nat} {e : TypeId} {v : Value} {n : Nat} {zs : List Int} (h : w.ownsRow base e 1 v n (zs.map (Value.int .u8))) (hb : ∀ k,base ≤ k → k < w.heap.size → ¬ bad k) : NumsOff bad w v zs := by
 have hn : n = zs.length := by have := h.1; simpa using this.symm
 subst hn
 rcases h.2 with ⟨rfl,h0⟩ | ⟨g,cap,cur,rfl,hg,hbk,h1,h2,h3,h4⟩
 · obtain rfl := List.length_eq_zero_iff.1 h0; exact NumsOff.nil _ _ none 0
 have hlt := (Array.getElem?_eq_some_iff.1 hbk).1
 refine ⟨_,cap,rfl,.inr ⟨g,0,rfl,hlt,hb g hg hlt,fun j hj =>?_⟩⟩
 have := h.cellAt j (by omega)
 rw [Nat.zero_add,this]
 simp [hj,List.getD]
end
section
section
variable {P : Program} {ops : Array Oper} {rest : List Oper} {a : Act} {w : World} {Q : Exit → Act → World → Prop}
end
theorem Only.keep {B : Nat} {a b : World} (h : Only B a b) : Keep (fun k => k = B) a b := ⟨h.os,h.tape,h.output,h.size,fun i hi hn => h.block i hi (fun e => hn (show i = B from (by injection e)))⟩
theorem numR_le (bs : List Int) (e most : Int) (m0 : 0 ≤ most) : 0 ≤ (numR bs e most).1 ∧ (numR bs e most).1 ≤ most := by
 unfold numR
 split
 · cases dec 0 0 bs with
   | err er => exact ⟨Int.le_refl _,m0⟩
   | ok n k =>
     show 0 ≤ (if most < (n : Int) then ((0 : Int),([] : List Int),(22 : Int)) else ((n : Int),bs.drop k,0)).1 ∧ (if most < (n : Int) then ((0 : Int),([] : List Int),(22 : Int)) else ((n : Int),bs.drop k,0)).1 ≤ most
     split
     · exact ⟨Int.le_refl _,m0⟩
     show 0 ≤ (n : Int) ∧ (n : Int) ≤ most
     omega
 exact ⟨Int.le_refl _,m0⟩
end
section
theorem and127 (b : Int) (h0 : 0 ≤ b) (h1 : b ≤ 255) : bits .and .u8 b 127 = b % 128 := by
 have h : ∀ z : Fin 256,bits .and .u8 ((z.val : Nat) : Int) 127 = ((z.val : Nat) : Int) % 128 := by decide +kernel
 have := h ⟨b.toNat,by omega⟩
 simp only at this
 rw [show ((b.toNat : Nat) : Int) = b by omega] at this
 exact this
theorem numR_err {bs : List Int} {er : Int} (most : Int) (h : dec 0 0 bs = .err er) : numR bs 0 most = (0,[],er) := by rw [numR,if_pos rfl,h]
theorem numR_val {bs : List Int} {n k : Nat} (most : Int) (h : dec 0 0 bs = .ok n k) : numR bs 0 most = if most < (n : Int) then (0,[],22) else ((n : Int),bs.drop k,0) := by rw [numR,if_pos rfl,h]
end
section
theorem leb_or (u : Nat) : IntKind.u8.wrap ((BitVec.ofInt IntKind.u8.bits (IntKind.u8.wrap (u : Int)) ||| BitVec.ofInt IntKind.u8.bits 128).toNat) = ((u % 128 + 128 : Nat) : Int) := by
 have h := or128 u
 have e : IntKind.u8.wrap (u : Int) = (u : Int) % 256 := by simp [IntKind.wrap,IntKind.signed,IntKind.bits]
 rw [e]; exact h
theorem leb_stepx {j u : Nat} (hj : j ≤ 9) (hu : (u : Int) < 2 ^ (64 - 7 * j)) (h : 128 ≤ u) : j + 1 ≤ 9 ∧ ((u / 128 : Nat) : Int) < 2 ^ (64 - 7 * (j + 1)) := by
 have hc : j = 0 ∨ j = 1 ∨ j = 2 ∨ j = 3 ∨ j = 4 ∨ j = 5 ∨ j = 6 ∨ j = 7 ∨ j = 8 ∨ j = 9 := by omega
 rcases hc with rfl | rfl | rfl | rfl | rfl | rfl | rfl | rfl | rfl | rfl <;> simp at hu ⊢ <;> omega
theorem leb_more {j u : Nat} (hj : j ≤ 8) (h : 128 ≤ u) : encF (9 - j) u = ((u % 128 + 128 : Nat) : Int) :: encF (9 - (j + 1)) (u / 128) := by
 obtain ⟨f,hf⟩ : ∃ f,9 - j = f + 1 := ⟨8 - j,by omega⟩
 rw [hf,show 9 - (j + 1) = f by omega,encF,if_neg (by omega)]
theorem leb_end {j u : Nat} (hj : j ≤ 9) (h : u < 128) : encF (9 - j) u = [(u : Int)] := by
 cases hf : 9 - j with
 | zero => rfl
 | succ f => rw [encF,if_pos h]
theorem encs_one (x : Int) : encs [x] = enc x := by simp [encs]
theorem encs_cons (x : Int) (l : List Int) : encs (x :: l) = enc x ++ encs l := by simp [encs]
theorem one64 {x : Int} (h : 0 ≤ x ∧ x ≤ 9223372036854775807) : ∀ k,k < [x].length → 0 ≤ [x].getD k 0 ∧ [x].getD k 0 < 2 ^ 64 := fun k hk => by
 obtain rfl : k = 0 := by simpa using hk
 simp; omega
theorem one63 {x : Int} (h : 0 ≤ x ∧ x ≤ 9223372036854775807) : ∀ k,k < [x].length → 0 ≤ [x].getD k 0 ∧ [x].getD k 0 ≤ 9223372036854775807 := fun k hk => by
 obtain rfl : k = 0 := by simpa using hk
 simpa using h
def itemE (e : Int × List Int) : List Int := enc e.1 ++ (enc e.2.length ++ e.2)
def itemsE (es : List (Int × List Int)) : List Int := es.flatMap itemE
theorem itemsE_snoc {es : List (Int × List Int)} {k : Nat} {e : Int × List Int} (h : es[k]? = some e) : itemsE (es.take (k + 1)) = itemsE (es.take k) ++ itemE e := by
 rw [take_snoc h]; simp [itemsE]
theorem itemsE_len (es : List (Int × List Int)) (h : ∀ e ∈ es,e.2.length ≤ 1000) : (itemsE es).length ≤ 1020 * es.length := by
 induction es with
 | nil => simp [itemsE]
 | cons e es ih =>
   have h1 := ih (fun x hx => h x (List.mem_cons_of_mem _ hx))
   have h2 := h e List.mem_cons_self
   have h3 := (enc_len e.1).1
   have h4 := (enc_len e.2.length).1
   simp only [itemsE,List.flatMap_cons,List.length_append,List.length_cons,itemE] at h1 ⊢
   omega
set_option maxRecDepth 100000
set_option maxHeartbeats 4000000
theorem rput_x (xs : List Int) (q : Option Addr) (cq : Nat) (w0 : World) (h0 : Rd (fun _ => True) w0 (.slice q xs.length cq) (.ns .u64 xs)) (hl : xs.length ≤ 1000000) (hxb : ∀ k,k < xs.length → 0 ≤ xs.getD k 0 ∧ xs.getD k 0 < 2 ^ 64) :
   Calls Tryz.prog 92 #[.slice q xs.length cq] w0 fun e w' => ∃ (p : Option Addr) (c : Nat),e = .returned (.slice p (encs xs).length c) ∧ w'.ownsRow w0.heap.size 5 1 (.slice p (encs xs).length c) (encs xs).length ((encs xs).map (Value.int .u8)) ∧ Below w0.heap.size w0 w' := by
 refine ent1 Tryz.func92 rfl Tryz.ntmps92 fun Y U =>?_
 have m0 := MemOk.start (fun _ => False) w0
 refine regS U (.assign rfl .nil) fun Y U =>?_
 refine regS U (.assign rfl .nil) fun Y U =>?_
 refine wsk fun K0 hK0 =>?_
 refine regS U (.assign rfl .nil) fun Y U =>?_
 refine wp_block ?_
 refine wp_loop_ghost (fun g a w => ∃ (k : Nat) (b : List Int) (p : Option Addr) (c : Nat),k ≤ xs.length ∧ g = xs.length - k ∧ b = encs (xs.take k) ∧ Has 32 [(0,.slice q xs.length cq),(3,.slice p b.length c),(4,.int .i64 k)] a ∧ MemOk (cn w0) w0 [(9,.num (.slice p b.length c) 5 .u8 b)] w) (xs.length) ?_ ?_
 · have mz := m0.nilN 9 5 .u8
   exact ⟨0,[],_,_,Nat.zero_le _,rfl,rfl,U.only [0,3,4],mz.only [9]⟩
 clear U m0
 rintro g Y w4 ⟨k,b,p,c,hkl,hg,hbe,U,m4⟩
 refine wsk fun K1 hK1 =>?_
 refine regS U (.move rfl<|.move rfl<|.len rfl U168<|.lss rfl rfl .nil) fun Y U =>?_
 refine bc U 9 ?_ ?_
 ·
  intro hb9 U; try simp only [QQ,Qax] at hb9
  have hk : k < xs.length := by omega
  have hxk := hxb k hk
  refine wct U ?_
  refine zss (hK1 _ _ ?_)
  refine wsk fun K2 hK2 =>?_
  refine wp_block ?_
  refine zsr fun K3 hK3 =>?_
  refine goCh U (.move rfl<|.move rfl .nil) fun Y U =>?_
  obtain ⟨gx15,ox15,hp15,hl15,hrg15⟩ := h0.extN (k) hk
  revert U
  cases hp15
  intro U
  refine gz hK3 U (.c rfl (fun _ h_ => y_idx h_ rfl rfl U168 fct28 (k) rfl hk)<|.loadAt1 (hrg15 m4 rfl) (q := 0) rfl rfl rfl U108 rfl<|.assign rfl<|.nil) fun Y U =>?_
  refine wsk fun K4 hK4 =>?_
  refine wp_block ?_
  refine wp_loop_ghost (fun g a w => ∃ (j u : Nat) (b : List Int) (p : Option Addr) (c : Nat),j ≤ 9 ∧ (u : Int) < 2 ^ (64 - 7 * j) ∧ g = u ∧ b.length ≤ 10 * k + j ∧ b ++ encF (9 - j) u = encs (xs.take k) ++ enc (xs.getD k 0) ∧ Has 32 [(0,.slice (some ⟨gx15,ox15,none⟩) xs.length cq),(3,.slice p b.length c),(4,.int .i64 k),(5,.int .u64 (u : Int))] a ∧ MemOk (cn w0) w0 [(9,.num (.slice p b.length c) 5 .u8 b)] w) ((xs.getD k 0).toNat) ?_ ?_
  · obtain ⟨u0,hu0⟩ : ∃ u : Nat,xs.getD k 0 = u := ⟨(xs.getD k 0).toNat,by omega⟩
    rw [hu0] at U
    exact ⟨0,u0,b,_,_,by omega,by have := hxk.2; rw [hu0] at this; simpa using this,by rw [hu0]; rfl,by rw [hbe]; have := encs_len (xs.take k); rw [List.length_take] at this; omega,by rw [hbe,hu0]; rfl,U.only [0,3,4,5],m4.only [9]⟩
  clear U m4
  rintro g Y w19 ⟨j,u,b,p,c,hj9,hu1,hg2,hbl2,hbe2,U,m19⟩
  refine wsk fun K5 hK5 =>?_
  refine regS U (.move rfl<|.geq rfl rfl .nil) fun Y U =>?_
  refine bc U 17 ?_ ?_
  ·
   intro hb22 U; try simp only [QQ,Qax] at hb22
   have hub : 128 ≤ u := by omega
   have hz : IntKind.u8.wrap ((BitVec.ofInt IntKind.u8.bits (IntKind.u8.wrap (u : Int)) ||| BitVec.ofInt IntKind.u8.bits 128).toNat) = ((u % 128 + 128 : Nat) : Int) := leb_or u
   obtain ⟨hj8,hu2⟩ := leb_stepx hj9 hu1 (by omega)
   refine wct U ?_
   refine zss (hK5 _ _ ?_)
   refine wp_block ?_
   refine zsr fun K6 hK6 =>?_
   refine goCh U (.move rfl<|.move rfl<|.conv rfl U108 U5 rfl<|.or rfl rfl (r := ((u % 128 + 128 : Nat) : Int)) hz .nil) fun Y U =>?_
   refine plz (e_litN U m19 200 (k := .u8) rfl rfl U22 fct0 rfl rfl rfl rfl fun g31 Y w32 U m32 =>?_)
   refine plz (e_appN U m32 9 rfl rfl rfl (m32.numsO (i := 200) rfl) U22 fct0 (by decide) (by simp; omega) rfl fun p33 c33 Y w34 U m34 =>?_)
   refine gz hK6 U (.assign rfl .nil) fun Y U =>?_
   replace U := U.oz [0,3,4,5]
   refine wp_region_lit ?_
   refine goCh U (.move rfl<|.shr rfl rfl (by decide) (r := ((u / 128 : Nat) : Int)) (by rw [show (2 : Int) ^ min (7 : Int).toNat IntKind.u64.bits = 128 from by decide,Int.fdiv_eq_ediv_of_nonneg _ (by decide)]; omega)<|.assign rfl .nil) fun Y U =>?_
   refine wpList_nil ?_
   show ∃ n',n' < _ ∧ _
   exact ⟨u / 128,by omega,j + 1,u / 128,_,_,_,hj8,by omega,rfl,by simp; omega,by rw [← hbe2,leb_more (by omega) hub,List.append_assoc]; try rfl,U.only [0,3,4,5],m34.only [9]⟩
  intro hb22 U; try simp only [QQ,Qax] at hb22
  have hub : u < 128 := by omega
  refine wcf U ?_
  refine wp_exit ?_
  refine hK4 _ _ ?_
  refine wp_region_lit ?_
  refine goCh U (.move rfl<|.move rfl<|.conv rfl U108 U5 (r := (u : Int)) (IntWalk.u8_in _ (by omega)) .nil) fun Y U =>?_
  refine plz (e_litN U m19 200 (k := .u8) rfl rfl U22 fct0 rfl rfl rfl rfl fun g43 Y w44 U m44 =>?_)
  refine plz (e_appN U m44 9 rfl rfl rfl (m44.numsO (i := 200) rfl) U22 fct0 (by decide) (by simp; omega) rfl fun p45 c45 Y w46 U m46 =>?_)
  refine gz hK2 U (.assign rfl .nil) fun Y U =>?_
  replace U := U.oz [0,3,4,5]
  refine wp_region_lit ?_
  refine goCh U (.move rfl<|.inc (k + 1)<|.assign rfl .nil) fun Y U =>?_
  refine wpList_nil ?_
  show ∃ n',n' < _ ∧ _
  exact ⟨xs.length - (k + 1),by omega,k + 1,_,_,_,by omega,rfl,by rw [encs_snoc _ _ hk,← hbe2,leb_end (by omega) hub]; try rfl,U.only [0,3,4],m46.only [9]⟩
 intro hb9 U; try simp only [QQ,Qax] at hb9
 revert U
 obtain rfl : k = xs.length := by omega
 intro U
 refine wcf U ?_
 refine wp_exit ?_
 refine hK0 _ _ ?_
 refine regS U (.move rfl<|.assign rfl .nil) fun Y U =>?_
 refine rt1 U ?_
 rw [List.take_length] at hbe
 revert U
 subst hbe
 intro U
 exact ⟨_,_,rfl,m4.ok 9 _ rfl,m4.below⟩
theorem rnums16x (xs : List Int) (q : Option Addr) (cq : Nat) (w0 : World) (h0 : Rd (fun _ => True) w0 (.slice q xs.length cq) (.ns .i64 xs)) (hl : xs.length ≤ 1000000) (hxb : ∀ k,k < xs.length → 0 ≤ xs.getD k 0 ∧ xs.getD k 0 ≤ 9223372036854775807) :
   Calls Tryz.prog 44 #[.slice q xs.length cq] w0 fun e w' => ∃ (p : Option Addr) (c : Nat),e = .returned (.slice p (encs xs).length c) ∧ w'.ownsRow w0.heap.size 5 1 (.slice p (encs xs).length c) (encs xs).length ((encs xs).map (Value.int .u8)) ∧ Below w0.heap.size w0 w' := by
 refine ent1 Tryz.func44 rfl Tryz.ntmps44 fun Y U =>?_
 have m0 := MemOk.start (fun _ => False) w0
 refine regS U (.assign rfl .nil) fun Y U =>?_
 refine regS U (.assign rfl .nil) fun Y U =>?_
 refine wsk fun K0 hK0 =>?_
 refine regS U (.assign rfl .nil) fun Y U =>?_
 refine wp_block ?_
 refine wp_loop_ghost (fun g a w => ∃ (k : Nat) (b : List Int) (p : Option Addr) (c : Nat),k ≤ xs.length ∧ g = xs.length - k ∧ b = encs (xs.take k) ∧ Has 21 [(0,.slice q xs.length cq),(3,.slice p b.length c),(4,.int .i64 k)] a ∧ MemOk (cn w0) w0 [(9,.num (.slice p b.length c) 5 .u8 b)] w) (xs.length) ?_ ?_
 · have mz := m0.nilN 9 5 .u8
   exact ⟨0,[],_,_,Nat.zero_le _,rfl,rfl,U.only [0,3,4],mz.only [9]⟩
 clear U m0
 rintro g Y w4 ⟨k,b,p,c,hkl,hg,hbe,U,m4⟩
 refine wsk fun K1 hK1 =>?_
 refine regS U (.move rfl<|.move rfl<|.len rfl U48<|.lss rfl rfl .nil) fun Y U =>?_
 refine bc U 8 ?_ ?_
 ·
  intro hb9 U; try simp only [QQ,Qax] at hb9
  have hk : k < xs.length := by omega
  have hxk := hxb k hk
  refine wct U ?_
  refine zss (hK1 _ _ ?_)
  refine wsk fun K2 hK2 =>?_
  refine wp_block ?_
  refine wp_region_lit ?_
  refine goCh U (.move rfl<|.move rfl<|.move rfl .nil) fun Y U =>?_
  obtain ⟨gx13,ox13,hp13,hl13,hrg13⟩ := h0.extN (k) hk
  revert U
  cases hp13
  intro U
  refine goCh U (.c rfl (fun _ h_ => y_idx h_ rfl rfl U48 fct22 (k) rfl hk)<|.loadAt1 (hrg13 m4 rfl) (q := 0) rfl rfl rfl U2 rfl<|.conv rfl U2 U108 (r := xs.getD k 0) (IntWalk.u64_in _ (by omega)) .nil) fun Y U =>?_
  refine plz (e_litN U m4 100 (k := .u64) rfl rfl U168 fct29 rfl rfl rfl rfl fun g17 Y w18 U m18 =>?_)
  have m19 := m18.freezeN 100 rfl
  refine plz (ecn U Tryz.func92 rfl m19 101 (rput_x [xs.getD k 0] _ _ _ ((m19.rd (i := 100) rfl).any) (by simp) (one64 (by omega))) fun p20 c20 Y w20 U m21 =>?_)
  refine plz (e_appN U m21 9 rfl rfl rfl (m21.numsO (i := 101) rfl) U22 fct0 (by decide) (by rw [hbe]; have h8 := encs_len (xs.take k); rw [List.length_take] at h8; have h9 := encs_len [xs.getD k 0]; rw [List.length_singleton] at h9; omega) rfl fun p23 c23 Y w24 U m24 =>?_)
  refine gz hK2 U (.assign rfl .nil) fun Y U =>?_
  replace U := U.oz [0,3,4]
  refine wp_region_lit ?_
  refine goCh U (.move rfl<|.inc (k + 1)<|.assign rfl .nil) fun Y U =>?_
  refine wpList_nil ?_
  show ∃ n',n' < _ ∧ _
  exact ⟨xs.length - (k + 1),by omega,k + 1,_,_,_,by omega,rfl,by rw [encs_snoc _ _ hk,← hbe,encs_one],U.only [0,3,4],m24.only [9]⟩
 intro hb9 U; try simp only [QQ,Qax] at hb9
 revert U
 obtain rfl : k = xs.length := by omega
 intro U
 refine wcf U ?_
 refine wp_exit ?_
 refine hK0 _ _ ?_
 refine regS U (.move rfl<|.assign rfl .nil) fun Y U =>?_
 refine rt1 U ?_
 rw [List.take_length] at hbe
 revert U
 subst hbe
 intro U
 exact ⟨_,_,rfl,m4.ok 9 _ rfl,m4.below⟩
theorem rnums13x (xs : List Int) (q : Option Addr) (cq : Nat) (w0 : World) (h0 : Rd (fun _ => True) w0 (.slice q xs.length cq) (.ns .i64 xs)) (hl : xs.length ≤ 1000000) (hxb : ∀ k,k < xs.length → 0 ≤ xs.getD k 0 ∧ xs.getD k 0 ≤ 9223372036854775807) :
   Calls Tryz.prog 93 #[.slice q xs.length cq] w0 fun e w' => ∃ (p : Option Addr) (c : Nat),e = .returned (.slice p (encs xs).length c) ∧ w'.ownsRow w0.heap.size 5 1 (.slice p (encs xs).length c) (encs xs).length ((encs xs).map (Value.int .u8)) ∧ Below w0.heap.size w0 w' := by
 refine ent1 Tryz.func93 rfl Tryz.ntmps93 fun Y U =>?_
 have m0 := MemOk.start (fun _ => False) w0
 refine regS U (.assign rfl .nil) fun Y U =>?_
 refine regS U (.assign rfl .nil) fun Y U =>?_
 refine wsk fun K0 hK0 =>?_
 refine regS U (.assign rfl .nil) fun Y U =>?_
 refine wp_block ?_
 refine wp_loop_ghost (fun g a w => ∃ (k : Nat) (b : List Int) (p : Option Addr) (c : Nat),k ≤ xs.length ∧ g = xs.length - k ∧ b = encs (xs.take k) ∧ Has 21 [(0,.slice q xs.length cq),(3,.slice p b.length c),(4,.int .i64 k)] a ∧ MemOk (cn w0) w0 [(9,.num (.slice p b.length c) 5 .u8 b)] w) (xs.length) ?_ ?_
 · have mz := m0.nilN 9 5 .u8
   exact ⟨0,[],_,_,Nat.zero_le _,rfl,rfl,U.only [0,3,4],mz.only [9]⟩
 clear U m0
 rintro g Y w4 ⟨k,b,p,c,hkl,hg,hbe,U,m4⟩
 refine wsk fun K1 hK1 =>?_
 refine regS U (.move rfl<|.move rfl<|.len rfl U48<|.lss rfl rfl .nil) fun Y U =>?_
 refine bc U 8 ?_ ?_
 ·
  intro hb9 U; try simp only [QQ,Qax] at hb9
  have hk : k < xs.length := by omega
  have hxk := hxb k hk
  refine wct U ?_
  refine zss (hK1 _ _ ?_)
  refine wsk fun K2 hK2 =>?_
  refine wp_block ?_
  refine wp_region_lit ?_
  refine goCh U (.move rfl<|.move rfl<|.move rfl .nil) fun Y U =>?_
  obtain ⟨gx13,ox13,hp13,hl13,hrg13⟩ := h0.extN (k) hk
  revert U
  cases hp13
  intro U
  refine goCh U (.c rfl (fun _ h_ => y_idx h_ rfl rfl U48 fct22 (k) rfl hk)<|.loadAt1 (hrg13 m4 rfl) (q := 0) rfl rfl rfl U2 rfl<|.conv rfl U2 U108 (r := xs.getD k 0) (IntWalk.u64_in _ (by omega)) .nil) fun Y U =>?_
  refine plz (e_litN U m4 100 (k := .u64) rfl rfl U168 fct29 rfl rfl rfl rfl fun g17 Y w18 U m18 =>?_)
  have m19 := m18.freezeN 100 rfl
  refine plz (ecn U Tryz.func92 rfl m19 101 (rput_x [xs.getD k 0] _ _ _ ((m19.rd (i := 100) rfl).any) (by simp) (one64 (by omega))) fun p20 c20 Y w20 U m21 =>?_)
  refine plz (e_appN U m21 9 rfl rfl rfl (m21.numsO (i := 101) rfl) U22 fct0 (by decide) (by rw [hbe]; have h8 := encs_len (xs.take k); rw [List.length_take] at h8; have h9 := encs_len [xs.getD k 0]; rw [List.length_singleton] at h9; omega) rfl fun p23 c23 Y w24 U m24 =>?_)
  refine gz hK2 U (.assign rfl .nil) fun Y U =>?_
  replace U := U.oz [0,3,4]
  refine wp_region_lit ?_
  refine goCh U (.move rfl<|.inc (k + 1)<|.assign rfl .nil) fun Y U =>?_
  refine wpList_nil ?_
  show ∃ n',n' < _ ∧ _
  exact ⟨xs.length - (k + 1),by omega,k + 1,_,_,_,by omega,rfl,by rw [encs_snoc _ _ hk,← hbe,encs_one],U.only [0,3,4],m24.only [9]⟩
 intro hb9 U; try simp only [QQ,Qax] at hb9
 revert U
 obtain rfl : k = xs.length := by omega
 intro U
 refine wcf U ?_
 refine wp_exit ?_
 refine hK0 _ _ ?_
 refine regS U (.move rfl<|.assign rfl .nil) fun Y U =>?_
 refine rt1 U ?_
 rw [List.take_length] at hbe
 revert U
 subst hbe
 intro U
 exact ⟨_,_,rfl,m4.ok 9 _ rfl,m4.below⟩
theorem rlump_x (xs : List Int) (q : Option Addr) (cq : Nat) (w0 : World) (h0 : Rd (fun _ => True) w0 (.slice q xs.length cq) (.ns .u8 xs)) (hl : xs.length ≤ 1000000) :
   Calls Tryz.prog 94 #[.slice q xs.length cq] w0 fun e w' => ∃ (p : Option Addr) (c : Nat),e = .returned (.slice p (enc xs.length ++ xs).length c) ∧ w'.ownsRow w0.heap.size 5 1 (.slice p (enc xs.length ++ xs).length c) (enc xs.length ++ xs).length ((enc xs.length ++ xs).map (Value.int .u8)) ∧ Below w0.heap.size w0 w' := by
 refine ent1 Tryz.func94 rfl Tryz.ntmps94 fun Y U =>?_
 have m0 := MemOk.start (fun _ => False) w0
 refine regS U (.assign rfl .nil) fun Y U =>?_
 refine zsr fun K0 hK0 =>?_
 refine goCh U (.move rfl<|.len rfl U22<|.conv rfl U3 U108 (r := (xs.length : Int)) (IntWalk.u64_in _ (by omega)) .nil) fun Y U =>?_
 refine plz (e_litN U m0 20 (k := .u64) rfl rfl U168 fct29 rfl rfl rfl rfl fun g8 Y w9 U m9 =>?_)
 have m10 := m9.freezeN 20 rfl
 refine plz (ecn U Tryz.func92 rfl m10 21 (rput_x [(xs.length : Int)] _ _ _ ((m10.rd (i := 20) rfl).any) (by simp) (one64 (by omega))) fun p11 c11 Y w11 U m12 =>?_)
 refine goCh U (.move rfl .nil) fun Y U =>?_
 refine plz (e_appN U m12 21 rfl rfl rfl (h0.now' m12 rfl).ns_out.nums U22 fct0 (by decide) (by have h9 := encs_len [(xs.length : Int)]; rw [List.length_singleton] at h9; omega) rfl fun p15 c15 Y w16 U m16 =>?_)
 refine gz hK0 U (.assign rfl .nil) fun Y U =>?_
 refine rt1 U ?_
 have hE : encs [(xs.length : Int)] ++ xs = enc xs.length ++ xs := by rw [encs_one]
 rw [hE] at m16
 exact ⟨_,_,by rw [hE],m16.ok 21 _ rfl,m16.below⟩
theorem rplace_x (xs : List Int) (q : Option Addr) (cq : Nat) (w0 : World) (h0 : Rd (fun _ => True) w0 (.slice q xs.length cq) (.ns .i64 xs)) (hl : xs.length ≤ 1000000) (hxb : ∀ k,k < xs.length → 0 ≤ xs.getD k 0 ∧ xs.getD k 0 ≤ 9223372036854775807) :
   Calls Tryz.prog 45 #[.slice q xs.length cq] w0 fun e w' => ∃ (p : Option Addr) (c : Nat),e = .returned (.slice p (encs ((xs.length : Int) :: xs)).length c) ∧ w'.ownsRow w0.heap.size 5 1 (.slice p (encs ((xs.length : Int) :: xs)).length c) (encs ((xs.length : Int) :: xs)).length ((encs ((xs.length : Int) :: xs)).map (Value.int .u8)) ∧ Below w0.heap.size w0 w' := by
 refine ent1 Tryz.func45 rfl Tryz.ntmps45 fun Y U =>?_
 have m0 := MemOk.start (fun _ => False) w0
 refine regS U (.assign rfl .nil) fun Y U =>?_
 refine zsr fun K0 hK0 =>?_
 refine goCh U (.move rfl<|.len rfl U35 .nil) fun Y U =>?_
 refine plz (e_litN U m0 20 (k := .i64) rfl rfl U48 fct1 rfl rfl rfl rfl fun g6 Y w7 U m7 =>?_)
 have m8 := m7.freezeN 20 rfl
 refine plz (ecn U Tryz.func44 rfl m8 21 (rnums16x [(xs.length : Int)] _ _ _ ((m8.rd (i := 20) rfl).any) (by simp) (one63 (by omega))) fun p9 c9 Y w9 U m10 =>?_)
 refine gz hK0 U (.assign rfl .nil) fun Y U =>?_
 refine wsk fun K1 hK1 =>?_
 refine regS U (.assign rfl .nil) fun Y U =>?_
 refine wp_block ?_
 refine wp_loop_ghost (fun g a w => ∃ (k : Nat) (b : List Int) (p : Option Addr) (c : Nat),k ≤ xs.length ∧ g = xs.length - k ∧ b = encs ((xs.length : Int) :: xs.take k) ∧ Has 24 [(0,.slice q xs.length cq),(3,.slice p b.length c),(4,.int .i64 k)] a ∧ MemOk (cn w0) w0 [(9,.num (.slice p b.length c) 5 .u8 b)] w) (xs.length) ?_ ?_
 · exact ⟨0,_,_,_,Nat.zero_le _,rfl,by simp,U.only [0,3,4],m10.ren [(9,21)] (by decide)⟩
 clear U m10
 rintro g Y w14 ⟨k,b,p,c,hkl,hg,hbe,U,m14⟩
 refine wsk fun K2 hK2 =>?_
 refine regS U (.move rfl<|.move rfl<|.len rfl U35<|.lss rfl rfl .nil) fun Y U =>?_
 refine bc U 12 ?_ ?_
 ·
  intro hb19 U; try simp only [QQ,Qax] at hb19
  have hk : k < xs.length := by omega
  have hxk := hxb k hk
  refine wct U ?_
  refine zss (hK2 _ _ ?_)
  refine wsk fun K3 hK3 =>?_
  refine wp_block ?_
  refine wp_region_lit ?_
  refine goCh U (.move rfl<|.move rfl<|.move rfl .nil) fun Y U =>?_
  obtain ⟨gx23,ox23,hp23,hl23,hrg23⟩ := h0.extN (k) hk
  revert U
  cases hp23
  intro U
  refine goCh U (.c rfl (fun _ h_ => y_idx h_ rfl rfl U35 fct17 (k) rfl hk)<|.loadAt1 (hrg23 m14 rfl) (q := 0) rfl rfl rfl U3 rfl .nil) fun Y U =>?_
  refine plz (e_litN U m14 100 (k := .i64) rfl rfl U48 fct1 rfl rfl rfl rfl fun g26 Y w27 U m27 =>?_)
  have m28 := m27.freezeN 100 rfl
  refine plz (ecn U Tryz.func44 rfl m28 101 (rnums16x [xs.getD k 0] _ _ _ ((m28.rd (i := 100) rfl).any) (by simp) (one63 (by omega))) fun p29 c29 Y w29 U m30 =>?_)
  refine plz (e_appN U m30 9 rfl rfl rfl (m30.numsO (i := 101) rfl) U22 fct0 (by decide) (by rw [hbe]; have h8 := encs_len ((xs.length : Int) :: xs.take k); simp only [List.length_cons,List.length_take] at h8; have h9 := encs_len [xs.getD k 0]; rw [List.length_singleton] at h9; omega) rfl fun p32 c32 Y w33 U m33 =>?_)
  refine gz hK3 U (.assign rfl .nil) fun Y U =>?_
  replace U := U.oz [0,3,4]
  refine wp_region_lit ?_
  refine goCh U (.move rfl<|.inc (k + 1)<|.assign rfl .nil) fun Y U =>?_
  refine wpList_nil ?_
  show ∃ n',n' < _ ∧ _
  exact ⟨xs.length - (k + 1),by omega,k + 1,_,_,_,by omega,rfl,by rw [hbe,encs_cons _ (xs.take k),encs_cons _ (xs.take (k + 1)),encs_snoc _ _ hk,encs_one,List.append_assoc],U.only [0,3,4],m33.only [9]⟩
 intro hb19 U; try simp only [QQ,Qax] at hb19
 revert U
 obtain rfl : k = xs.length := by omega
 intro U
 refine wcf U ?_
 refine wp_exit ?_
 refine hK1 _ _ ?_
 refine regS U (.move rfl<|.assign rfl .nil) fun Y U =>?_
 refine rt1 U ?_
 rw [List.take_length] at hbe
 revert U
 subst hbe
 intro U
 exact ⟨_,_,rfl,m14.ok 9 _ rfl,m14.below⟩
theorem rputItems_x (es : List (Int × List Int)) (q : Option Addr) (nn cq : Nat) (w0 : World) (h0 : Rd (fun _ => True) w0 (.slice q nn cq) (.l 2 (es.map itD))) (hl : es.length ≤ 10000) (hok : ∀ e ∈ es,(0 ≤ e.1 ∧ e.1 ≤ 9223372036854775807) ∧ e.2.length ≤ 1000) :
   Calls Tryz.prog 46 #[.slice q nn cq] w0 fun e w' => ∃ (p : Option Addr) (c : Nat),e = .returned (.slice p (enc es.length ++ itemsE es).length c) ∧ w'.ownsRow w0.heap.size 5 1 (.slice p (enc es.length ++ itemsE es).length c) (enc es.length ++ itemsE es).length ((enc es.length ++ itemsE es).map (Value.int .u8)) ∧ Below w0.heap.size w0 w' := by
 obtain rfl : nn = es.length := by obtain ⟨pq,c9,hv,_⟩ := h0.l_shape; injection hv with _ e2 _; rw [List.length_map] at e2; exact e2
 refine ent1 Tryz.func46 rfl Tryz.ntmps46 fun Y U =>?_
 have m0 := MemOk.start (fun _ => False) w0
 refine regS U (.assign rfl .nil) fun Y U =>?_
 refine zsr fun K0 hK0 =>?_
 refine goCh U (.move rfl<|.len rfl U36 .nil) fun Y U =>?_
 refine plz (e_litN U m0 20 (k := .i64) rfl rfl U48 fct1 rfl rfl rfl rfl fun g6 Y w7 U m7 =>?_)
 have m8 := m7.freezeN 20 rfl
 refine plz (ecn U Tryz.func93 rfl m8 21 (rnums13x [(es.length : Int)] _ _ _ ((m8.rd (i := 20) rfl).any) (by simp) (one63 (by omega))) fun p9 c9 Y w9 U m10 =>?_)
 refine gz hK0 U (.assign rfl .nil) fun Y U =>?_
 refine wsk fun K1 hK1 =>?_
 refine regS U (.assign rfl .nil) fun Y U =>?_
 refine wp_block ?_
 refine wp_loop_ghost (fun g a w => ∃ (k : Nat) (b : List Int) (p : Option Addr) (c : Nat),k ≤ es.length ∧ g = es.length - k ∧ b = enc es.length ++ itemsE (es.take k) ∧ Has 32 [(0,.slice q es.length cq),(3,.slice p b.length c),(4,.int .i64 k)] a ∧ MemOk (cn w0) w0 [(9,.num (.slice p b.length c) 5 .u8 b)] w) (es.length) ?_ ?_
 · exact ⟨0,_,_,_,Nat.zero_le _,rfl,by rw [encs_one]; simp [itemsE],U.only [0,3,4],m10.ren [(9,21)] (by decide)⟩
 clear U m10
 rintro g Y w14 ⟨k,b,p,c,hkl,hg,hbe,U,m14⟩
 refine wsk fun K2 hK2 =>?_
 refine regS U (.move rfl<|.move rfl<|.len rfl U36<|.lss rfl rfl .nil) fun Y U =>?_
 refine bc U 12 ?_ ?_
 ·
  intro hb19 U; try simp only [QQ,Qax] at hb19
  have hk : k < es.length := by omega
  obtain ⟨⟨xb,xd⟩,hes⟩ : ∃ e,es[k]? = some e := ⟨_,List.getElem?_eq_getElem hk⟩
  have hed := hok _ (List.mem_of_getElem? hes)
  dsimp only at hed
  refine wct U ?_
  refine zss (hK2 _ _ ?_)
  refine wsk fun K3 hK3 =>?_
  refine wp_block ?_
  obtain ⟨gx21,ox21,vx21,hp21,hl21,hR21,hrg21⟩ := h0.extA (k) (r := [.v (.int .i64 xb),.ns .u8 xd]) (itD_get hes)
  revert U
  cases hp21
  rcases hR21 with _ | ⟨hd21_0,_ | ⟨hd21_1,_ | _⟩⟩
  obtain rfl := hd21_0.v_out
  clear hd21_0
  obtain ⟨p22,c22,hv22,hw22⟩ := hd21_1.ns_shape; subst hv22
  intro U
  obtain ⟨gx24,ox24,vx24,hp24,hl24,hR24,hrg24⟩ := h0.extA (k) (r := [.v (.int .i64 xb),.ns .u8 xd]) (itD_get hes)
  revert U
  cases hp24
  rcases hR24 with _ | ⟨hd24_0,_ | ⟨hd24_1,_ | _⟩⟩
  obtain rfl := hd24_0.v_out
  clear hd24_0
  obtain ⟨p25,c25,hv25,hw25⟩ := hd24_1.ns_shape; subst hv25
  intro U
  have m26 := m14.oz [9]
  refine region_p 17 (B := []) (m26.to trivial) m26 (by kernel_rfl) (fun w27 hP27 m27 =>?_); clear m26
  refine goR hP27 [0,1,2,3,4,5,9,10,11,12,13] [5,13] 11 0 15935 U (m27.to trivial) (.move rfl<|.move rfl<|.move rfl<|.p (fun _ _ h_ => y_idx h_ rfl rfl U36 fct3 (k) rfl hk)<|.fieldAddrQ 0 rfl U59 rfl (s := 0) (by kernel_rfl) rfl<|.loadAt1 (fun _ h_ => (hrg21 h_ rfl)) (q := 0) rfl rfl rfl U3 rfl<|.move rfl<|.move rfl<|.p (fun _ _ h_ => y_idx h_ rfl rfl U36 fct3 (k) rfl hk)<|.fieldAddrQ 1 rfl U59 rfl (s := 0) (by kernel_rfl) rfl<|.loadAt1 (fun _ h_ => (hrg24 h_ rfl)) (q := 1) rfl rfl rfl U22 rfl .nil) fun Y U =>?_
  refine so 6 ?_
  refine e_litN U m27 102 (k := .i64) rfl rfl U48 fct1 rfl rfl rfl rfl fun g39 Y w40 U m40 =>?_
  refine ⟨m40.to trivial,?_⟩
  have m41 := m40.freezeN 102 rfl
  refine so 7 ?_
  refine ecn U Tryz.func93 rfl m41 103 (rnums13x [xb] _ _ _ ((m41.rd (i := 102) rfl).any) (by simp) (one63 (by omega))) fun p42 c42 Y w42 U m43 =>?_
  refine ⟨m43.to trivial,?_⟩
  refine so 8 ?_
  refine e_appN U m43 9 rfl rfl rfl (m43.numsO (i := 103) rfl) U22 fct0 (by decide) (by rw [hbe]; have h8 := itemsE_len (es.take k) (fun e he => (hok e (List.mem_of_mem_take he)).2); rw [List.length_take] at h8; have h9 := encs_len [xb]; rw [List.length_singleton] at h9; have h7 := (enc_len es.length).1; have h6 := (enc_len xd.length).1; simp only [List.length_append]; omega) rfl fun p45 c45 Y w46 U m46 =>?_
  refine ⟨m46.to trivial,?_⟩
  refine so 14 ?_
  refine ecn U Tryz.func94 rfl m46 104 (rlump_x xd _ _ _ ((hd24_1.now' m46 rfl).any) (by omega)) fun p47 c47 Y w47 U m48 =>?_
  refine ⟨m48.to trivial,?_⟩
  refine so 15 ?_
  refine e_appN U m48 9 rfl rfl rfl (m48.numsO (i := 104) rfl) U22 fct0 (by decide) (by rw [hbe]; have h8 := itemsE_len (es.take k) (fun e he => (hok e (List.mem_of_mem_take he)).2); rw [List.length_take] at h8; have h9 := encs_len [xb]; rw [List.length_singleton] at h9; have h7 := (enc_len es.length).1; have h6 := (enc_len xd.length).1; simp only [List.length_append]; omega) rfl fun p50 c50 Y w51 U m51 =>?_
  refine ⟨m51.to trivial,?_⟩
  refine goA hP27 [16] 1 65535 131071 U (m51.to trivial) (.assign rfl .nil) fun Y U =>?_
  refine wpAnyE_done (by kernel_rfl) ?_ _
  refine hK3 _ _ ?_
  replace U := U.oz [0,3,4]
  refine wp_region_lit ?_
  refine goCh U (.move rfl<|.inc (k + 1)<|.assign rfl .nil) fun Y U =>?_
  refine wpList_nil ?_
  show ∃ n',n' < _ ∧ _
  exact ⟨es.length - (k + 1),by omega,k + 1,_,_,_,by omega,rfl,by rw [hbe,itemsE_snoc hes,encs_one]; simp only [itemE,List.append_assoc],U.only [0,3,4],m51.only [9]⟩
 intro hb19 U; try simp only [QQ,Qax] at hb19
 revert U
 obtain rfl : k = es.length := by omega
 intro U
 refine wcf U ?_
 refine wp_exit ?_
 refine hK1 _ _ ?_
 refine regS U (.move rfl<|.assign rfl .nil) fun Y U =>?_
 refine rt1 U ?_
 rw [List.take_length] at hbe
 revert U
 subst hbe
 intro U
 exact ⟨_,_,rfl,m14.ok 9 _ rfl,m14.below⟩
end
end Go.Proofs.YtkehgingagggaaaGreat.K
