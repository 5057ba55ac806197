/- General laws of walks: CrcK, CrcM, CrcB1, CrcR1, CrcR2, Gen, Gen2, Codec, WPm, Crc5o, AbZ, LisIn. -/
import Derived.Test.YtogjhjiapinmcaaDoorG2
import Derived.Lib.SlBytesConst
import Derived.Laws.BitsAllLaws
import Derived.Test.YtogjhjiapinmcaaDoorG1
import Derived.Deep.Matrix
import Derived.OpenShut
section
namespace Go.Proofs.YtogjhjiapinmcaaDoor.K
open Go.ChangeShapes Go.WideShapes Go.ChangeAt Go.RowKit
set_option linter.unusedVariables false

theorem CLists.lit (w : World) (us : List Value) (ls : List (List Int)) (N : Nat) (T : TypeId) (n c : Nat) (hN : N = w.heap.size) (hn : n = us.length) (hl : us.length = ls.length) (h : ∀ j, j < us.length → IsNums .u8 w (us.getD j default) (ls.getD j [])) :
   CLists (w.alloc (.cells us.toArray T)) (.slice (some ⟨N, 0, none⟩) n c) ls := by
 subst hN; subst hn
 refine ⟨_, c, by rw [hl], .inr ⟨_, 0, rfl, by simp, fun j hj => ?_⟩⟩
 refine ⟨us.getD j default, ?_, (h j (by omega)).alloc _⟩
 unfold World.cell? World.alloc
 simp [List.getD, show j < us.length by omega]
theorem CLists.nil (w : World) (a : Option Addr) (c : Nat) : CLists w (.slice a 0 c) [] := ⟨a, c, rfl, .inl rfl⟩

def Small (ls : List (List Int)) : Prop := ∀ j, j < ls.length → Bytes (ls.getD j []) ∧ (ls.getD j []).length ≤ 1000000

def bytesB (l : List Int) : Bool := l.all fun x => decide (0 ≤ x ∧ x ≤ 255)
def ABS : List Int := [97, 98] ++ fourC (sumC [[97, 98]])

end Go.Proofs.YtogjhjiapinmcaaDoor.K
end
section
namespace Go.Proofs.YtogjhjiapinmcaaDoor.K
open Go.ChangeShapes Go.WideShapes Go.ChangeAt Go.RowKit
set_option linter.unusedVariables false

end Go.Proofs.YtogjhjiapinmcaaDoor.K
end
section
namespace Go.Proofs.YtogjhjiapinmcaaDoor.K
open Go.ChangeShapes Go.WideShapes Go.ChangeAt Go.RowKit
set_option linter.unusedVariables false

def sh1 (c : Nat) : Nat := (c >>> 1) ^^^ (if c.testBit 0 then 2197175160 else 0)
def shk : Nat → Nat → Nat
 | 0, c => c
 | k + 1, c => shk k (sh1 c)

theorem sh1_xor (a b : Nat) : sh1 (a ^^^ b) = sh1 a ^^^ sh1 b := by
 unfold sh1
 rw [Nat.shiftRight_xor_distrib, Nat.testBit_xor]
 cases ha : a.testBit 0 <;> cases hb : b.testBit 0
 · simp
 · simp [Nat.xor_assoc]
 · simp only [Bool.true_xor, Bool.not_false, if_true, if_false, Nat.xor_zero, Bool.false_eq_true]
   rw [Nat.xor_assoc, Nat.xor_assoc, Nat.xor_comm (b >>> 1)]
 · simp only [Bool.xor_self, if_true, Bool.false_eq_true, if_false, Nat.xor_zero]
   rw [Nat.xor_assoc, ← Nat.xor_assoc 2197175160, Nat.xor_comm 2197175160, Nat.xor_assoc (b >>> 1), Nat.xor_self, Nat.xor_zero]

theorem shk_xor (k : Nat) : ∀ a b : Nat, shk k (a ^^^ b) = shk k a ^^^ shk k b := by
 induction k with
 | zero => exact fun a b => rfl
 | succ k ih => intro a b; show shk k (sh1 _) = _; rw [sh1_xor, ih]; rfl

theorem shk_add (j k : Nat) : ∀ c : Nat, shk (j + k) c = shk k (shk j c) := by
 induction j with
 | zero => intro c; rw [Nat.zero_add]; rfl
 | succ j ih => intro c; rw [Nat.succ_add]; show shk (j + k) (sh1 c) = shk k (shk j (sh1 c)); exact ih _

theorem sh1_shl (n : Nat) : sh1 (n <<< 1) = n := by
 unfold sh1
 have h : (n <<< 1).testBit 0 = false := by rw [Nat.testBit_shiftLeft]; simp
 rw [h]
 simp [Nat.shiftLeft_shiftRight]
theorem shk_shl (k : Nat) : ∀ n : Nat, shk k (n <<< k) = n := by
 induction k with
 | zero => exact fun n => rfl
 | succ k ih =>
   intro n
   show shk k (sh1 (n <<< (k + 1))) = n
   rw [Nat.shiftLeft_add, sh1_shl, ih]

theorem sh1_lt (c : Nat) (h : c < 4294967296) : sh1 c < 4294967296 := by
 unfold sh1
 refine Nat.xor_lt_two_pow (n := 32) ?_ ?_
 · rw [Nat.shiftRight_eq_div_pow]; omega
 · split <;> decide
theorem tab_shk : ∀ i, i < 16 → (tab.getD i 0) = ((shk 4 i : Nat) : Int) := by decide +kernel
theorem nib_shk (c : Nat) (h : c < 4294967296) : nib (c : Int) = ((shk 4 c : Nat) : Int) := by
 unfold nib
 rw [u32_and15 (c : Int) (by omega) (by omega)]
 have e : ((c : Int) % 16).toNat = c % 16 := by omega
 rw [e, tab_shk (c % 16) (by omega)]
 have h16 : shk 4 (c % 16) < 4294967296 := sh1_lt _ (sh1_lt _ (sh1_lt _ (sh1_lt _ (by omega))))
 rw [show (c : Int) / 16 = ((c / 16 : Nat) : Int) by omega, u32_xor_nat _ _ (by omega) h16]
 congr 1
 have hc : c = ((c / 16) <<< 4) ^^^ (c % 16) := by
   apply Nat.eq_of_testBit_eq
   intro i
   rw [Nat.testBit_xor, Nat.testBit_shiftLeft, show (16 : Nat) = 2 ^ 4 by rfl, Nat.testBit_mod_two_pow, Nat.testBit_div_two_pow]
   by_cases hi : 4 ≤ i
   · simp [hi, show ¬ i < 4 by omega]
   · simp [hi, show i < 4 by omega]
 conv => rhs; rw [hc]
 rw [shk_xor, shk_shl]

def numB : List Int → Nat
 | [] => 0
 | x :: xs => x.toNat ^^^ (numB xs <<< 8)

theorem step_shk (c : Nat) (h : c < 4294967296) (x : Int) (h0 : 0 ≤ x) (h1 : x ≤ 255) : step (c : Int) x = ((shk 8 (c ^^^ x.toNat) : Nat) : Int) ∧ shk 8 (c ^^^ x.toNat) < 4294967296 := by
 have hx : c ^^^ x.toNat < 4294967296 := Nat.xor_lt_two_pow (n := 32) h (by omega)
 have h4 : shk 4 (c ^^^ x.toNat) < 4294967296 := sh1_lt _ (sh1_lt _ (sh1_lt _ (sh1_lt _ hx)))
 have h8 : shk 8 (c ^^^ x.toNat) = shk 4 (shk 4 (c ^^^ x.toNat)) := shk_add 4 4 _
 refine ⟨?_, by rw [h8]; exact sh1_lt _ (sh1_lt _ (sh1_lt _ (sh1_lt _ h4)))⟩
 unfold step
 have e : bits .xor .u32 (c : Int) x = ((c ^^^ x.toNat : Nat) : Int) := by
   obtain ⟨n, rfl⟩ := Int.eq_ofNat_of_zero_le h0
   rw [u32_xor_nat c n h (by omega)]; rfl
 rw [e, nib_shk _ hx, nib_shk _ h4, h8]

end Go.Proofs.YtogjhjiapinmcaaDoor.K
end
section
namespace Go.Proofs.YtogjhjiapinmcaaDoor.K
open Go.ChangeShapes Go.WideShapes Go.ChangeAt Go.RowKit
set_option linter.unusedVariables false

theorem shk_succ (k c : Nat) : shk (k + 1) c = sh1 (shk k c) := shk_add k 1 c
theorem shk_lt (k : Nat) : ∀ c : Nat, c < 4294967296 → shk k c < 4294967296 := by
 induction k with
 | zero => exact fun c h => h
 | succ k ih => exact fun c h => ih _ (sh1_lt c h)

set_option maxRecDepth 100000 in
set_option maxHeartbeats 2000000 in
theorem row_any (c : Nat) (w : World) (hc : c < 4294967296) :
   Calls Tryd.prog 63 #[.int .u32 (c : Int)] w fun e w' => e = .returned (.int .u32 ((shk 8 c : Nat) : Int)) ∧ w' = w := by
 go_enter Tryd.func63, Tryd.ntmps63
 go_wp2
 go_loop [0, 3] (fun s i => ∃ k d : Nat, k ≤ 8 ∧ i = .int .i64 k ∧ s = .int .u32 (d : Int) ∧ d = shk k c ∧ d < 4294967296) (fun _ i => 8 - (intOf i).toNat)
 case atStart => exact ⟨0, c, by omega, rfl, rfl, rfl, hc⟩
 case round =>
   obtain ⟨k, d, hk, rfl, rfl, hd, hd2⟩ := hrel
   by_cases hlt : k < 8
   · have hand : bits .and .u32 (d : Int) 1 = ((d % 2 : Nat) : Int) := by
       rw [show (1 : Int) = ((1 : Nat) : Int) by rfl, u32_and_nat _ _ hd2 (by decide), nat_mask1]
     have hs := shk_succ k c
     rw [← hd] at hs
     have hlt1 := sh1_lt d hd2
     by_cases hb : d % 2 = 1
     · rw [hb] at hand
       have hv : bits .xor .u32 ((d : Int) / 2) 2197175160 = ((sh1 d : Nat) : Int) := by
         have e : sh1 d = (d / 2) ^^^ 2197175160 := by
           unfold sh1
           rw [Nat.testBit_zero, Nat.shiftRight_eq_div_pow, hb]; rfl
         rw [e, show (d : Int) / 2 = ((d / 2 : Nat) : Int) by omega, show (2197175160 : Int) = ((2197175160 : Nat) : Int) by rfl, u32_xor_nat _ _ (by omega) (by decide)]
       have HS := Lib.hid hs
       clear hs hd
       go_wp2
       go_round
       case rel => exact ⟨k + 1, _, by omega, by go_num, by first | rw [hv] | rfl, HS.out.symm, hlt1⟩
       case measure => simp [intOf]; omega
     · rw [show d % 2 = 0 by omega] at hand
       have hv : ((d : Int) / 2) = ((sh1 d : Nat) : Int) := by
         have e : sh1 d = (d / 2) := by
           unfold sh1
           rw [Nat.testBit_zero, Nat.shiftRight_eq_div_pow, show d % 2 = 0 by omega]; simp
         rw [e]; omega
       have h01 : ((0 : Int) == 1) = false := rfl
       have HS := Lib.hid hs
       have HVV := Lib.hid hv
       clear hs hd hv
       go_wp2
       go_round
       case rel => exact ⟨k + 1, _, by omega, by go_num, by rw [HVV.out], HS.out.symm, hlt1⟩
       case measure => simp [intOf]; omega
   · obtain rfl : k = 8 := by omega
     go_wp2
     go_ret
     exact ⟨rfl, rfl⟩

theorem ref_step (d : Nat) (hd : d < 4294967296) (x : Int) (h0 : 0 ≤ x) (h1 : x ≤ 255) (r : Nat) (hr : bits .xor .u32 (bits .and .u32 (d : Int) 255) x = (r : Int)) :
   bits .xor .u32 ((shk 8 r : Nat) : Int) ((d : Int) / 256) = step (d : Int) x ∧ r < 4294967296 := by
 obtain ⟨n, rfl⟩ := Int.eq_ofNat_of_zero_le h0
 have hand : bits .and .u32 (d : Int) 255 = ((d % 256 : Nat) : Int) := by
   rw [show (255 : Int) = ((255 : Nat) : Int) by rfl, u32_and_nat _ _ hd (by decide), nat_mask8]
 rw [hand, u32_xor_nat _ n (by omega) (by omega)] at hr
 have hr' : r = (d % 256) ^^^ n := by exact_mod_cast hr.symm
 have hlt : r < 4294967296 := by rw [hr']; exact Nat.xor_lt_two_pow (n := 32) (by omega) (by omega)
 refine ⟨?_, hlt⟩
 rw [(step_shk d hd (n : Int) h0 h1).1, show (d : Int) / 256 = ((d / 256 : Nat) : Int) by omega, u32_xor_nat _ _ (shk_lt 8 r hlt) (by omega)]
 congr 1
 have hdd : d = ((d / 256) <<< 8) ^^^ (d % 256) := by
   apply Nat.eq_of_testBit_eq
   intro i
   rw [Nat.testBit_xor, Nat.testBit_shiftLeft, show (256 : Nat) = 2 ^ 8 by rfl, Nat.testBit_mod_two_pow, Nat.testBit_div_two_pow]
   by_cases hi : 8 ≤ i
   · simp [hi, show ¬ i < 8 by omega]
   · simp [hi, show i < 8 by omega]
 conv => rhs; rw [hdd]
 rw [Nat.xor_assoc, shk_xor, shk_shl, hr', Nat.xor_comm]
 rfl

set_option maxRecDepth 100000 in
set_option maxHeartbeats 2000000 in
theorem more_ref (c : Int) (v : Value) (bs : List Int) (w : World) (hc : 0 ≤ c ∧ c < 4294967296) (hv : IsNums .u8 w v bs) (hb : Bytes bs) (hl : bs.length ≤ 1000000) :
   Calls Tryd.prog 62 #[.int .u32 c, v] w fun e w' => e = .returned (.int .u32 (moreC c bs)) ∧ w' = w := by
 obtain ⟨p, cc, rfl, h⟩ := hv
 have H := Lib.hid h
 have HB := Lib.hid hb
 clear h hb
 have hr0 := range32 .xor IntKind.u32.max c
 go_enter Tryd.func62, Tryd.ntmps62
 go_wp2
 go_loop [0, 5] (fun s i => ∃ (k : Nat) (d : Nat), k ≤ bs.length ∧ i = .int .i64 k ∧ s = .int .u32 (d : Int) ∧ (d : Int) = (bs.take k).foldl step (turn c) ∧ d < 4294967296) (fun _ i => bs.length - (intOf i).toNat)
 case atStart =>
   obtain ⟨d, hd⟩ := Int.eq_ofNat_of_zero_le hr0.1
   exact ⟨0, d, Nat.zero_le _, rfl, by rw [hd], by rw [← hd]; rfl, by omega⟩
 case round =>
   obtain ⟨k, d, hk, rfl, rfl, hd, hd1⟩ := hrel
   have HD := Lib.hid hd
   clear hd
   by_cases hlt : k < bs.length
   · obtain h0 | ⟨b, off, rfl, hblk, hcell⟩ := H.out
     · omega
     have hcl : w.cell? ⟨b, off + k, none⟩ = some (.int .u8 (bs.getD k 0)) := hcell k hlt
     clear hcell
     obtain ⟨x0, x1⟩ := HB.out k hlt
     obtain ⟨x, hx⟩ : ∃ x, bs.getD k 0 = x := ⟨_, rfl⟩
     rw [hx] at hcl x0 x1
     have HX := Lib.hid hx
     clear hx
     have hrr := range32 .xor (bits .and .u32 (d : Int) 255) x
     obtain ⟨r, hr⟩ := Int.eq_ofNat_of_zero_le hrr.1
     obtain ⟨hst, hr2⟩ := ref_step d hd1 x x0 x1 r hr
     have hsr := step_shk d hd1 x x0 x1
     have HST := Lib.hid hst
     clear hst
     go_wp2_with fail
     refine (row_any r w hr2).mono ?_
     rintro e w1 ⟨rfl, rfl⟩
     go_wp2
     go_round
     case rel =>
       refine ⟨k + 1, _, by omega, by go_num, ?_, ?_, hsr.2⟩
       · rw [HST.out, hsr.1]
       · rw [fold_snoc _ _ _ hlt, ← HD.out, HX.out, hsr.1]
     case measure => simp [intOf]; omega
   · obtain rfl : k = bs.length := by omega
     rw [List.take_length] at HD
     go_wp2
     go_ret
     refine ⟨?_, rfl⟩
     rw [HD.out]
     rfl

theorem sum_ref (v : Value) (bs : List Int) (w : World) (hv : IsNums .u8 w v bs) (hb : Bytes bs) (hl : bs.length ≤ 1000000) :
   Calls Tryd.prog 55 #[v] w fun e w' => e = .returned (.int .u32 (sumC [bs])) ∧ w' = w := by
 have HV := Lib.hid hv
 obtain ⟨p, cc, rfl, h⟩ := hv
 clear h
 go_enter Tryd.func55, Tryd.ntmps55
 go_wp2_with fail
 refine (more_ref 0 _ bs w (by omega) HV.out hb hl).mono ?_
 rintro e w1 ⟨rfl, rfl⟩
 go_wp2
 go_ret
 exact ⟨rfl, rfl⟩

theorem four_ref (c : Int) (w : World) (hc : 0 ≤ c ∧ c < 4294967296) :
   Calls Tryd.prog 54 #[.int .u32 c] w fun e w' => ∃ p k, e = .returned (.slice p 4 k) ∧ IsNums .u8 w' (.slice p 4 k) (fourC c) ∧ Below w.heap.size w w' := by
 obtain ⟨N, hN⟩ : ∃ N, w.heap.size = N := ⟨_, rfl⟩
 have h5 : c / 16777216 % 256 = c / 16777216 := by omega
 go_enter Tryd.func54, Tryd.ntmps54
 go_wp2
 go_ret
 refine ⟨_, _, rfl, ?_, ?_⟩
 · have h := IsNums.lit .u8 w (fourC c) N 5 4 4 hN.symm rfl
   have e : ((fourC c).map (Value.int .u8)).toArray = #[.int .u8 (c % 256), .int .u8 (c / 256 % 256), .int .u8 (c / 65536 % 256), .int .u8 (c / 16777216)] := by simp [fourC, h5]
   rw [e] at h
   exact h
 · exact (Below.refl _ w).alloc (Nat.le_refl _) _

set_option maxRecDepth 100000 in
set_option maxHeartbeats 2000000 in
theorem seal_ref (v : Value) (bs : List Int) (w : World) (hv : IsNums .u8 w v bs) (hb : Bytes bs) (hl : bs.length ≤ 10000) :
   Calls Tryd.prog 40 #[v] w fun e w' => ∃ u, e = .returned u ∧ w'.ownsRow w.heap.size 5 1 u (sealC bs).length ((sealC bs).map (Value.int .u8)) ∧ Below w.heap.size w w' := by
 obtain ⟨N, hN⟩ : ∃ N, w.heap.size = N := ⟨_, rfl⟩
 have HV := Lib.hid hv
 obtain ⟨p, cc, rfl, h⟩ := hv
 have HB := Lib.hid hb
 clear h hb
 obtain ⟨L, hL⟩ : ∃ L, bs.length = L := ⟨_, rfl⟩
 have HL := Lib.hid hL
 rw [hL] at hl HV
 go_enter Tryd.func40, Tryd.ntmps40
 rw [hL]
 clear hL
 go_wp2_with (at_builtin; refine wpList_appN rfl _ _ 24 rfl N 5 .u8 1 Tryd.underlying24 info_u8 (by omega) _ 0 [] rfl (World.ownsRow_nil _ _ _ _) _ _ rfl HV.out (by rw [HL.out]; omega) (by omega) ?_; intro v2 w2 hown2 hb2; have hs2 := hb2.size; have HV2 := Lib.hid (HV.out.below hb2 (by omega)))
 refine (sum_ref _ bs w2 HV2.out HB.out (by rw [HL.out]; omega)).mono ?_
 rintro e w3 ⟨rfl, rfl⟩
 go_wp2_with fail
 refine (four_ref (sumC [bs]) _ (sumC_range _)).mono ?_
 rintro e w4 ⟨p4, k4, rfl, hn4, hb4⟩
 have hown5 : w4.ownsRow N 5 1 v2 (0 + bs.length) ([] ++ List.map (Value.int IntKind.u8) bs) := own_below hown2 hb4 (Nat.le_refl _)
 have hs4 := hb4.size
 have HN := Lib.hid hn4
 have hb5 : Below N w w4 := hb2.trans (hb4.mono (by omega))
 clear hown2 hn4 hb4 hb2 HV HV2
 go_wp2_with (at_builtin; refine wpList_appN rfl _ _ 24 rfl N 5 .u8 1 Tryd.underlying24 info_u8 (by omega) _ _ _ rfl hown5 _ _ rfl HN.out (by rw [HL.out, fourC_len]; omega) (by omega) ?_; intro v6 w6 hown6 hb6)
 go_ret
 refine ⟨_, rfl, ?_, by rw [hN]; exact hb5.trans hb6⟩
 rw [hN]
 have e1 : (sealC bs).length = 0 + bs.length + (fourC (sumC [bs])).length := by rw [sealC_len, fourC_len]; omega
 rw [e1]
 simpa [sealC] using hown6
end Go.Proofs.YtogjhjiapinmcaaDoor.K
end
section
namespace Go.Proofs.YtogjhjiapinmcaaDoor.K
open Go.ChangeShapes Go.WideShapes Go.ChangeAt Go.RowKit
set_option linter.unusedVariables false

end Go.Proofs.YtogjhjiapinmcaaDoor.K
end
section
namespace Go.Proofs.YtogjhjiapinmcaaDoor.K
open Go.ChangeShapes Go.WideShapes Go.ChangeAt Go.RowKit
set_option linter.unusedVariables false

section
variable {P : Program} {a : Act} {w : World} {K : Act → World → Prop} {Q : Exit → Act → World → Prop}
end
theorem NumsOff.ofOwn {bad : Nat → Prop} {w : World} {base : Nat} {e : TypeId} {v : Value} {n : Nat} {zs : List Int} (h : w.ownsRow base e 1 v n (zs.map (Value.int .u8))) (hb : ∀ k, base ≤ k → k < w.heap.size → ¬ bad k) : NumsOff bad w v zs := by
 have hn : n = zs.length := by have := h.1; simpa using this.symm
 subst hn
 rcases h.2 with ⟨rfl, h0⟩ | ⟨g, cap, cur, rfl, hg, hbk, h1, h2, h3, h4⟩
 · obtain rfl := List.length_eq_zero_iff.1 h0; exact NumsOff.nil _ _ none 0
 · have hlt := (Array.getElem?_eq_some_iff.1 hbk).1
   refine ⟨_, cap, rfl, .inr ⟨g, 0, rfl, hlt, hb g hg hlt, fun j hj => ?_⟩⟩
   have := h.cellAt j (by omega)
   rw [Nat.zero_add, this]
   simp [hj, List.getD]
end Go.Proofs.YtogjhjiapinmcaaDoor.K
end
section
namespace Go.Proofs.YtogjhjiapinmcaaDoor.K
open Go.ChangeShapes Go.WideShapes Go.ChangeAt Go.RowKit
set_option linter.unusedVariables false

section
variable {P : Program} {ops : Array Oper} {rest : List Oper} {a : Act} {w : World} {Q : Exit → Act → World → Prop}
end
theorem Only.keep {B : Nat} {a b : World} (h : Only B a b) : Keep (fun k => k = B) a b := ⟨h.os, h.tape, h.output, h.size, fun i hi hn => h.block i hi (fun e => hn (show i = B from (by injection e)))⟩
theorem numR_le (bs : List Int) (e most : Int) (m0 : 0 ≤ most) : 0 ≤ (numR bs e most).1 ∧ (numR bs e most).1 ≤ most := by
 unfold numR
 split
 · cases dec 0 0 bs with
   | err er => exact ⟨Int.le_refl _, m0⟩
   | ok n k =>
     show 0 ≤ (if most < (n : Int) then ((0 : Int), ([] : List Int), (22 : Int)) else ((n : Int), bs.drop k, 0)).1 ∧ (if most < (n : Int) then ((0 : Int), ([] : List Int), (22 : Int)) else ((n : Int), bs.drop k, 0)).1 ≤ most
     split
     · exact ⟨Int.le_refl _, m0⟩
     · show 0 ≤ (n : Int) ∧ (n : Int) ≤ most
       omega
 · exact ⟨Int.le_refl _, m0⟩
theorem numR_len (bs : List Int) (e most : Int) : (numR bs e most).2.1.length ≤ bs.length := by
 unfold numR
 split
 · cases dec 0 0 bs with
   | err er => exact Nat.zero_le _
   | ok n k =>
     show (if most < (n : Int) then ((0 : Int), ([] : List Int), (22 : Int)) else ((n : Int), bs.drop k, 0)).2.1.length ≤ _
     split
     · exact Nat.zero_le _
     · show (bs.drop k).length ≤ _
       rw [List.length_drop]; omega
 · exact Nat.le_refl _
theorem numR_sub (bs : List Int) (e most : Int) : ∀ x ∈ (numR bs e most).2.1, x ∈ bs := by
 unfold numR
 split
 · cases dec 0 0 bs with
   | err er => intro x hx; cases hx
   | ok n k =>
     show ∀ x ∈ (if most < (n : Int) then ((0 : Int), ([] : List Int), (22 : Int)) else ((n : Int), bs.drop k, 0)).2.1, _
     split
     · intro x hx; cases hx
     · intro x hx; exact List.mem_of_mem_drop hx
 · intro x hx; exact hx
end Go.Proofs.YtogjhjiapinmcaaDoor.K
end
section
namespace Go.Proofs.YtogjhjiapinmcaaDoor.K
open Go.ChangeShapes Go.WideShapes Go.ChangeAt Go.RowKit
set_option linter.unusedVariables false
set_option linter.unusedSimpArgs false

theorem and127 (b : Int) (h0 : 0 ≤ b) (h1 : b ≤ 255) : bits .and .u8 b 127 = b % 128 := by
 have h : ∀ z : Fin 256, bits .and .u8 ((z.val : Nat) : Int) 127 = ((z.val : Nat) : Int) % 128 := by decide +kernel
 have := h ⟨b.toNat, by omega⟩
 simp only at this
 rw [show ((b.toNat : Nat) : Int) = b by omega] at this
 exact this
theorem numR_err {bs : List Int} {er : Int} (most : Int) (h : dec 0 0 bs = .err er) : numR bs 0 most = (0, [], er) := by rw [numR, if_pos rfl, h]
theorem numR_val {bs : List Int} {n k : Nat} (most : Int) (h : dec 0 0 bs = .ok n k) : numR bs 0 most = if most < (n : Int) then (0, [], 22) else ((n : Int), bs.drop k, 0) := by rw [numR, if_pos rfl, h]
end Go.Proofs.YtogjhjiapinmcaaDoor.K
end
section
namespace Go.Proofs.YtogjhjiapinmcaaDoor.K
open Go.ChangeShapes Go.WideShapes Go.ChangeAt Go.RowKit
def BytesL (d : List Int) : Prop := ∀ x ∈ d, 0 ≤ x ∧ x ≤ 255
def bD (l : List Int) : List D := [.ns .u8 l]
theorem andx {x : Int} (h0 : 0 ≤ x) (h1 : x ≤ 255) : IntKind.u8.wrap (BitVec.ofInt IntKind.u8.bits x &&& BitVec.ofInt IntKind.u8.bits 127).toNat = x % 128 := and127 x h0 h1
theorem shx {k : Nat} (hk : k ≤ 9) : min (7 * (k : Int)).toNat IntKind.u64.bits = 7 * k := by
 have : IntKind.u64.bits = 64 := rfl
 omega
theorem getD_bd {b : List Int} {k : Nat} (h : BytesL b) (hk : k < b.length) : 0 ≤ b.getD k 0 ∧ b.getD k 0 ≤ 255 := by
 rw [List.getD, List.getElem?_eq_getElem hk]; exact h _ (List.getElem_mem hk)
theorem dec_at {b : List Int} {u k : Nat} (hk : k < b.length) : dec u k (b.drop k) = if (k = 9 ∧ 1 < b.getD k 0) ∨ (0 < k ∧ b.getD k 0 = 0) then .err 20 else if b.getD k 0 < 128 then .ok (u + (b.getD k 0 % 128).toNat * 2 ^ (7 * k)) (k + 1) else dec (u + (b.getD k 0 % 128).toNat * 2 ^ (7 * k)) (k + 1) (b.drop (k + 1)) := by
 rw [List.drop_eq_getElem_cons hk, dec, List.getD, List.getElem?_eq_getElem hk]; rfl
theorem encs_one (x : Int) : encs [x] = enc x := by simp [encs]
theorem one63 {x : Int} (h : 0 ≤ x ∧ x ≤ 9223372036854775807) : ∀ k, k < [x].length → 0 ≤ [x].getD k 0 ∧ [x].getD k 0 ≤ 9223372036854775807 := fun k hk => by
 obtain rfl : k = 0 := by simpa using hk
 simpa using h
end Go.Proofs.YtogjhjiapinmcaaDoor.K
end
section
namespace Go.Proofs.YtogjhjiapinmcaaDoor.K
open Go.ChangeShapes Go.WideShapes Go.ChangeAt Go.RowKit
set_option linter.unusedVariables false

def OpenOwn (bs : List Int) (w : World) (e : Ending) (w' : World) : Prop :=
 ∃ u, e = .returned (.tuple #[u, .bool (openB bs)]) ∧ w'.ownsRow w.heap.size 5 1 u (openC bs).length ((openC bs).map (Value.int .u8)) ∧ Below w.heap.size w w'

set_option maxRecDepth 100000 in
set_option maxHeartbeats 2000000 in
theorem open_own (p : Option Addr) (n cc : Nat) (bs : List Int) (w : World) (hT : TabOk w) (h1 : 1 ≤ w.heap.size) (hv : IsNums .u8 w (.slice p (n + 4) cc) bs) (hl : bs.length = n + 4) (hcc : n + 4 ≤ cc) (hb : Bytes bs) (hn : n ≤ 10000) : Calls Tryd.prog 48 #[.slice p (n + 4 : Nat) cc] w (OpenOwn bs w) := by
 obtain ⟨b, off, rfl⟩ : ∃ b off, p = some ⟨b, off, none⟩ := by
   obtain ⟨a, c', hv1, h⟩ := hv
   simp only [Value.slice.injEq] at hv1
   obtain ⟨rfl, hl1, rfl⟩ := hv1
   rcases h with h | ⟨b', off', hh, -, -⟩
   · omega
   · exact ⟨b', off', hh⟩
 have HV := Lib.hid hv
 have HT := Lib.hid (show TabOk w.drew from hT)
 have HP := Lib.hid (show IsNums .u8 w.drew (.slice (some ⟨b, off, none⟩) n cc) (bs.take n) from by have := (hv.part 0 n (by omega) (by omega) cc n (by omega)).drew; simpa using this)
 have HQ := Lib.hid (show IsNums .u8 w.drew (.slice (some ⟨b, off + n, none⟩) 4 (cc - n)) (bs.drop n) from by have := (hv.part n (n + 4) (by omega) (by omega) (cc - n) 4 (by omega)).drew; rw [← hl, List.take_length] at this; exact this)
 have HF1 := Lib.hid (show ∀ j, j < [bs.take n].length → Bytes ([bs.take n].getD j []) ∧ ([bs.take n].getD j []).length ≤ 1000000 from by
   intro j hj
   obtain rfl : j = 0 := by simpa using hj
   refine ⟨fun i hi => ?_, ?_⟩
   · have hi' : i < (bs.take n).length := hi
     simp only [List.length_take] at hi'
     have := hb i (by omega)
     have e : (bs.take n).getD i 0 = bs.getD i 0 := by simp only [List.getD, List.getElem?_take]; rw [if_pos (by omega)]
     show 0 ≤ (bs.take n).getD i 0 ∧ (bs.take n).getD i 0 ≤ 255
     rw [e]; exact this
   · show (bs.take n).length ≤ _
     simp; omega)
 have HBB := Lib.hid hb
 have HL := Lib.hid hl
 clear hv hT hb hl
 have e0 : ((n + 4 : Nat) : Int) - 4 = (n : Int) := by omega
 go_enter Tryd.func48, Tryd.ntmps48
 go_wp2_with fail
 refine region_begin (by kernel_rfl) ?_
 refine step_read 0 (some 8) (v := ?v0) rfl (by rfl) (by kernel_rfl) (by kernel_rfl) (by kernel_rfl) (fun _ _ _ h => h) (by rfl) ?y0 ?n0
 case y0 => intro W hW; go_simp; try with_reducible rfl
 try simp only [Act.put, List.setIfInBounds_toArray, List.set_cons_zero, List.set_cons_succ]
 refine step_read 1 (some 9) (v := ?v1) rfl (by rfl) (by kernel_rfl) (by kernel_rfl) (by kernel_rfl) (fun _ _ _ h => h) (by rfl) ?y1 ?n1
 case y1 => intro W hW; go_simp; try with_reducible rfl
 try simp only [Act.put, List.setIfInBounds_toArray, List.set_cons_zero, List.set_cons_succ]
 refine step_read 2 (some 10) (v := ?v2) rfl (by rfl) (by kernel_rfl) (by kernel_rfl) (by kernel_rfl) (fun _ _ _ h => h) (by rfl) ?y2 ?n2
 case y2 => intro W hW; go_simp; try with_reducible rfl
 try simp only [Act.put, List.setIfInBounds_toArray, List.set_cons_zero, List.set_cons_succ]
 refine step_read 3 (some 11) (v := ?v3) rfl (by rfl) (by kernel_rfl) (by kernel_rfl) (by kernel_rfl) (fun _ _ _ h => h) (by rfl) ?y3 ?n3
 case y3 => intro W hW; go_simp; try with_reducible rfl
 try simp only [Act.put, List.setIfInBounds_toArray, List.set_cons_zero, List.set_cons_succ]
 refine step_read 4 (some 12) (v := ?v4) rfl (by rfl) (by kernel_rfl) (by kernel_rfl) (by kernel_rfl) (fun _ _ _ h => h) (by rfl) ?y4 ?n4
 case y4 => intro W hW; go_simp; try with_reducible rfl
 try simp only [Act.put, List.setIfInBounds_toArray, List.set_cons_zero, List.set_cons_succ]
 refine step_read 5 (some 13) (v := ?v5) rfl (by rfl) (by kernel_rfl) (by kernel_rfl) (by kernel_rfl) (fun _ _ _ h => h) (by rfl) ?y5 ?n5
 case y5 => intro W hW; go_simp; rw [if_pos (by omega), if_neg (by omega)]; try with_reducible rfl
 try simp only [Act.put, List.setIfInBounds_toArray, List.set_cons_zero, List.set_cons_succ]
 refine step_read 6 (some 14) (v := ?v6) rfl (by rfl) (by kernel_rfl) (by kernel_rfl) (by kernel_rfl) (fun _ _ _ h => h) (by rfl) ?y6 ?n6
 case y6 => intro W hW; have ec := conv_at HQ.out hW; go_simp; try with_reducible rfl
 try simp only [Act.put, List.setIfInBounds_toArray, List.set_cons_zero, List.set_cons_succ]
 refine step_read 7 (some 15) (v := ?v7) rfl (by rfl) (by kernel_rfl) (by kernel_rfl) (by kernel_rfl) (fun _ _ _ h => h) (by rfl) ?y7 ?n7
 case y7 => intro W hW; go_simp; try with_reducible rfl
 try simp only [Act.put, List.setIfInBounds_toArray, List.set_cons_zero, List.set_cons_succ]
 refine step_read 8 (some 16) (v := ?v8) rfl (by rfl) (by kernel_rfl) (by kernel_rfl) (by kernel_rfl) (fun _ _ _ h => h) (by rfl) ?y8 ?n8
 case y8 => intro W hW; go_simp; try with_reducible rfl
 try simp only [Act.put, List.setIfInBounds_toArray, List.set_cons_zero, List.set_cons_succ]
 refine step_read 9 (some 17) (v := ?v9) rfl (by rfl) (by kernel_rfl) (by kernel_rfl) (by kernel_rfl) (fun _ _ _ h => h) (by rfl) ?y9 ?n9
 case y9 => intro W hW; go_simp; rw [if_pos (by omega)]; try with_reducible rfl
 try simp only [Act.put, List.setIfInBounds_toArray, List.set_cons_zero, List.set_cons_succ]
 -- 10: buildSlice -> 18
 refine step_only 10 rfl (by kernel_rfl) (by rfl) (fun K' hK => ?_)
 go_simp
 refine hK _ _ ((Below.refl _ _).alloc (Nat.le_refl _) _) ?_
 have HT1 := Lib.hid (HT.out.alloc (by show 1 ≤ w.heap.size; exact h1) (Obj.cells #[Value.slice (some ⟨b, off, none⟩) n cc] 24))
 have HL1 := Lib.hid (CLists.one (HP.out) w.drew.heap.size rfl 24)
 clear hK K'
 try simp only [Act.put, List.setIfInBounds_toArray, List.set_cons_zero, List.set_cons_succ]
 -- 11: call:10 -> 19
 refine step_only 11 rfl (by kernel_rfl) (by rfl) (fun K' hK => ?_)
 go_simp
 go_at_call 38
 refine (sum_any _ [bs.take n] _ HT1.out HL1.out HF1.out (by simp)).mono ?_
 rintro e x ⟨rfl, rfl⟩
 refine hK _ _ (Below.refl _ _) ?_
 clear hK K'
 try simp only [Act.put, List.setIfInBounds_toArray, List.set_cons_zero, List.set_cons_succ]
 -- 12: call:15 -> 20
 refine step_only 12 rfl (by kernel_rfl) (by rfl) (fun K' hK => ?_)
 go_simp
 go_at_call 37
 refine (four_any (sumC [bs.take n]) _ (sumC_range _)).mono ?_
 rintro e x ⟨u20, rfl, hown20, bx⟩
 have K20 := Lib.hid (IsNums.ofOwn hown20)
 refine hK _ _ bx ?_
 clear hK K'
 try simp only [Act.put, List.setIfInBounds_toArray, List.set_cons_zero, List.set_cons_succ]
 refine step_read 13 (some 21) (v := ?v13) rfl (by rfl) (by kernel_rfl) (by kernel_rfl) (by kernel_rfl) (fun _ _ _ h => h) (by rfl) ?y13 ?n13
 case y13 => intro W hW; have ec := conv_at K20.out hW; go_simp; try with_reducible rfl
 try simp only [Act.put, List.setIfInBounds_toArray, List.set_cons_zero, List.set_cons_succ]
 refine step_read 14 (some 22) (v := ?v14) rfl (by rfl) (by kernel_rfl) (by kernel_rfl) (by kernel_rfl) (fun _ _ _ h => h) (by rfl) ?y14 ?n14
 case y14 => intro W hW; go_simp; try with_reducible rfl
 try simp only [Act.put, List.setIfInBounds_toArray, List.set_cons_zero, List.set_cons_succ]
 refine step_read 15 (some 23) (v := ?v15) rfl (by rfl) (by kernel_rfl) (by kernel_rfl) (by kernel_rfl) (fun _ _ _ h => h) (by rfl) ?y15 ?n15
 case y15 => intro W hW; go_simp; try with_reducible rfl
 try simp only [Act.put, List.setIfInBounds_toArray, List.set_cons_zero, List.set_cons_succ]
 refine wpAnyH_done (by kernel_rfl) ?_ _
 have heq : ((strOfNums (List.drop n bs)).toList == (strOfNums (fourC (sumC [List.take n bs]))).toList) = openB bs := by
   rw [str_beq (fun x hx => HBB.out.mem x (List.mem_of_mem_drop hx)) (fourC_bytes _).mem]
   unfold openB
   rw [show bs.length - 4 = n by rw [HL.out]; omega]
   simp only [decide_eq_decide]
   exact ⟨fun h => ⟨by rw [HL.out]; omega, h⟩, fun h => h.2⟩
 rw [heq]
 have hbd : Below w.drew.heap.size w.drew x := ((Below.refl _ w.drew).alloc (Nat.le_refl _) _).trans (show Below _ (w.drew.alloc _) x from bx.mono (by show w.heap.size ≤ _; simp))
 have hbx : Below w.heap.size w x := (Below.refl _ w).drew.trans hbd
 have hn0 : decide ((n : Int) < 0) = false := by simp
 rw [hn0]
 have HPx := Lib.hid (HP.out.below hbd (Nat.le_refl _))
 have HO := Lib.hid (rfl : openB bs = openB bs)
 have HBX := Lib.hid hbx
 clear heq hn0 hown20 bx hbx hbd K20 HT1 HL1 HF1 HQ HP
 obtain ⟨o, ho⟩ : ∃ o, openB bs = o := ⟨_, rfl⟩
 rw [ho]
 replace HO := Lib.hid ho
 clear ho
 cases o
 · go_wp2
   go_ret2
   refine ⟨.slice none 0 0, ?_, ?_, HBX.out⟩
   · rw [HO.out]; rfl
   · unfold openC; rw [if_neg (by rw [HO.out]; decide)]; exact World.ownsRow_nil _ _ _ _
 · go_wp2_with (at_builtin; refine wpList_appN rfl _ _ 24 rfl x.heap.size 5 .u8 1 Tryd.underlying24 info_u8 (by omega) _ 0 [] rfl (World.ownsRow_nil _ _ _ _) _ _ rfl HPx.out (by simp; omega) (Nat.le_refl _) ?_; intro v6 w6 hown6 hb6)
   go_ret2
   refine ⟨v6, ?_, ?_, HBX.out.trans (hb6.mono HBX.out.size)⟩
   · rw [HO.out]; rfl
   · have hown7 := ownsRow_base hown6 HBX.out.size
     unfold openC; rw [if_pos HO.out, HL.out]
     have hl9 : (bs.take (n + 4 - 4)).length = 0 + (List.take n bs).length := by rw [Nat.add_sub_cancel]; omega
     rw [hl9]
     simpa using hown7
end Go.Proofs.YtogjhjiapinmcaaDoor.K
end
section
namespace Go.Proofs.YtogjhjiapinmcaaDoor.K
open Go.ChangeShapes Go.WideShapes Go.ChangeAt Go.RowKit
set_option linter.unusedVariables false
set_option linter.unusedSimpArgs false

theorem zeroCells_one (v : Value) (m : Nat) : Builtin.zeroCells #[v] m = (List.replicate m v).toArray := by
 apply Array.ext'
 apply List.ext_getElem
 · simp [Builtin.zeroCells]
 · intro i h1 h2
   simp [Builtin.zeroCells, Nat.mod_one]
theorem run_appZ {P : Program} {w : World} (base : Nat) (t tn ty e : TypeId) (k kn kq : IntKind) (bytes : Nat) (ht : P.underlying t = some (.slice e)) (htn : P.underlying tn = some (.int kn)) (hinf : (P.info? e).map (fun i => (i.zero, i.size, i.bytes)) = some (some (.int k 0), 1, bytes)) (hb8 : bytes ≤ 8)
   (v : Value) (n : Nat) (xs : List Value) (hown : w.ownsRow base e 1 v n xs) (m : Nat) (hn : n + m ≤ 1000000000) (hbase : base ≤ w.heap.size) :
   ∃ v' w', (Builtin.append_ #[t, tn] ty #[v, .int kq m]).run P w = .ok v' w' ∧ w'.ownsRow base e 1 v' (n + m) (xs ++ List.replicate m (Value.int k 0)) ∧ w.grownBy w' v.ownBlock ∧ (v'.ownBlock = v.ownBlock ∨ v'.ownBlock = some w.heap.size) := by
 obtain ⟨i, hi, hz, hs1, hby⟩ := info_parts hinf
 have hzc : Value.cells (.int k 0) = #[.int k 0] := rfl
 have hbn : (n + m) * i.bytes ≤ 140737488355328 := Nat.le_trans (Nat.mul_le_mul_left _ (by rw [hby]; exact hb8)) (by omega)
 have hmb : m * i.bytes ≤ 140737488355328 := Nat.le_trans (Nat.mul_le_mul_right _ (by omega)) hbn
 have hlen : (xs ++ List.replicate m (Value.int k 0)).length = (n + m) * 1 := by rw [List.length_append, hown.1, List.length_replicate]; omega
 have h63 : n + m ≤ maxLen := by unfold maxLen; omega
 have grown : ∀ (old : Nat), old < n + m → ∀ (row : Option Nat),
     (w.drew.alloc (.cells (xs.toArray ++ Builtin.zeroCells #[.int k 0] m ++ Builtin.zeroCells #[.int k 0] (grownCap w (n + m) old e - (n + m))) e)).ownsRow base e 1
       (.slice (some ⟨w.heap.size, 0, none⟩) (n + m) (grownCap w (n + m) old e)) (n + m) (xs ++ List.replicate m (Value.int k 0)) ∧
     w.grownBy (w.drew.alloc (.cells (xs.toArray ++ Builtin.zeroCells #[.int k 0] m ++ Builtin.zeroCells #[.int k 0] (grownCap w (n + m) old e - (n + m))) e)) row := by
   intro old ho row
   have hge := grownCap_ge w (n + m) old e
   have hcm : grownCap w (n + m) old e ≤ maxLen := grownCap_le_maxLen w (n + m) old e h63
   refine ⟨⟨hlen, .inr ⟨w.heap.size, _, _, rfl, hbase, heap_alloc_new w.drew _, hge, hcm, ?_, ?_⟩⟩, ⟨rfl, rfl, rfl, by simp, fun q hq _ => heap_alloc_old w.drew _ hq⟩⟩
   · simp only [Array.size_append, List.size_toArray, size_zeroCells, hown.1]
     simp
     omega
   · rw [zeroCells_one]
     simp only [Array.toList_append, List.append_assoc]
     rw [← List.append_assoc, ← hlen]
     exact List.take_left
 rcases hown.2 with ⟨rfl, rfl⟩ | ⟨g, cap, cur, rfl, hbg, hg, hnc, hcm, hcs, htake⟩
 · have hx : xs = [] := List.eq_nil_of_length_eq_zero (by simpa using hown.1)
   subst hx
   by_cases hm : m = 0
   · subst hm
     refine ⟨.slice none 0 0, w, ?_, World.ownsRow_nil w base e 1, ⟨rfl, rfl, rfl, Nat.le_refl _, fun _ _ _ => rfl⟩, .inl rfl⟩
     have hw : IntKind.i64.wrap ((0 : Nat) : Int) = 0 := rfl
     simp [Builtin.append_, run_underlying ht, run_underlying htn, sizeOf, typeInfo, hi, asInt, asIntOf, IntKind.wrap_i64]
   · have hr := Lib.run_append_nil_zeros (P := P) w t tn ty e i (.int k 0) kq kn ht htn hi hz m (by omega) (by omega) (by omega) (by omega)
     have hgr := grown 0 (by omega) (Value.ownBlock (.slice none 0 0))
     simp only [Nat.zero_add, List.nil_append, Array.empty_append] at hgr ⊢
     exact ⟨_, _, hr, hgr.1, hgr.2, .inr rfl⟩
 · by_cases hroom : n + m ≤ cap
   · have hst := run_storeCells_at P g (n * i.size) e (List.replicate m (Value.int k 0)) 0 cur w hg (by rw [List.length_replicate, hcs, hs1]; omega) (fun u hu => by rw [List.eq_of_mem_replicate hu]; rfl)
     have hr : (Builtin.append_ #[t, tn] ty #[.slice (some ⟨g, 0, none⟩) n cap, .int kq m]).run P w = .ok (.slice (some ⟨g, 0, none⟩) (n + m) cap) (w.setRow g (cur.toList.take (n * i.size) ++ List.replicate m (Value.int k 0) ++ cur.toList.drop (n * i.size + (List.replicate m (Value.int k 0)).length)).toArray) := by
       have hw : IntKind.i64.wrap (m : Int) = m := by rw [IntKind.wrap_i64]; omega
       have h48i : ¬ (281474976710656 < (m : Int) * (i.bytes : Int)) := by rw [← Int.natCast_mul]; omega
       have hneg : ¬ ((m : Int) < 0) := by omega
       by_cases hm : m = 0
       · subst hm
         simp only [Nat.add_zero, List.replicate_zero] at hst
         simp [Builtin.append_, run_underlying ht, run_underlying htn, sizeOf, typeInfo, zeroValue, hi, hz, asInt, asIntOf, IntKind.wrap_i64, hroom, Addr.add_lit, hst, hnc]
       · have hns : ¬ (m * i.size = 0) := Nat.mul_ne_zero hm (by omega)
         simp only [Nat.add_zero] at hst
         simp [Builtin.append_, run_underlying ht, run_underlying htn, sizeOf, typeInfo, zeroValue, hi, hz, asInt, asIntOf, hw, hneg, hns, h48i, hroom, Addr.add_lit, hzc, zeroCells_one, hst, hm]
     rw [hs1] at hr
     refine ⟨_, _, hr, ⟨hlen, .inr ⟨g, cap, _, rfl, hbg, setRow_heap w g cur _ e _ hg, hroom, hcm, ?_, ?_⟩⟩, ⟨rfl, rfl, rfl, by simp, fun k _ hk => setRow_other w g k _ (fun e => hk (by simp [Value.ownBlock, e]))⟩, .inl rfl⟩
     · simp only [List.size_toArray, List.length_append, List.length_take, List.length_drop, Array.length_toList, List.length_replicate]
       omega
     · rw [htake, ← hlen]
       exact List.take_left
   · have hold : (Builtin.firstCells i.size n (.slice (some ⟨g, 0, none⟩) n cap)).run P w.drew = .ok xs.toArray w.drew := by
       have holds : ∀ j u, xs[j]? = some u → w.cell? ((⟨g, 0, none⟩ : Addr).add j) = some u := hown.cells (g := g) rfl
       exact run_firstCells_some (P := P) w.drew i.size n ⟨g, 0, none⟩ n cap xs (by rw [hs1]; exact hown.1) (by simpa using holds)
     have hr := Lib.run_append_grow_zeros (P := P) w t tn ty e i (.int k 0) kq kn ht htn hi hz (some ⟨g, 0, none⟩) n cap xs hold m (by omega) (by omega) (by omega) (by omega) (by omega) (growslice_fits (by omega) hbn)
     have hgr := grown cap (by omega) (Value.ownBlock (.slice (some ⟨g, 0, none⟩) n cap))
     exact ⟨_, _, hr, hgr.1, hgr.2, .inr rfl⟩
section
variable {P : Program} {n : Nat} {T : List (Nat × Value)} {a : Act} {w w0 : World} {X : Cx} {M : Mm} {tt : TypeId} {pos : String} {af : Array Edge} {gd : Option (Nat × Bool)} {K : Act → World → Prop} {Q : Exit → Act → World → Prop}
theorem e_appZ (ha : Has n T a) (m : MemOk X w0 M w) (i : Nat) {d : Tmp} {t tn e : TypeId} {k kn kq : IntKind} {bytes : Nat} {s x : Operand} {v : Value} {xs : List Int} (z : Nat) (hm : lk M i = some (.num v e k xs)) (hs : evT T s = some v) (hx : evT T x = some (.int kq (z : Int)))
   (ht : P.underlying t = some (.slice e)) (htn : P.underlying tn = some (.int kn)) (hinf : (P.info? e).map (fun i => (i.zero, i.size, i.bytes)) = some (some (.int k 0), 1, bytes)) (hb8 : bytes ≤ 8) (hn : xs.length + z ≤ 1000000000) (hd : Nat.blt d n = true)
   (h : ∀ p c a' w', Has n ((d, .slice p (xs ++ List.replicate z 0).length c) :: T) a' → MemOk X w0 ((i, .num (.slice p (xs ++ List.replicate z 0).length c) e k (xs ++ List.replicate z 0)) :: M) w' → K a' w') : Oper.wp P ⟨some d, .call { callee := .builtin .append, args := #[s, x], argTypes := #[t, tn] }, tt, pos, af, gd⟩ a w K Q := by
 have h0 : w.ownsRow w0.heap.size e 1 v xs.length (xs.map (Value.int k)) := m.ok i _ hm
 obtain ⟨v', w', hr, h1, h2, h3⟩ := run_appZ (P := P) w0.heap.size t tn tt e k kn kq bytes ht htn hinf hb8 v xs.length (xs.map (Value.int k)) h0 z hn m.keep.size
 have e9 : xs.map (Value.int k) ++ List.replicate z (Value.int k 0) = (xs ++ List.replicate z 0).map (Value.int k) := by rw [List.map_append, List.map_replicate]
 have e8 : xs.length + z = (xs ++ List.replicate z (0 : Int)).length := by rw [List.length_append, List.length_replicate]
 rw [e9, e8] at h1
 have hm' : MemOk X w0 ((i, .num v' e k (xs ++ List.replicate z 0)) :: M) w' := m.upd i _ ((keep_grown h2).mono (fun b e => ⟨_, hm, e⟩)) (fun b hb => by
   rcases h3 with e1 | e1
   · exact .inl ⟨_, hm, e1.symm.trans hb⟩
   · have : some w.heap.size = some b := e1.symm.trans hb
     injection this with this; right; omega) (fun _ _ => h1)
 obtain ⟨p, c, e1⟩ := ownsRow_shape h1
 have hrun : (execOp a.eval ⟨some d, .call { callee := .builtin .append, args := #[s, x], argTypes := #[t, tn] }, tt, pos, af, gd⟩).run P w = .ok (.value v') w' := by
   simp only [execOp, resolve, invoke, builtin, Sem.run_bind, Sem.run_pure, Result.andThen_ok, List.map_toArray, List.map_cons, List.map_nil, ha.ev hs, ha.ev hx, hr]
 show Oper.upon P _ a K Q _
 rw [hrun]
 subst e1
 exact h p c _ _ (ha.put hd _) hm'
end
theorem built_arr {P : Program} {t e : TypeId} {len : Nat} {z : List Value} (hz : ((P.info? t).bind (·.zero)).map (·.cells.toList) = some z) (hu : P.underlying t = some (.array len e)) (he : (P.info? e).map (·.size) = some 1) (pl : List (Nat × Value)) (hp : pl.all (fun p => decide (p.1 < z.length) && p.2.oneCell') = true) : P.built t pl = some (setL z pl).toArray := by
 unfold Program.built
 cases hi : P.info? t with
 | none => simp [hi] at hz
 | some it =>
   cases hzz : it.zero with
   | none => simp [hi, hzz] at hz
   | some zz =>
     cases hie : P.info? e with
     | none => simp [hie] at he
     | some ie =>
       have hs1 : ie.size = 1 := by simpa [hie] using he
       have hzl : zz.cells.toList = z := by simpa [hi, hzz] using hz
       have hzc : zz.cells = z.toArray := by rw [← hzl]
       simp only [hu, hzz, hie, hzc, hs1]
       exact fill_set _ z.length (fun i hi' => by rw [Nat.mul_one]) pl z rfl hp (fun p hq => cells_one (by
         have := List.all_eq_true.1 hp p hq
         simp only [Bool.and_eq_true] at this
         exact this.2))
theorem y_buildA {P : Program} {n : Nat} {T : List (Nat × Value)} {a : Act} {w : World} {tt : TypeId} {pos : String} {af : Array Edge} {gd : Option (Nat × Bool)} {d : Option Tmp} (h : Has n T a) {t e : TypeId} {len : Nat} {parts : Array (Nat × Operand)} {z cs : List Value} {pl : List (Nat × Value)} (hp : K.evP T parts.toList = some pl) (hz : ((P.info? t).bind (·.zero)).map (·.cells.toList) = some z) (hu : P.underlying t = some (.array len e)) (he : (P.info? e).map (·.size) = some 1) (h1 : pl.all (fun p => decide (p.1 < z.length) && p.2.oneCell') = true) (hc : setL z pl = cs) : Yl P a w ⟨d, .build t parts, tt, pos, af, gd⟩ (.agg cs.toArray) := by
 have hb := built_arr hz hu he pl h1
 have hpl := h.evP hp
 show (execOp _ _).run P w = _
 have hr := run_build (P := P) w t (parts.map fun (i, x) => (i, a.eval x)) (setL z pl).toArray (by rw [Array.toList_map]; rw [← hpl] at hb ⊢; exact hb)
 simp only [execOp, Sem.run_bind, hr, Result.andThen_ok, Sem.run_pure, hc]
end Go.Proofs.YtogjhjiapinmcaaDoor.K
end
section
namespace Go.Proofs.YtogjhjiapinmcaaDoor.K
open Go.ChangeShapes Go.WideShapes Go.ChangeAt Go.RowKit
set_option linter.unusedVariables false
set_option linter.unusedSimpArgs false

theorem lists_openB {H : Type} {enc : TypeId × Value → H} {W : World} {base : Nat} {held : Bool} {fuel : Nat} {a : Option Addr} {len cap : Nat} {x : DataW H × List MemPlace}
   (h : DataW.trod enc Tryd.prog W base (fun _ => true) held fuel 22 [.slice a len cap] = some x) (ce : Tryd.prog.cellsOf 24 = 1) (cq : Tryd.prog.cellsOf 5 = 1) :
   ∃ ls : List (List Int), Rd (fun _ => True) W (.slice a ls.length cap) (.l 1 (ls.map bD)) ∧ ls.length = len ∧ ∀ l ∈ ls, BytesL l := by
 rcases Deep.open_int_rows Tryd.underlying22 Tryd.underlying24 Tryd.underlying5 ce cq h with ⟨hcs, -⟩ | ⟨b, l, c, A, L, C, Z, hcs, -, hl, hm, -, hr⟩
 · simp only [List.cons.injEq, Value.slice.injEq, and_true] at hcs
   obtain ⟨rfl, rfl, rfl⟩ := hcs
   exact ⟨[], .l0 none 0 1, rfl, fun l hl => by cases hl⟩
 · simp only [List.cons.injEq, Value.slice.injEq, and_true] at hcs
   obtain ⟨rfl, rfl, rfl⟩ := hcs
   have hex : ∀ r, ∃ ys : List Int, r < len → Rd (fun _ => True) W (.slice (A r) (L r) (C r)) (.ns .u8 ys) ∧ BytesL ys := fun r => by
     by_cases hrl : r < len
     · obtain ⟨c1, c2, c3, c4, c5, c6, c7⟩ := hr r (by omega)
       obtain ⟨ys, h1, h2, h3⟩ := NumsS.ofRow (k := .u8) (w := W) (a := A r) (len := L r) (cap := C r) (zs := Z r) (by
         cases hA : A r with
         | none =>
           have := c6 hA
           exact .inl ⟨rfl, by omega, this, List.eq_nil_of_length_eq_zero (by omega)⟩
         | some a' => exact .inr ⟨a', rfl, c2, c3, c4, fun i hi => (c7 a' hA).2 i (by omega), c5⟩)
       exact ⟨ys, fun _ => ⟨h2 ▸ h1, fun z hz => bounds_u8 (h3 z hz)⟩⟩
     · exact ⟨[], fun h => absurd h hrl⟩
   obtain ⟨Y, hY⟩ : ∃ Y : Nat → List Int, ∀ r, r < len → Rd (fun _ => True) W (.slice (A r) (L r) (C r)) (.ns .u8 (Y r)) ∧ BytesL (Y r) := ⟨fun r => Classical.choose (hex r), fun r => Classical.choose_spec (hex r)⟩
   refine ⟨(List.range len).map Y, ?_, by simp, fun l hl => by obtain ⟨r, hr9, rfl⟩ := List.mem_map.1 hl; exact (hY r (List.mem_range.1 hr9)).2⟩
   by_cases h0 : len = 0
   · subst h0; exact .l0 _ _ _
   · obtain ⟨bb, bo, spot⟩ := b
     have hc0 := (hr 0 (by omega)).1
     have hspot : spot = none := by simpa [Addr.add] using World.cell?_spot hc0
     subst hspot
     have hlen : (((List.range len).map Y).map bD).length = ((List.range len).map Y).length := by simp
     have := Rd.l (S := fun _ => True) (w := W) 1 bb bo cap (((List.range len).map Y).map bD) (fun j _ => .slice (A j) (L j) (C j)) trivial (World.block_lt_of_cell? W _ hc0) (by simp; omega) (by simp [bD]) (fun j q hj hq => by
       have hjl : j < len := by simpa using hj
       have c1 := (hr j (by omega)).1
       rw [Addr.add_lit] at c1
       obtain rfl : q = 0 := by omega
       rw [Nat.mul_one, Nat.add_zero]
       exact ⟨c1, rfl⟩) (fun j q r d hj hq => by
       have hjl : j < len := by have := (List.getElem?_eq_some_iff.1 hj).1; simpa using this
       simp [bD, hjl] at hj
       subst hj
       have hq0 : q = 0 := by have := (List.getElem?_eq_some_iff.1 hq).1; simpa using this
       subst hq0
       simp at hq
       subst hq
       exact (hY j hjl).1)
     rw [hlen] at this
     exact this
end Go.Proofs.YtogjhjiapinmcaaDoor.K
end
