/- General laws of walks. -/
import Derived.Test.YtamjnimaeecmoaaGreatG7
import Derived.Test.YtamjnimaeecmoaaGreatG5
namespace Go.Proofs.YtamjnimaeecmoaaGreat.K
open Go.ChangeShapes Go.WideShapes Go.ChangeAt Go.RowKit
set_option linter.unusedVariables false
set_option linter.unusedSimpArgs false
section
theorem fl111xtI : flatS Tryz.prog 111 [.int .i64 0, .slice none 0 0] = true := by kernel_rfl
theorem andx {x : Int} (h0 : 0 ≤ x) (h1 : x ≤ 255) : IntKind.u8.wrap (BitVec.ofInt IntKind.u8.bits x &&& BitVec.ofInt IntKind.u8.bits 127).toNat = x % 128 := and127 x h0 h1
theorem shx {k : Nat} (hk : k ≤ 9) : min (7 * (k : Int)).toNat IntKind.u64.bits = 7 * k := by
 have : IntKind.u64.bits = 64 := rfl
 omega
theorem getD_bd {b : List Int} {k : Nat} (h : BytesL b) (hk : k < b.length) : 0 ≤ b.getD k 0 ∧ b.getD k 0 ≤ 255 := by
 rw [List.getD, List.getElem?_eq_getElem hk]; exact h _ (List.getElem_mem hk)
theorem dec_at {b : List Int} {u k : Nat} (hk : k < b.length) : dec u k (b.drop k) = if (k = 9 ∧ 1 < b.getD k 0) ∨ (0 < k ∧ b.getD k 0 = 0) then .err 20 else if b.getD k 0 < 128 then .ok (u + (b.getD k 0 % 128).toNat * 2 ^ (7 * k)) (k + 1) else dec (u + (b.getD k 0 % 128).toNat * 2 ^ (7 * k)) (k + 1) (b.drop (k + 1)) := by
 rw [List.drop_eq_getElem_cons hk, dec, List.getD, List.getElem?_eq_getElem hk]; rfl
theorem bytes_r {a b : List Int} (h : BytesL (a ++ b)) : BytesL b := fun x hx => h x (List.mem_append_right _ hx)
theorem encs_drop {l : List Int} {k : Nat} (hk : k < l.length) : encs (l.drop k) = enc (l.getD k 0) ++ encs (l.drop (k + 1)) := by
 rw [List.drop_eq_getElem_cons hk, encs_cons, List.getD, List.getElem?_eq_getElem hk]; rfl
theorem itemsE_drop {l : List (Int × List Int)} {k : Nat} {e : Int × List Int} (h : l[k]? = some e) : itemsE (l.drop k) = itemE e ++ itemsE (l.drop (k + 1)) := by
 obtain ⟨hk, rfl⟩ := List.getElem?_eq_some_iff.1 h
 show List.flatMap itemE (l.drop k) = _
 rw [List.drop_eq_getElem_cons hk, List.flatMap_cons]; rfl
theorem take_getD {l : List Int} {k : Nat} (hk : k < l.length) : l.take (k + 1) = l.take k ++ [l.getD k 0] := by
 rw [List.take_succ_eq_append_getElem hk, List.getD, List.getElem?_eq_getElem hk]; rfl
set_option maxRecDepth 100000
set_option maxHeartbeats 4000000
theorem rfail_x (X : Cx) (B : Nat) (v : Value) (er cd : Int) (w0 : World) (m0 : MemOk X w0 [(1, .box B 154 [v, .int .i64 er])] w0) :
   Calls Tryz.prog 121 #[.pointer (some ⟨B, 0, none⟩), .int .i64 cd] w0 fun e w' => e = .returned (.tuple #[]) ∧ MemOk X w0 [(1, .box B 154 [.slice none 0 0, .int .i64 cd])] w' := by
 refine ent2 Tryz.func121 rfl Tryz.ntmps121 fun Az Hz => ?_
 refine wp_region_lit ?_
 refine goCh Hz (.move rfl <| .move rfl <| .move rfl <| .nilCheck rfl <| .fa 0 rfl U154 .nil) fun Az Hz => ?_
 refine plz (st1 Hz m0 1 fct35 fun w6 m6 _ => ?_)
 refine goCh Hz (.nilCheck rfl <| .fa 1 rfl U154 .nil) fun Az Hz => ?_
 refine plz (st1 Hz m6 1 fct23 fun w9 m9 _ => ?_)
 refine wpList_nil ?_
 try dsimp only [Exit.then]
 try refine out_here ?_
 refine (ret0 (fn := Tryz.f121) Hz rfl ?_)
 exact ⟨rfl, m9.only [1]⟩
theorem rnum_x (X : Cx) (B : Nat) (b : List Int) (er mx : Int) (p : Option Addr) (c : Nat) (w0 : World) (hb : b.length ≤ 1000000) (hbb : BytesL b) (m0 : MemOk X w0 [(1, .box B 154 [.slice p (b).length c, .int .i64 er]), (2, .dat (.slice p (b).length c) (.ns .u8 (b)))] w0) :
   Calls Tryz.prog 91 #[.pointer (some ⟨B, 0, none⟩), .int .u64 mx] w0 fun e w' => ∃ (p' : Option Addr) (c' : Nat), e = .returned (.int .u64 (numR b er mx).1) ∧ MemOk X w0 [(1, .box B 154 [.slice p' ((numR b er mx).2.1).length c', .int .i64 (numR b er mx).2.2]), (2, .dat (.slice p' ((numR b er mx).2.1).length c') (.ns .u8 ((numR b er mx).2.1)))] w' := by
 refine ent2 Tryz.func91 rfl Tryz.ntmps91 fun Az Hz => ?_
 refine regS Hz (.assign rfl .nil) fun Az Hz => ?_
 refine wsk fun K0 hK0 => ?_
 refine regS Hz (.move rfl <| .nilCheck rfl <| .fa 1 rfl U154 <| .lb m0 1 U3 rfl rfl rfl <| .neq rfl rfl .nil) fun Az Hz => ?_
 refine bc Hz 12 ?_ ?_
 ·
  intro hb7 Hz; try simp only [QQ, Qax] at hb7
  have hN : numR b er mx = (0, b, er) := numR_bad b er mx (by omega)
  refine wct Hz ?_
  refine regS Hz (.assign rfl .nil) fun Az Hz => ?_
  refine rt1 Hz ?_
  rw [hN]
  exact ⟨_, _, rfl, m0.ren [(1, 1), (2, 2)] (by decide)⟩
 intro hb7 Hz; try simp only [QQ, Qax] at hb7
 revert Hz
 obtain rfl : er = 0 := by omega
 intro Hz
 refine wcf Hz ?_
 refine zss (hK0 _ _ ?_)
 refine regS Hz (.assign rfl .nil) fun Az Hz => ?_
 refine wsk fun K1 hK1 => ?_
 refine regS Hz (.assign rfl .nil) fun Az Hz => ?_
 refine wp_block ?_
 refine wp_loop_ghost (fun g a w => ∃ (k u : Nat), k ≤ b.length ∧ k ≤ 9 ∧ g = b.length - k ∧ u < 2 ^ (7 * k) ∧ dec u k (b.drop k) = dec 0 0 b ∧ Has 73 [(0, .pointer (some ⟨B, 0, none⟩)), (1, .int .u64 mx), (5, .int .u64 (u : Int)), (6, .int .i64 k)] a ∧ MemOk X w0 [(1, .box B 154 [.slice p (b).length c, .int .i64 0]), (2, .dat (.slice p (b).length c) (.ns .u8 (b)))] w) (b.length) ?_ ?_
 · exact ⟨0, 0, Nat.zero_le _, Nat.zero_le _, rfl, by decide, rfl, Hz.only [0, 1, 5, 6], m0.only [1, 2]⟩
 clear Hz m0
 rintro g Az w11 ⟨k, u, hkl, hk9, hg, hu, hD0, Hz, m11⟩
 refine wsk fun K2 hK2 => ?_
 refine regS Hz (.move rfl <| .move rfl <| .nilCheck rfl <| .fa 0 rfl U154 <| .lb m11 1 U22 rfl rfl rfl <| .len rfl U22 <| .lss rfl rfl .nil) fun Az Hz => ?_
 refine bc Hz 19 ?_ ?_
 ·
  intro hb19 Hz; try simp only [QQ, Qax] at hb19
  have hk : k < b.length := by omega
  have hxb := getD_bd hbb hk
  have hD := hD0
  rw [dec_at hk] at hD
  refine wct Hz ?_
  refine zss (hK2 _ _ ?_)
  refine wsk fun K3 hK3 => ?_
  refine wp_block ?_
  replace Hz := Hz.oz [0, 1, 5, 6]
  refine zsr fun K4 hK4 => ?_
  refine goCh Hz (.move rfl <| .nilCheck rfl <| .fa 0 rfl U154 <| .lb m11 1 U22 rfl rfl rfl <| .move rfl .nil) fun Az Hz => ?_
  obtain ⟨b32, o32, hp32, m32⟩ := m11.openN (i := 2) rfl (k) hk 100 rfl
  revert Hz
  cases hp32
  intro Hz
  refine gz hK4 Hz (.c rfl (fun _ h_ => y_idx h_ rfl rfl U22 fct34 (k) rfl hk) <| .loadC0 m32 (i := 100) rfl rfl U5 rfl <| .assign rfl <| .nil) fun Az Hz => ?_
  refine wsk fun K5 hK5 => ?_
  replace Hz := Hz.oz [0, 1, 5, 6, 7]
  refine zsr fun K6 hK6 => ?_
  refine goCh Hz (.move rfl <| .eql rfl rfl <| .move rfl .nil) fun Az Hz => ?_
  refine bc Hz 31 ?_ ?_
  ·
   intro hb43 Hz; try simp only [QQ, Qax] at hb43
   refine gz hK6 Hz (.moveZ rfl <| .gtrZ rfl rfl <| .pickT rfl rfl <| .nil) fun Az Hz => ?_
   refine bc Hz 34 ?_ ?_
   ·
    intro hb47 Hz; try simp only [QQ, Qax] at hb47
    have hN : numR b 0 mx = (0, [], 20) := numR_err mx (by rw [← hD, if_pos (.inl ⟨by omega, by omega⟩)])
    refine wct Hz ?_
    replace Hz := Hz.oz [0, 1, 5, 6, 7]
    refine zsr fun K7 hK7 => ?_
    refine goCh Hz (.move rfl .nil) fun Az Hz => ?_
    refine plz (ecl Hz Tryz.func121 rfl (rfail_x _ _ _ _ _ _ (m32.into [(1, 1)] (by decide) rfl)) ?_)
    rintro e w51 ⟨rfl, hm51⟩
    have mx51 := m32.back hm51 [(1, 1)] (by decide); clear hm51 m32
    have m51 := mx51.oz [1, 2, 100]
    refine ⟨_, rfl, ?_⟩; intro Az Hz
    refine znl (hK7 _ _ ?_)
    refine regS Hz (.assign rfl .nil) fun Az Hz => ?_
    refine rt1 Hz ?_
    have m54 := m51.dat 90 rfl (Rd.nilN _ _ .u8 none)
    rw [hN]
    exact ⟨_, _, rfl, m54.ren [(1, 1), (2, 90)] (by decide)⟩
   intro hb47 Hz; try simp only [QQ, Qax] at hb47
   have h9 : k = 9 → (b.getD k 0) ≤ 1 := by omega
   obtain ⟨v, hv⟩ : ∃ v, u + ((b.getD k 0) % 128).toNat * 2 ^ (7 * k) = v := ⟨_, rfl⟩
   refine wcf Hz ?_
   refine zss (hK5 _ _ ?_)
   replace Hz := Hz.oz [0, 1, 5, 6, 7]
   refine regS Hz (.move rfl <| .move rfl <| .and rfl rfl (r := (b.getD k 0) % 128) (andx hxb.1 hxb.2) <| .conv rfl U5 U149 (r := (b.getD k 0) % 128) (IntWalk.u64_in _ (by omega)) <| .move rfl <| .mul rfl rfl (r := 7 * (k : Int)) (IntWalk.i64_in _ (by omega)) <| .shl rfl rfl (by omega) (r := IntKind.u64.wrap ((b.getD k 0) % 128 * 2 ^ (7 * k))) (by rw [shx hk9]) <| .or rfl rfl (r := (v : Int)) (by rw [← hv]; exact or_shift u k (b.getD k 0) hu hk9 hxb.1 hxb.2 h9) <| .assign rfl .nil) fun Az Hz => ?_
   replace Hz := Hz.oz [0, 1, 5, 6, 7]
   refine regS Hz (.move rfl <| .lss rfl rfl .nil) fun Az Hz => ?_
   refine bc Hz 46 ?_ ?_
   ·
    intro hb68 Hz; try simp only [QQ, Qax] at hb68
    refine wct Hz ?_
    refine wsk fun K8 hK8 => ?_
    refine zsr fun K9 hK9 => ?_
    refine goCh Hz (.move rfl <| .gtr rfl rfl <| .move rfl .nil) fun Az Hz => ?_
    refine bc Hz 49 ?_ ?_
    ·
     intro hb75 Hz; try simp only [QQ, Qax] at hb75
     refine gz hK9 Hz (.moveZ rfl <| .eqlZ rfl rfl <| .pickT rfl rfl <| .nil) fun Az Hz => ?_
     refine bc Hz 52 ?_ ?_
     ·
      intro hb79 Hz; try simp only [QQ, Qax] at hb79
      have hN : numR b 0 mx = (0, [], 20) := numR_err mx (by rw [← hD, if_pos (.inr ⟨by omega, by omega⟩)])
      refine wct Hz ?_
      replace Hz := Hz.oz [0, 1, 5, 6]
      refine zsr fun K10 hK10 => ?_
      refine goCh Hz (.move rfl .nil) fun Az Hz => ?_
      refine plz (ecl Hz Tryz.func121 rfl (rfail_x _ _ _ _ _ _ (m32.into [(1, 1)] (by decide) rfl)) ?_)
      rintro e w83 ⟨rfl, hm83⟩
      have mx83 := m32.back hm83 [(1, 1)] (by decide); clear hm83 m32
      have m83 := mx83.oz [1, 2, 100]
      refine ⟨_, rfl, ?_⟩; intro Az Hz
      refine znl (hK10 _ _ ?_)
      refine regS Hz (.assign rfl .nil) fun Az Hz => ?_
      refine rt1 Hz ?_
      have m86 := m83.dat 90 rfl (Rd.nilN _ _ .u8 none)
      rw [hN]
      exact ⟨_, _, rfl, m86.ren [(1, 1), (2, 90)] (by decide)⟩
     intro hb79 Hz; try simp only [QQ, Qax] at hb79
     have hz : ¬ (0 < k ∧ (b.getD k 0) = 0) := by omega
     have hno : ¬ ((k = 9 ∧ 1 < (b.getD k 0)) ∨ (0 < k ∧ (b.getD k 0) = 0)) := fun h => h.elim (fun h => by have := h9 h.1; omega) hz
     have hO : dec 0 0 b = .ok v (k + 1) := by rw [← hD, if_neg hno, if_pos (by omega), hv]
     refine wcf Hz ?_
     refine zss (hK8 _ _ ?_)
     refine wsk fun K11 hK11 => ?_
     replace Hz := Hz.oz [0, 1, 5, 6]
     refine regS Hz (.move rfl <| .move rfl <| .gtr rfl rfl .nil) fun Az Hz => ?_
     refine bc Hz 57 ?_ ?_
     ·
      intro hb91 Hz; try simp only [QQ, Qax] at hb91
      have hN : numR b 0 mx = (0, [], 22) := by rw [numR_val mx hO, if_pos (by omega)]
      refine wct Hz ?_
      refine zsr fun K12 hK12 => ?_
      refine goCh Hz (.move rfl .nil) fun Az Hz => ?_
      refine plz (ecl Hz Tryz.func121 rfl (rfail_x _ _ _ _ _ _ (m32.into [(1, 1)] (by decide) rfl)) ?_)
      rintro e w94 ⟨rfl, hm94⟩
      have mx94 := m32.back hm94 [(1, 1)] (by decide); clear hm94 m32
      have m94 := mx94.oz [1, 2, 100]
      refine ⟨_, rfl, ?_⟩; intro Az Hz
      refine znl (hK12 _ _ ?_)
      refine regS Hz (.assign rfl .nil) fun Az Hz => ?_
      refine rt1 Hz ?_
      have m97 := m94.dat 90 rfl (Rd.nilN _ _ .u8 none)
      rw [hN]
      exact ⟨_, _, rfl, m97.ren [(1, 1), (2, 90)] (by decide)⟩
     intro hb91 Hz; try simp only [QQ, Qax] at hb91
     have hN : numR b 0 mx = ((v : Int), b.drop (k + 1), 0) := by rw [numR_val mx hO, if_neg (by omega)]
     refine wcf Hz ?_
     refine zss (hK11 _ _ ?_)
     refine zsr fun K13 hK13 => ?_
     refine goCh Hz (.move rfl <| .move rfl <| .nilCheck rfl <| .fa 0 rfl U154 <| .lb m32 1 U22 rfl rfl rfl <| .move rfl <| .inc (k + 1) .nil) fun Az Hz => ?_
     have m113 := m32.dropN (i := 2) rfl (k + 1) (show k + 1 ≤ b.length by omega) 101 rfl
     refine goCh Hz (.c rfl (fun _ h_ => y_sliceLn h_ (k + 1) rfl rfl U22 fct34 rfl (show k + 1 ≤ b.length by omega)) <| .nilCheck rfl <| .fa 0 rfl U154 .nil) fun Az Hz => ?_
     refine plz (st1 Hz m113 1 fct35 fun w117 m117 _ => ?_)
     refine znl (hK13 _ _ ?_)
     replace Hz := Hz.oz [0, 1, 5, 6, 57]
     refine regS Hz (.move rfl <| .assign rfl .nil) fun Az Hz => ?_
     refine rt1 Hz ?_
     have hl9 : b.length - (k + 1) = (b.drop (k + 1)).length := by rw [List.length_drop]
     rw [hl9] at m117
     rw [hN]
     exact ⟨_, _, rfl, m117.ren [(1, 1), (2, 101)] (by decide)⟩
    intro hb75 Hz; try simp only [QQ, Qax] at hb75
    have hz : ¬ (0 < k ∧ (b.getD k 0) = 0) := by omega
    have hno : ¬ ((k = 9 ∧ 1 < (b.getD k 0)) ∨ (0 < k ∧ (b.getD k 0) = 0)) := fun h => h.elim (fun h => by have := h9 h.1; omega) hz
    have hO : dec 0 0 b = .ok v (k + 1) := by rw [← hD, if_neg hno, if_pos (by omega), hv]
    refine gz hK9 Hz (.sk <| .sk <| .pickF rfl rfl <| .nil) fun Az Hz => ?_
    refine wcf Hz ?_
    refine zss (hK8 _ _ ?_)
    refine wsk fun K14 hK14 => ?_
    replace Hz := Hz.oz [0, 1, 5, 6]
    refine regS Hz (.move rfl <| .move rfl <| .gtr rfl rfl .nil) fun Az Hz => ?_
    refine bc Hz 57 ?_ ?_
    ·
     intro hb128 Hz; try simp only [QQ, Qax] at hb128
     have hN : numR b 0 mx = (0, [], 22) := by rw [numR_val mx hO, if_pos (by omega)]
     refine wct Hz ?_
     refine zsr fun K15 hK15 => ?_
     refine goCh Hz (.move rfl .nil) fun Az Hz => ?_
     refine plz (ecl Hz Tryz.func121 rfl (rfail_x _ _ _ _ _ _ (m32.into [(1, 1)] (by decide) rfl)) ?_)
     rintro e w131 ⟨rfl, hm131⟩
     have mx131 := m32.back hm131 [(1, 1)] (by decide); clear hm131 m32
     have m131 := mx131.oz [1, 2, 100]
     refine ⟨_, rfl, ?_⟩; intro Az Hz
     refine znl (hK15 _ _ ?_)
     refine regS Hz (.assign rfl .nil) fun Az Hz => ?_
     refine rt1 Hz ?_
     have m134 := m131.dat 90 rfl (Rd.nilN _ _ .u8 none)
     rw [hN]
     exact ⟨_, _, rfl, m134.ren [(1, 1), (2, 90)] (by decide)⟩
    intro hb128 Hz; try simp only [QQ, Qax] at hb128
    have hN : numR b 0 mx = ((v : Int), b.drop (k + 1), 0) := by rw [numR_val mx hO, if_neg (by omega)]
    refine wcf Hz ?_
    refine zss (hK14 _ _ ?_)
    refine zsr fun K16 hK16 => ?_
    refine goCh Hz (.move rfl <| .move rfl <| .nilCheck rfl <| .fa 0 rfl U154 <| .lb m32 1 U22 rfl rfl rfl <| .move rfl <| .inc (k + 1) .nil) fun Az Hz => ?_
    have m150 := m32.dropN (i := 2) rfl (k + 1) (show k + 1 ≤ b.length by omega) 101 rfl
    refine goCh Hz (.c rfl (fun _ h_ => y_sliceLn h_ (k + 1) rfl rfl U22 fct34 rfl (show k + 1 ≤ b.length by omega)) <| .nilCheck rfl <| .fa 0 rfl U154 .nil) fun Az Hz => ?_
    refine plz (st1 Hz m150 1 fct35 fun w154 m154 _ => ?_)
    refine znl (hK16 _ _ ?_)
    replace Hz := Hz.oz [0, 1, 5, 6, 57]
    refine regS Hz (.move rfl <| .assign rfl .nil) fun Az Hz => ?_
    refine rt1 Hz ?_
    have hl9 : b.length - (k + 1) = (b.drop (k + 1)).length := by rw [List.length_drop]
    rw [hl9] at m154
    rw [hN]
    exact ⟨_, _, rfl, m154.ren [(1, 1), (2, 101)] (by decide)⟩
   intro hb68 Hz; try simp only [QQ, Qax] at hb68
   have hz : ¬ (0 < k ∧ (b.getD k 0) = 0) := by omega
   have hno : ¬ ((k = 9 ∧ 1 < (b.getD k 0)) ∨ (0 < k ∧ (b.getD k 0) = 0)) := fun h => h.elim (fun h => by have := h9 h.1; omega) hz
   refine wcf Hz ?_
   refine zss (hK3 _ _ ?_)
   refine wp_region_lit ?_
   refine goCh Hz (.move rfl <| .inc (k + 1) <| .assign rfl .nil) fun Az Hz => ?_
   refine wpList_nil ?_
   show ∃ n', n' < _ ∧ _
   exact ⟨b.length - (k + 1), by omega, k + 1, v, by omega, by omega, rfl, by rw [← hv]; exact acc_bound u k (b.getD k 0) hu, by rw [← hD, if_neg hno, if_neg (by omega), hv], Hz.only [0, 1, 5, 6], m32.only [1, 2]⟩
  intro hb43 Hz; try simp only [QQ, Qax] at hb43
  have h9 : k = 9 → (b.getD k 0) ≤ 1 := by omega
  obtain ⟨v, hv⟩ : ∃ v, u + ((b.getD k 0) % 128).toNat * 2 ^ (7 * k) = v := ⟨_, rfl⟩
  refine gz hK6 Hz (.sk <| .sk <| .pickF rfl rfl <| .nil) fun Az Hz => ?_
  refine wcf Hz ?_
  refine zss (hK5 _ _ ?_)
  replace Hz := Hz.oz [0, 1, 5, 6, 7]
  refine regS Hz (.move rfl <| .move rfl <| .and rfl rfl (r := (b.getD k 0) % 128) (andx hxb.1 hxb.2) <| .conv rfl U5 U149 (r := (b.getD k 0) % 128) (IntWalk.u64_in _ (by omega)) <| .move rfl <| .mul rfl rfl (r := 7 * (k : Int)) (IntWalk.i64_in _ (by omega)) <| .shl rfl rfl (by omega) (r := IntKind.u64.wrap ((b.getD k 0) % 128 * 2 ^ (7 * k))) (by rw [shx hk9]) <| .or rfl rfl (r := (v : Int)) (by rw [← hv]; exact or_shift u k (b.getD k 0) hu hk9 hxb.1 hxb.2 h9) <| .assign rfl .nil) fun Az Hz => ?_
  replace Hz := Hz.oz [0, 1, 5, 6, 7]
  refine regS Hz (.move rfl <| .lss rfl rfl .nil) fun Az Hz => ?_
  refine bc Hz 46 ?_ ?_
  ·
   intro hb177 Hz; try simp only [QQ, Qax] at hb177
   refine wct Hz ?_
   refine wsk fun K17 hK17 => ?_
   refine zsr fun K18 hK18 => ?_
   refine goCh Hz (.move rfl <| .gtr rfl rfl <| .move rfl .nil) fun Az Hz => ?_
   refine bc Hz 49 ?_ ?_
   ·
    intro hb184 Hz; try simp only [QQ, Qax] at hb184
    refine gz hK18 Hz (.moveZ rfl <| .eqlZ rfl rfl <| .pickT rfl rfl <| .nil) fun Az Hz => ?_
    refine bc Hz 52 ?_ ?_
    ·
     intro hb188 Hz; try simp only [QQ, Qax] at hb188
     have hN : numR b 0 mx = (0, [], 20) := numR_err mx (by rw [← hD, if_pos (.inr ⟨by omega, by omega⟩)])
     refine wct Hz ?_
     replace Hz := Hz.oz [0, 1, 5, 6]
     refine zsr fun K19 hK19 => ?_
     refine goCh Hz (.move rfl .nil) fun Az Hz => ?_
     refine plz (ecl Hz Tryz.func121 rfl (rfail_x _ _ _ _ _ _ (m32.into [(1, 1)] (by decide) rfl)) ?_)
     rintro e w192 ⟨rfl, hm192⟩
     have mx192 := m32.back hm192 [(1, 1)] (by decide); clear hm192 m32
     have m192 := mx192.oz [1, 2, 100]
     refine ⟨_, rfl, ?_⟩; intro Az Hz
     refine znl (hK19 _ _ ?_)
     refine regS Hz (.assign rfl .nil) fun Az Hz => ?_
     refine rt1 Hz ?_
     have m195 := m192.dat 90 rfl (Rd.nilN _ _ .u8 none)
     rw [hN]
     exact ⟨_, _, rfl, m195.ren [(1, 1), (2, 90)] (by decide)⟩
    intro hb188 Hz; try simp only [QQ, Qax] at hb188
    have hz : ¬ (0 < k ∧ (b.getD k 0) = 0) := by omega
    have hno : ¬ ((k = 9 ∧ 1 < (b.getD k 0)) ∨ (0 < k ∧ (b.getD k 0) = 0)) := fun h => h.elim (fun h => by have := h9 h.1; omega) hz
    have hO : dec 0 0 b = .ok v (k + 1) := by rw [← hD, if_neg hno, if_pos (by omega), hv]
    refine wcf Hz ?_
    refine zss (hK17 _ _ ?_)
    refine wsk fun K20 hK20 => ?_
    replace Hz := Hz.oz [0, 1, 5, 6]
    refine regS Hz (.move rfl <| .move rfl <| .gtr rfl rfl .nil) fun Az Hz => ?_
    refine bc Hz 57 ?_ ?_
    ·
     intro hb200 Hz; try simp only [QQ, Qax] at hb200
     have hN : numR b 0 mx = (0, [], 22) := by rw [numR_val mx hO, if_pos (by omega)]
     refine wct Hz ?_
     refine zsr fun K21 hK21 => ?_
     refine goCh Hz (.move rfl .nil) fun Az Hz => ?_
     refine plz (ecl Hz Tryz.func121 rfl (rfail_x _ _ _ _ _ _ (m32.into [(1, 1)] (by decide) rfl)) ?_)
     rintro e w203 ⟨rfl, hm203⟩
     have mx203 := m32.back hm203 [(1, 1)] (by decide); clear hm203 m32
     have m203 := mx203.oz [1, 2, 100]
     refine ⟨_, rfl, ?_⟩; intro Az Hz
     refine znl (hK21 _ _ ?_)
     refine regS Hz (.assign rfl .nil) fun Az Hz => ?_
     refine rt1 Hz ?_
     have m206 := m203.dat 90 rfl (Rd.nilN _ _ .u8 none)
     rw [hN]
     exact ⟨_, _, rfl, m206.ren [(1, 1), (2, 90)] (by decide)⟩
    intro hb200 Hz; try simp only [QQ, Qax] at hb200
    have hN : numR b 0 mx = ((v : Int), b.drop (k + 1), 0) := by rw [numR_val mx hO, if_neg (by omega)]
    refine wcf Hz ?_
    refine zss (hK20 _ _ ?_)
    refine zsr fun K22 hK22 => ?_
    refine goCh Hz (.move rfl <| .move rfl <| .nilCheck rfl <| .fa 0 rfl U154 <| .lb m32 1 U22 rfl rfl rfl <| .move rfl <| .inc (k + 1) .nil) fun Az Hz => ?_
    have m222 := m32.dropN (i := 2) rfl (k + 1) (show k + 1 ≤ b.length by omega) 101 rfl
    refine goCh Hz (.c rfl (fun _ h_ => y_sliceLn h_ (k + 1) rfl rfl U22 fct34 rfl (show k + 1 ≤ b.length by omega)) <| .nilCheck rfl <| .fa 0 rfl U154 .nil) fun Az Hz => ?_
    refine plz (st1 Hz m222 1 fct35 fun w226 m226 _ => ?_)
    refine znl (hK22 _ _ ?_)
    replace Hz := Hz.oz [0, 1, 5, 6, 57]
    refine regS Hz (.move rfl <| .assign rfl .nil) fun Az Hz => ?_
    refine rt1 Hz ?_
    have hl9 : b.length - (k + 1) = (b.drop (k + 1)).length := by rw [List.length_drop]
    rw [hl9] at m226
    rw [hN]
    exact ⟨_, _, rfl, m226.ren [(1, 1), (2, 101)] (by decide)⟩
   intro hb184 Hz; try simp only [QQ, Qax] at hb184
   have hz : ¬ (0 < k ∧ (b.getD k 0) = 0) := by omega
   have hno : ¬ ((k = 9 ∧ 1 < (b.getD k 0)) ∨ (0 < k ∧ (b.getD k 0) = 0)) := fun h => h.elim (fun h => by have := h9 h.1; omega) hz
   have hO : dec 0 0 b = .ok v (k + 1) := by rw [← hD, if_neg hno, if_pos (by omega), hv]
   refine gz hK18 Hz (.sk <| .sk <| .pickF rfl rfl <| .nil) fun Az Hz => ?_
   refine wcf Hz ?_
   refine zss (hK17 _ _ ?_)
   refine wsk fun K23 hK23 => ?_
   replace Hz := Hz.oz [0, 1, 5, 6]
   refine regS Hz (.move rfl <| .move rfl <| .gtr rfl rfl .nil) fun Az Hz => ?_
   refine bc Hz 57 ?_ ?_
   ·
    intro hb237 Hz; try simp only [QQ, Qax] at hb237
    have hN : numR b 0 mx = (0, [], 22) := by rw [numR_val mx hO, if_pos (by omega)]
    refine wct Hz ?_
    refine zsr fun K24 hK24 => ?_
    refine goCh Hz (.move rfl .nil) fun Az Hz => ?_
    refine plz (ecl Hz Tryz.func121 rfl (rfail_x _ _ _ _ _ _ (m32.into [(1, 1)] (by decide) rfl)) ?_)
    rintro e w240 ⟨rfl, hm240⟩
    have mx240 := m32.back hm240 [(1, 1)] (by decide); clear hm240 m32
    have m240 := mx240.oz [1, 2, 100]
    refine ⟨_, rfl, ?_⟩; intro Az Hz
    refine znl (hK24 _ _ ?_)
    refine regS Hz (.assign rfl .nil) fun Az Hz => ?_
    refine rt1 Hz ?_
    have m243 := m240.dat 90 rfl (Rd.nilN _ _ .u8 none)
    rw [hN]
    exact ⟨_, _, rfl, m243.ren [(1, 1), (2, 90)] (by decide)⟩
   intro hb237 Hz; try simp only [QQ, Qax] at hb237
   have hN : numR b 0 mx = ((v : Int), b.drop (k + 1), 0) := by rw [numR_val mx hO, if_neg (by omega)]
   refine wcf Hz ?_
   refine zss (hK23 _ _ ?_)
   refine zsr fun K25 hK25 => ?_
   refine goCh Hz (.move rfl <| .move rfl <| .nilCheck rfl <| .fa 0 rfl U154 <| .lb m32 1 U22 rfl rfl rfl <| .move rfl <| .inc (k + 1) .nil) fun Az Hz => ?_
   have m259 := m32.dropN (i := 2) rfl (k + 1) (show k + 1 ≤ b.length by omega) 101 rfl
   refine goCh Hz (.c rfl (fun _ h_ => y_sliceLn h_ (k + 1) rfl rfl U22 fct34 rfl (show k + 1 ≤ b.length by omega)) <| .nilCheck rfl <| .fa 0 rfl U154 .nil) fun Az Hz => ?_
   refine plz (st1 Hz m259 1 fct35 fun w263 m263 _ => ?_)
   refine znl (hK25 _ _ ?_)
   replace Hz := Hz.oz [0, 1, 5, 6, 57]
   refine regS Hz (.move rfl <| .assign rfl .nil) fun Az Hz => ?_
   refine rt1 Hz ?_
   have hl9 : b.length - (k + 1) = (b.drop (k + 1)).length := by rw [List.length_drop]
   rw [hl9] at m263
   rw [hN]
   exact ⟨_, _, rfl, m263.ren [(1, 1), (2, 101)] (by decide)⟩
  intro hb177 Hz; try simp only [QQ, Qax] at hb177
  have hz : ¬ (0 < k ∧ (b.getD k 0) = 0) := by omega
  have hno : ¬ ((k = 9 ∧ 1 < (b.getD k 0)) ∨ (0 < k ∧ (b.getD k 0) = 0)) := fun h => h.elim (fun h => by have := h9 h.1; omega) hz
  refine wcf Hz ?_
  refine zss (hK3 _ _ ?_)
  refine wp_region_lit ?_
  refine goCh Hz (.move rfl <| .inc (k + 1) <| .assign rfl .nil) fun Az Hz => ?_
  refine wpList_nil ?_
  show ∃ n', n' < _ ∧ _
  exact ⟨b.length - (k + 1), by omega, k + 1, v, by omega, by omega, rfl, by rw [← hv]; exact acc_bound u k (b.getD k 0) hu, by rw [← hD, if_neg hno, if_neg (by omega), hv], Hz.only [0, 1, 5, 6], m32.only [1, 2]⟩
 intro hb19 Hz; try simp only [QQ, Qax] at hb19
 revert Hz
 obtain rfl : k = b.length := by omega
 intro Hz
 have hN : numR b 0 mx = (0, [], 21) := numR_err mx (by rw [← hD0, List.drop_length]; rfl)
 refine wcf Hz ?_
 refine wp_exit ?_
 refine hK1 _ _ ?_
 replace Hz := Hz.oz [0, 1, 5, 6]
 refine zsr fun K26 hK26 => ?_
 refine goCh Hz (.move rfl .nil) fun Az Hz => ?_
 refine plz (ecl Hz Tryz.func121 rfl (rfail_x _ _ _ _ _ _ (m11.into [(1, 1)] (by decide) rfl)) ?_)
 rintro e w273 ⟨rfl, hm273⟩
 have mx273 := m11.back hm273 [(1, 1)] (by decide); clear hm273 m11
 have m273 := mx273.oz [1, 2]
 refine ⟨_, rfl, ?_⟩; intro Az Hz
 refine znl (hK26 _ _ ?_)
 refine regS Hz (.assign rfl .nil) fun Az Hz => ?_
 refine rt1 Hz ?_
 have m276 := m273.dat 90 rfl (Rd.nilN _ _ .u8 none)
 rw [hN]
 exact ⟨_, _, rfl, m276.ren [(1, 1), (2, 90)] (by decide)⟩
theorem rnum_ok (X : Cx) (B : Nat) (b : List Int) (mx : Int) (p : Option Addr) (c : Nat) (w0 : World) (x : Int) (rest : List Int) (hb : b.length ≤ 1000000) (hbb : BytesL b) (hbe : b = enc x ++ rest) (hmx : mx ≤ 18446744073709551615) (hx : 0 ≤ x ∧ x ≤ mx) (m0 : MemOk X w0 [(1, .box B 154 [.slice p (b).length c, .int .i64 0]), (2, .dat (.slice p (b).length c) (.ns .u8 (b)))] w0) :
   Calls Tryz.prog 91 #[.pointer (some ⟨B, 0, none⟩), .int .u64 mx] w0 fun e w' => ∃ (p' : Option Addr) (c' : Nat), e = .returned (.int .u64 x) ∧ MemOk X w0 [(1, .box B 154 [.slice p' (rest).length c', .int .i64 0]), (2, .dat (.slice p' (rest).length c') (.ns .u8 (rest)))] w' := by
 have h := rnum_x X B b 0 mx p c w0 hb hbb m0
 have hN : numR b 0 mx = (x, rest, 0) := by rw [hbe]; exact numR_ok x hx.1 (by omega) rest mx hx.2
 rw [hN] at h
 exact h
theorem rtakePlace_x (X : Cx) (B : Nat) (b : List Int) (p : Option Addr) (c : Nat) (w0 : World) (pl rest : List Int) (hb : b.length ≤ 1000000) (hbb : BytesL b) (hbe : b = enc pl.length ++ (encs pl ++ rest)) (hpl : pl.length ≤ 256) (hpb : ∀ k, k < pl.length → 0 ≤ pl.getD k 0 ∧ pl.getD k 0 ≤ 8) (m0 : MemOk X w0 [(1, .box B 154 [.slice p (b).length c, .int .i64 0]), (2, .dat (.slice p (b).length c) (.ns .u8 (b)))] w0) :
   Calls Tryz.prog 92 #[.pointer (some ⟨B, 0, none⟩)] w0 fun e w' => ∃ (p' : Option Addr) (c' : Nat) (p3 : Option Addr) (c3 : Nat), e = .returned (.slice p3 pl.length c3) ∧ MemOk X w0 [(1, .box B 154 [.slice p' (rest).length c', .int .i64 0]), (2, .dat (.slice p' (rest).length c') (.ns .u8 (rest))), (3, .dat (.slice p3 pl.length c3) (.ns .i64 pl))] w' := by
 refine ent1 Tryz.func92 rfl Tryz.ntmps92 fun Az Hz => ?_
 refine regS Hz (.assign rfl .nil) fun Az Hz => ?_
 refine regS Hz (.assign rfl .nil) fun Az Hz => ?_
 refine zsr fun K0 hK0 => ?_
 refine goCh Hz (.move rfl .nil) fun Az Hz => ?_
 refine plz (ecl Hz Tryz.func91 rfl (rnum_ok _ _ _ 256 _ _ _ (pl.length : Int) (encs pl ++ rest) hb hbb hbe (by decide) (by omega) (m0.into [(1, 1), (2, 2)] (by decide) rfl)) ?_)
 rintro e w5 ⟨p5, c5, rfl, hm5⟩
 have mx5 := m0.back hm5 [(1, 1), (2, 2)] (by decide); clear hm5 m0
 have m5 := mx5.oz [1, 2]
 refine ⟨_, rfl, ?_⟩; intro Az Hz
 refine gz hK0 Hz (.assign rfl .nil) fun Az Hz => ?_
 refine wsk fun K1 hK1 => ?_
 refine regS Hz (.assign rfl .nil) fun Az Hz => ?_
 refine wp_block ?_
 refine wp_loop_ghost (fun g a w => ∃ (k : Nat) (p1 : Option Addr) (c1 : Nat) (p3 : Option Addr) (c3 : Nat), k ≤ pl.length ∧ g = pl.length - k ∧ (encs (pl.drop k) ++ rest).length ≤ 1000000 ∧ BytesL (encs (pl.drop k) ++ rest) ∧ Has 27 [(0, .pointer (some ⟨B, 0, none⟩)), (3, .slice p3 (pl.take k).length c3), (4, .int .u64 (pl.length : Int)), (5, .int .u64 (k : Int))] a ∧ MemOk X w0 [(1, .box B 154 [.slice p1 (encs (pl.drop k) ++ rest).length c1, .int .i64 0]), (2, .dat (.slice p1 (encs (pl.drop k) ++ rest).length c1) (.ns .u8 (encs (pl.drop k) ++ rest))), (9, .num (.slice p3 (pl.take k).length c3) 3 .i64 (pl.take k))] w) (pl.length) ?_ ?_
 · have mz := m5.nilN 9 3 .i64
   exact ⟨0, _, _, _, _, Nat.zero_le _, rfl, by rw [hbe, List.length_append] at hb; simpa using (by omega : (encs pl ++ rest).length ≤ 1000000), bytes_r (by rw [hbe] at hbb; exact hbb), Hz.only [0, 3, 4, 5], mz.only [1, 2, 9]⟩
 clear Hz m5
 rintro g Az w9 ⟨k, p1, c1, p3, c3, hkl, hg, hb1, hbb1, Hz, m9⟩
 refine wsk fun K2 hK2 => ?_
 refine zsr fun K3 hK3 => ?_
 refine goCh Hz (.move rfl <| .move rfl <| .lss rfl rfl <| .move rfl .nil) fun Az Hz => ?_
 refine bc Hz 11 ?_ ?_
 ·
  intro hb18 Hz; try simp only [QQ, Qax] at hb18
  have hk : k < pl.length := by omega
  refine gz hK3 Hz (.moveZ rfl <| .nilCheckZ rfl <| .faZ 1 rfl U154 <| .loadB1Z m9 (i := 1) rfl rfl rfl U3 rfl <| .eqlZ rfl rfl <| .pickT rfl rfl <| .nil) fun Az Hz => ?_
  refine bc Hz 17 ?_ ?_
  rotate_left
  · intro hb _; exact absurd hb (by simp)
  clear Hz; intro _ Hz
  refine wct Hz ?_
  refine zss (hK2 _ _ ?_)
  refine wsk fun K4 hK4 => ?_
  refine wp_block ?_
  replace Hz := Hz.oz [0, 3, 4, 5]
  refine wp_region_lit ?_
  refine goCh Hz (.move rfl <| .move rfl .nil) fun Az Hz => ?_
  refine plz (ecl Hz Tryz.func91 rfl (rnum_ok _ _ _ 8 _ _ _ (pl.getD k 0) (encs (pl.drop (k + 1)) ++ rest) hb1 hbb1 (by rw [encs_drop hk, List.append_assoc]) (by decide) (hpb k hk) (m9.into [(1, 1), (2, 2)] (by decide) rfl)) ?_)
  rintro e w29 ⟨p29, c29, rfl, hm29⟩
  have mx29 := m9.back hm29 [(1, 1), (2, 2)] (by decide); clear hm29 m9
  have m29 := mx29.oz [1, 2, 9]
  refine ⟨_, rfl, ?_⟩; intro Az Hz
  refine goCh Hz (.conv rfl U149 U3 (r := pl.getD k 0) (IntWalk.i64_in _ (by have := hpb k hk; omega)) .nil) fun Az Hz => ?_
  refine plz (e_litN Hz m29 100 (k := .i64) rfl rfl U29 fct37 rfl rfl rfl rfl fun g32 Az w33 Hz m33 => ?_)
  refine plz (e_appN Hz m33 9 rfl rfl rfl (m33.numsO (i := 100) rfl) U29 fct37 (by decide) (by simp; omega) rfl fun p34 c34 Az w35 Hz m35 => ?_)
  refine gz hK4 Hz (.assign rfl .nil) fun Az Hz => ?_
  replace Hz := Hz.oz [0, 3, 4, 5]
  refine wp_region_lit ?_
  refine goCh Hz (.move rfl <| .add rfl rfl (r := ((k + 1 : Nat) : Int)) (by rw [IntWalk.u64_in _ (by omega)]; omega) <| .assign rfl .nil) fun Az Hz => ?_
  refine wpList_nil ?_
  show ∃ n', n' < _ ∧ _
  have hE : pl.take k ++ [pl.getD k 0] = pl.take (k + 1) := (take_getD hk).symm
  rw [hE] at m35 Hz
  exact ⟨pl.length - (k + 1), by omega, k + 1, _, _, _, _, by omega, rfl, by rw [encs_drop hk, List.append_assoc, List.length_append] at hb1; omega, bytes_r (by rw [encs_drop hk, List.append_assoc] at hbb1; exact hbb1), Hz.only [0, 3, 4, 5], m35.only [1, 2, 9]⟩
 intro hb18 Hz; try simp only [QQ, Qax] at hb18
 revert Hz
 obtain rfl : k = pl.length := by omega
 intro Hz
 refine gz hK3 Hz (.sk <| .sk <| .sk <| .sk <| .sk <| .pickF rfl rfl <| .nil) fun Az Hz => ?_
 refine wcf Hz ?_
 refine wp_exit ?_
 refine hK1 _ _ ?_
 replace Hz := Hz.oz [0, 3, 4, 5]
 refine regS Hz (.move rfl <| .assign rfl .nil) fun Az Hz => ?_
 refine rt1 Hz ?_
 have m50 := m9.freezeN 9 rfl
 rw [List.drop_length, List.take_length, show encs [] ++ rest = rest from rfl] at m50
 rw [List.take_length]
 exact ⟨_, _, _, _, rfl, m50.ren [(1, 1), (2, 2), (3, 9)] (by decide)⟩
theorem rlump_ok (X : Cx) (B : Nat) (b : List Int) (mx : Int) (p : Option Addr) (c : Nat) (w0 : World) (d rest : List Int) (hb : b.length ≤ 1000000) (hbb : BytesL b) (hbe : b = enc d.length ++ (d ++ rest)) (hmx : 0 ≤ mx ∧ mx ≤ 1000000) (hd : (d.length : Int) ≤ mx) (m0 : MemOk X w0 [(1, .box B 154 [.slice p (b).length c, .int .i64 0]), (2, .dat (.slice p (b).length c) (.ns .u8 (b)))] w0) :
   Calls Tryz.prog 122 #[.pointer (some ⟨B, 0, none⟩), .int .i64 mx] w0 fun e w' => ∃ (p' : Option Addr) (c' : Nat) (p3 : Option Addr) (c3 : Nat), e = .returned (.slice p3 d.length c3) ∧ MemOk X w0 [(1, .box B 154 [.slice p' (rest).length c', .int .i64 0]), (2, .dat (.slice p' (rest).length c') (.ns .u8 (rest))), (3, .dat (.slice p3 d.length c3) (.ns .u8 d))] w' := by
 refine ent2 Tryz.func122 rfl Tryz.ntmps122 fun Az Hz => ?_
 have hun : d.length ≤ (d ++ rest).length := by rw [List.length_append]; omega
 refine regS Hz (.assign rfl .nil) fun Az Hz => ?_
 refine zsr fun K0 hK0 => ?_
 refine goCh Hz (.move rfl <| .move rfl <| .c rfl (fun _ h_ => y_max h_ rfl rfl (r := mx) (by omega)) <| .conv rfl U3 U149 (r := mx) (IntWalk.u64_in _ (by omega)) .nil) fun Az Hz => ?_
 refine plz (ecl Hz Tryz.func91 rfl (rnum_ok _ _ _ mx _ _ _ (d.length : Int) (d ++ rest) hb hbb hbe (by omega) (by omega) (m0.into [(1, 1), (2, 2)] (by decide) rfl)) ?_)
 rintro e w10 ⟨p10, c10, rfl, hm10⟩
 have mx10 := m0.back hm10 [(1, 1), (2, 2)] (by decide); clear hm10 m0
 have m10 := mx10.oz [1, 2]
 refine ⟨_, rfl, ?_⟩; intro Az Hz
 refine gz hK0 Hz (.assign rfl .nil) fun Az Hz => ?_
 refine wsk fun K1 hK1 => ?_
 replace Hz := Hz.oz [0, 4, 5]
 refine regS Hz (.move rfl <| .nilCheck rfl <| .fa 1 rfl U154 <| .lb m10 1 U3 rfl rfl rfl <| .neq rfl rfl .nil) fun Az Hz => ?_
 refine bc Hz 16 ?_ ?_
 · intro hb _; exact absurd hb (by simp)
 clear Hz; intro _ Hz
 refine wcf Hz ?_
 refine zss (hK1 _ _ ?_)
 refine wsk fun K2 hK2 => ?_
 refine regS Hz (.move rfl <| .move rfl <| .nilCheck rfl <| .fa 0 rfl U154 <| .lb m10 1 U22 rfl rfl rfl <| .len rfl U22 <| .conv rfl U3 U149 (r := ((d ++ rest).length : Int)) (IntWalk.u64_in _ (by rw [hbe, List.length_append] at hb; omega)) <| .gtr rfl rfl .nil) fun Az Hz => ?_
 refine bc Hz 24 ?_ ?_
 · intro hb _; exact absurd hb (by simp; omega)
 clear Hz; intro _ Hz
 refine wcf Hz ?_
 refine zss (hK2 _ _ ?_)
 replace Hz := Hz.oz [0, 4, 5]
 refine zsr fun K3 hK3 => ?_
 refine goCh Hz (.move rfl <| .nilCheck rfl <| .fa 0 rfl U154 <| .lb m10 1 U22 rfl rfl rfl <| .move rfl .nil) fun Az Hz => ?_
 have hcap41 := (m10.rd (i := 2) rfl).ns_out.cap
 have m41 := m10.takeN (i := 2) rfl d.length hun 20 rfl
 refine gz hK3 Hz (.c rfl (fun _ h_ => y_sliceHn h_ d.length rfl rfl U22 fct34 rfl (Nat.le_trans hun hcap41.1)) <| .assign rfl <| .nil) fun Az Hz => ?_
 replace Hz := Hz.oz [0, 4, 5, 6]
 refine zsr fun K4 hK4 => ?_
 refine goCh Hz (.move rfl <| .move rfl <| .nilCheck rfl <| .fa 0 rfl U154 <| .lb m41 1 U22 rfl rfl rfl <| .move rfl .nil) fun Az Hz => ?_
 have m58 := m41.dropN (i := 2) rfl d.length hun 21 rfl
 refine goCh Hz (.c rfl (fun _ h_ => y_sliceLn h_ d.length rfl rfl U22 fct34 rfl hun) <| .nilCheck rfl <| .fa 0 rfl U154 .nil) fun Az Hz => ?_
 refine plz (st1 Hz m58 1 fct35 fun w62 m62 _ => ?_)
 refine znl (hK4 _ _ ?_)
 replace Hz := Hz.oz [4, 6]
 refine regS Hz (.move rfl <| .assign rfl .nil) fun Az Hz => ?_
 refine rt1 Hz ?_
 have e1 : (d ++ rest).take d.length = d := List.take_left
 have e2 : (d ++ rest).drop d.length = rest := List.drop_left
 have e3 : (d ++ rest).length - d.length = rest.length := by rw [List.length_append]; omega
 rw [e1, e2, e3] at m62
 exact ⟨_, _, _, _, rfl, m62.ren [(1, 1), (2, 21), (3, 20)] (by decide)⟩
theorem rtakeItems_x (X : Cx) (B : Nat) (b : List Int) (p : Option Addr) (c : Nat) (w0 : World) (es : List (Int × List Int)) (rest : List Int) (hb : b.length ≤ 1000000) (hbb : BytesL b) (hbe : b = enc es.length ++ (itemsE es ++ rest)) (hel : es.length ≤ 8) (hok : ∀ e ∈ es, (0 ≤ e.1 ∧ e.1 ≤ 256) ∧ (e.2.length : Int) ≤ 32) (m0 : MemOk X w0 [(1, .box B 154 [.slice p (b).length c, .int .i64 0]), (2, .dat (.slice p (b).length c) (.ns .u8 (b)))] w0) :
   Calls Tryz.prog 93 #[.pointer (some ⟨B, 0, none⟩)] w0 fun e w' => ∃ (p' : Option Addr) (c' : Nat) (p3 : Option Addr) (c3 : Nat), e = .returned (.slice p3 (es.map itD).length c3) ∧ MemOk X w0 [(1, .box B 154 [.slice p' (rest).length c', .int .i64 0]), (2, .dat (.slice p' (rest).length c') (.ns .u8 (rest))), (3, .dat (.slice p3 (es.map itD).length c3) (.l 2 (es.map itD)))] w' := by
 refine ent1 Tryz.func93 rfl Tryz.ntmps93 fun Az Hz => ?_
 refine regS Hz (.assign rfl .nil) fun Az Hz => ?_
 refine regS Hz (.assign rfl .nil) fun Az Hz => ?_
 refine zsr fun K0 hK0 => ?_
 refine goCh Hz (.move rfl .nil) fun Az Hz => ?_
 refine plz (ecl Hz Tryz.func91 rfl (rnum_ok _ _ _ 8 _ _ _ (es.length : Int) (itemsE es ++ rest) hb hbb hbe (by decide) (by omega) (m0.into [(1, 1), (2, 2)] (by decide) rfl)) ?_)
 rintro e w5 ⟨p5, c5, rfl, hm5⟩
 have mx5 := m0.back hm5 [(1, 1), (2, 2)] (by decide); clear hm5 m0
 have m5 := mx5.oz [1, 2]
 refine ⟨_, rfl, ?_⟩; intro Az Hz
 refine gz hK0 Hz (.assign rfl .nil) fun Az Hz => ?_
 refine wsk fun K1 hK1 => ?_
 refine regS Hz (.assign rfl .nil) fun Az Hz => ?_
 refine wp_block ?_
 refine wp_loop_ghost (fun g a w => ∃ (k : Nat) (p1 : Option Addr) (c1 : Nat) (p3 : Option Addr) (c3 : Nat), k ≤ es.length ∧ g = es.length - k ∧ (itemsE (es.drop k) ++ rest).length ≤ 1000000 ∧ BytesL (itemsE (es.drop k) ++ rest) ∧ Has 33 [(0, .pointer (some ⟨B, 0, none⟩)), (3, .slice p3 ((es.take k).map itD).length c3), (4, .int .u64 (es.length : Int)), (5, .int .u64 (k : Int))] a ∧ MemOk X w0 [(1, .box B 154 [.slice p1 (itemsE (es.drop k) ++ rest).length c1, .int .i64 0]), (2, .dat (.slice p1 (itemsE (es.drop k) ++ rest).length c1) (.ns .u8 (itemsE (es.drop k) ++ rest))), (9, .row (.slice p3 ((es.take k).map itD).length c3) 111 2 ((es.take k).map itD))] w) (es.length) ?_ ?_
 · have mz := m5.nilR 9 111 2
   exact ⟨0, _, _, _, _, Nat.zero_le _, rfl, by rw [hbe, List.length_append] at hb; simpa using (by omega : (itemsE es ++ rest).length ≤ 1000000), bytes_r (by rw [hbe] at hbb; exact hbb), Hz.only [0, 3, 4, 5], mz.only [1, 2, 9]⟩
 clear Hz m5
 rintro g Az w9 ⟨k, p1, c1, p3, c3, hkl, hg, hb1, hbb1, Hz, m9⟩
 refine wsk fun K2 hK2 => ?_
 refine zsr fun K3 hK3 => ?_
 refine goCh Hz (.move rfl <| .move rfl <| .lss rfl rfl <| .move rfl .nil) fun Az Hz => ?_
 refine bc Hz 12 ?_ ?_
 ·
  intro hb18 Hz; try simp only [QQ, Qax] at hb18
  have hk : k < es.length := by omega
  obtain ⟨⟨xb, xd⟩, hes⟩ : ∃ e, es[k]? = some e := ⟨_, List.getElem?_eq_getElem hk⟩
  have hed := hok _ (List.mem_of_getElem? hes)
  dsimp only at hed
  have hE1 : itemsE (es.drop k) ++ rest = enc xb ++ (enc xd.length ++ (xd ++ (itemsE (es.drop (k + 1)) ++ rest))) := by rw [itemsE_drop hes]; simp only [itemE, List.append_assoc]
  have hb2 : (enc xd.length ++ (xd ++ (itemsE (es.drop (k + 1)) ++ rest))).length ≤ 1000000 := by rw [hE1, List.length_append] at hb1; omega
  have hbb2 : BytesL (enc xd.length ++ (xd ++ (itemsE (es.drop (k + 1)) ++ rest))) := bytes_r (by rw [hE1] at hbb1; exact hbb1)
  have hb3 : (itemsE (es.drop (k + 1)) ++ rest).length ≤ 1000000 := by rw [List.length_append, List.length_append] at hb2; omega
  have hbb3 : BytesL (itemsE (es.drop (k + 1)) ++ rest) := bytes_r (bytes_r hbb2)
  refine gz hK3 Hz (.moveZ rfl <| .nilCheckZ rfl <| .faZ 1 rfl U154 <| .loadB1Z m9 (i := 1) rfl rfl rfl U3 rfl <| .eqlZ rfl rfl <| .pickT rfl rfl <| .nil) fun Az Hz => ?_
  refine bc Hz 18 ?_ ?_
  rotate_left
  · intro hb _; exact absurd hb (by simp)
  clear Hz; intro _ Hz
  refine wct Hz ?_
  refine zss (hK2 _ _ ?_)
  refine wsk fun K4 hK4 => ?_
  refine wp_block ?_
  replace Hz := Hz.oz [0, 3, 4, 5]
  refine zsr fun K5 hK5 => ?_
  refine goCh Hz (.move rfl .nil) fun Az Hz => ?_
  refine plz (ecl Hz Tryz.func91 rfl (rnum_ok _ _ _ 256 _ _ _ xb (enc xd.length ++ (xd ++ (itemsE (es.drop (k + 1)) ++ rest))) hb1 hbb1 hE1 (by decide) hed.1 (m9.into [(1, 1), (2, 2)] (by decide) rfl)) ?_)
  rintro e w29 ⟨p29, c29, rfl, hm29⟩
  have mx29 := m9.back hm29 [(1, 1), (2, 2)] (by decide); clear hm29 m9
  have m29 := mx29.oz [1, 2, 9]
  refine ⟨_, rfl, ?_⟩; intro Az Hz
  refine gz hK5 Hz (.conv rfl U149 U3 (r := xb) (IntWalk.i64_in _ (by omega)) <| .assign rfl <| .nil) fun Az Hz => ?_
  refine wp_region_lit ?_
  refine goCh Hz (.move rfl <| .move rfl <| .move rfl .nil) fun Az Hz => ?_
  refine plz (ecl Hz Tryz.func122 rfl (rlump_ok _ _ _ 32 _ _ _ xd (itemsE (es.drop (k + 1)) ++ rest) hb2 hbb2 rfl (by decide) hed.2 (m29.into [(1, 1), (2, 2)] (by decide) rfl)) ?_)
  rintro e w36 ⟨p36, c36, p336, c336, rfl, hm36⟩
  have mx36 := m29.back hm36 [(1, 1), (2, 2), (100, 3)] (by decide); clear hm36 m29
  have m36 := mx36.oz [1, 2, 100, 9]
  refine ⟨_, rfl, ?_⟩; intro Az Hz
  refine plz (e_app0N Hz m36 101 rfl rfl (m36.nums (i := 100) rfl) U22 fct19 (by decide) (by omega) rfl fun p38 c38 Az w39 Hz m39 => ?_)
  refine goCh Hz (.build rfl fct25 fl111xtI rfl (by dsimp only [setL, List.set] <;> rfl) .nil) fun Az Hz => ?_
  have m42 := m39.freezeN 101 rfl
  refine plz (e_litR Hz m42 102 (mm := 2) rfl (.cons rfl rfl (.cons (.v _) (.cons (m42.rd (i := 101) rfl) .nil)) .nil) U40 fct24 rfl rfl rfl rfl rfl fun g41 Az w43 Hz m43 => ?_)
  have m45 := m43.freezeR 102 rfl
  refine plz (e_appR Hz m45 9 rfl rfl rfl (m45.rd (i := 102) rfl) U40 fct24 rfl rfl (by decide) (by simp; omega) rfl fun p44 c44 Az w46 Hz m46 => ?_)
  refine gz hK4 Hz (.assign rfl .nil) fun Az Hz => ?_
  replace Hz := Hz.oz [0, 3, 4, 5]
  refine wp_region_lit ?_
  refine goCh Hz (.move rfl <| .add rfl rfl (r := ((k + 1 : Nat) : Int)) (by rw [IntWalk.u64_in _ (by omega)]; omega) <| .assign rfl .nil) fun Az Hz => ?_
  refine wpList_nil ?_
  show ∃ n', n' < _ ∧ _
  have hE : (es.take k).map itD ++ [[D.v (.int .i64 xb), .ns .u8 xd]] = (es.take (k + 1)).map itD := by rw [take_snoc hes, List.map_append]; rfl
  rw [hE] at m46 Hz
  exact ⟨es.length - (k + 1), by omega, k + 1, _, _, _, _, by omega, rfl, hb3, hbb3, Hz.only [0, 3, 4, 5], m46.only [1, 2, 9]⟩
 intro hb18 Hz; try simp only [QQ, Qax] at hb18
 revert Hz
 obtain rfl : k = es.length := by omega
 intro Hz
 refine gz hK3 Hz (.sk <| .sk <| .sk <| .sk <| .sk <| .pickF rfl rfl <| .nil) fun Az Hz => ?_
 refine wcf Hz ?_
 refine wp_exit ?_
 refine hK1 _ _ ?_
 replace Hz := Hz.oz [0, 3, 4, 5]
 refine regS Hz (.move rfl <| .assign rfl .nil) fun Az Hz => ?_
 refine rt1 Hz ?_
 have m61 := m9.freezeR 9 rfl
 rw [List.drop_length, List.take_length, show itemsE [] ++ rest = rest from rfl] at m61
 rw [List.take_length]
 exact ⟨_, _, _, _, rfl, m61.ren [(1, 1), (2, 2), (3, 9)] (by decide)⟩
end
section
theorem fl154xrC : flatS Tryz.prog 154 [.slice none 0 0, .int .i64 0] = true := by kernel_rfl
structure CmdOk (kd vo bl sz pe to at0 ix : Int) (place : List Int) (items : List (Int × List Int)) : Prop where
 kd : 1 ≤ kd ∧ kd ≤ 8
 vo : 0 ≤ vo ∧ vo ≤ 7
 t40 : (0 ≤ bl ∧ bl ≤ 1099511627776) ∧ (0 ≤ sz ∧ sz ≤ 1099511627776) ∧ (0 ≤ pe ∧ pe ≤ 1099511627776) ∧ (0 ≤ to ∧ to ≤ 1099511627776) ∧ (0 ≤ at0 ∧ at0 ≤ 1099511627776) ∧ (0 ≤ ix ∧ ix ≤ 1099511627776)
 pl : place.length ≤ 256
 pb : ∀ k, k < place.length → 0 ≤ place.getD k 0 ∧ place.getD k 0 ≤ 7
 il : items.length ≤ 8
 ib : ∀ e ∈ items, (0 ≤ e.1 ∧ e.1 ≤ 255) ∧ e.2.length ≤ 32
 by8 : ∀ e ∈ items, BytesL e.2
def cmdE (kd vo bl sz pe to at0 ix : Int) (place : List Int) (items : List (Int × List Int)) : List Int := encs [kd, vo, bl, sz, pe, to, at0, ix] ++ (encs ((place.length : Int) :: place) ++ (enc items.length ++ itemsE items))
theorem l63 {l : List Int} (h : ∀ x ∈ l, 0 ≤ x ∧ x ≤ 9223372036854775807) : ∀ k, k < l.length → 0 ≤ l.getD k 0 ∧ l.getD k 0 ≤ 9223372036854775807 := fun k hk => by
 rw [List.getD, List.getElem?_eq_getElem hk]; exact h _ (List.getElem_mem hk)
theorem bytes_app2 {a b : List Int} (ha : BytesL a) (hb : BytesL b) : BytesL (a ++ b) := fun x hx => (List.mem_append.1 hx).elim (ha x) (hb x)
theorem encs_bytes {l : List Int} (h : ∀ x ∈ l, x ≤ 18446744073709551615) : BytesL (encs l) := fun x hx => by
 obtain ⟨y, hy, hxy⟩ := List.mem_flatMap.1 hx
 exact enc_bytes y (h y hy) x hxy
theorem items_bytes {es : List (Int × List Int)} (h : ∀ e ∈ es, e.1 ≤ 18446744073709551615 ∧ e.2.length ≤ 1000 ∧ BytesL e.2) : BytesL (itemsE es) := fun x hx => by
 obtain ⟨y, hy, hxy⟩ := List.mem_flatMap.1 hx
 obtain ⟨h1, h2, h3⟩ := h y hy
 rcases List.mem_append.1 hxy with h4 | h4
 · exact enc_bytes _ h1 x h4
 rcases List.mem_append.1 h4 with h5 | h5
 · exact enc_bytes _ (by omega) x h5
 exact h3 x h5
section
variable {kd vo bl sz pe to at0 ix : Int} {place : List Int} {items : List (Int × List Int)}
theorem CmdOk.n63 (hc : CmdOk kd vo bl sz pe to at0 ix place items) : ∀ k, k < [kd, vo, bl, sz, pe, to, at0, ix].length → 0 ≤ [kd, vo, bl, sz, pe, to, at0, ix].getD k 0 ∧ [kd, vo, bl, sz, pe, to, at0, ix].getD k 0 ≤ 9223372036854775807 := l63 (fun x hx => by
 have h1 := hc.kd; have h2 := hc.vo; have h3 := hc.t40
 simp only [List.mem_cons, List.not_mem_nil, or_false] at hx
 omega)
theorem CmdOk.lens (hc : CmdOk kd vo bl sz pe to at0 ix place items) : (encs [kd, vo, bl, sz, pe, to, at0, ix]).length ≤ 80 ∧ (encs ((place.length : Int) :: place)).length ≤ 2570 ∧ (enc items.length ++ itemsE items).length ≤ 8170 := by
 have h1 := encs_len [kd, vo, bl, sz, pe, to, at0, ix]
 have h2 := encs_len ((place.length : Int) :: place)
 have h3 := (enc_len items.length).1
 have h4 := itemsE_len items (fun e he => by have := hc.ib e he; omega)
 have h5 := hc.pl; have h6 := hc.il
 simp only [List.length_cons, List.length_nil, List.length_append] at *
 omega
theorem CmdOk.len (hc : CmdOk kd vo bl sz pe to at0 ix place items) : (cmdE kd vo bl sz pe to at0 ix place items).length ≤ 20000 := by
 have := hc.lens
 simp only [cmdE, List.length_append] at *
 omega
theorem CmdOk.bytes (hc : CmdOk kd vo bl sz pe to at0 ix place items) : BytesL (cmdE kd vo bl sz pe to at0 ix place items) := by
 have h1 := hc.kd; have h2 := hc.vo; have h3 := hc.t40; have h4 := hc.pl; have h5 := hc.il
 refine bytes_app2 (encs_bytes fun x hx => ?_) (bytes_app2 (encs_bytes fun x hx => ?_) (bytes_app2 (fun x hx => enc_bytes _ (by omega) x hx) (items_bytes fun e he => ?_)))
 · simp only [List.mem_cons, List.not_mem_nil, or_false] at hx; omega
 · rcases List.mem_cons.1 hx with rfl | hx
   · omega
   obtain ⟨k, hk, rfl⟩ := List.getElem_of_mem hx
   have := hc.pb k hk
   rw [List.getD, List.getElem?_eq_getElem hk] at this
   simp only [Option.getD_some] at this
   omega
 have := hc.ib e he; exact ⟨by omega, by omega, hc.by8 e he⟩
end
set_option maxRecDepth 100000
set_option maxHeartbeats 4000000
theorem within_x (n : Int) (w0 : World) (h : 0 ≤ n ∧ n ≤ 1099511627776) : Calls Tryz.prog 86 #[.int .i64 n] w0 fun e w' => e = .returned (.bool true) ∧ Below w0.heap.size w0 w' := by
 refine ent1 Tryz.func86 rfl Tryz.ntmps86 fun Az Hz => ?_
 have m0 := MemOk.start (fun _ => False) w0
 refine regS Hz (.assign rfl .nil) fun Az Hz => ?_
 refine zsr fun K0 hK0 => ?_
 refine goCh Hz (.move rfl <| .geq rfl rfl <| .move rfl .nil) fun Az Hz => ?_
 refine bc Hz 5 ?_ ?_
 rotate_left
 · intro hb _; exact absurd hb (by simp; omega)
 clear Hz; intro _ Hz
 refine gz hK0 Hz (.moveZ rfl <| .leqZ rfl rfl <| .pickT rfl rfl <| .assign rfl <| .nil) fun Az Hz => ?_
 refine rt1 Hz ?_
 exact ⟨by simp; omega, m0.below⟩
theorem rcmd_yes (kd vo bl sz pe to at0 ix : Int) (place : List Int) (items : List (Int × List Int)) (pp pi : Option Addr) (cp ni ci : Nat) (w0 : World) (h0 : Rd (fun _ => True) w0 (.slice pp place.length cp) (.ns .i64 place)) (h1 : Rd (fun _ => True) w0 (.slice pi ni ci) (.l 2 (items.map itD))) (hc : CmdOk kd vo bl sz pe to at0 ix place items) :
   Calls Tryz.prog 57 #[.agg #[.int .i64 kd, .int .i64 vo, .int .i64 bl, .int .i64 sz, .int .i64 pe, .slice pp place.length cp, .int .i64 to, .int .i64 at0, .int .i64 ix, .slice pi ni ci]] w0 fun e w' => e = .returned (.bool true) ∧ Below w0.heap.size w0 w' := by
 obtain rfl : ni = items.length := by obtain ⟨pq, c9, hv, _⟩ := h1.l_shape; injection hv with _ e2 _; rw [List.length_map] at e2; exact e2
 obtain ⟨hkd, hvo, ht40, hpl, hpb, hil, hok, -⟩ := hc
 refine ent1 Tryz.func57 rfl Tryz.ntmps57 fun Az Hz => ?_
 have m0 := MemOk.start (fun _ => False) w0
 refine zsr fun K0 hK0 => ?_
 refine plz (e_box Hz m0 20 (cs := [_, _, _, _, _, _, _, _, _, _]) rfl rfl rfl fun g1 Az w2 Hz m2 _ _ => ?_)
 refine gz hK0 Hz (.assign rfl .nil) fun Az Hz => ?_
 refine wsk fun K1 hK1 => ?_
 refine zsr fun K2 hK2 => ?_
 refine goCh Hz (.fa 0 rfl U81 <| .lb m2 20 U3 rfl rfl rfl <| .lss rfl rfl <| .move rfl .nil) fun Az Hz => ?_
 refine bc Hz 8 ?_ ?_
 · intro hb _; exact absurd hb (by simp; omega)
 clear Hz; intro _ Hz
 refine goCh Hz (.faZ 0 rfl U81 <| .loadB1Z m2 (i := 20) rfl rfl rfl U3 rfl <| .gtrZ rfl rfl <| .pickF rfl rfl <| .move rfl .nil) fun Az Hz => ?_
 refine bc Hz 13 ?_ ?_
 · intro hb _; exact absurd hb (by simp; omega)
 clear Hz; intro _ Hz
 refine goCh Hz (.faZ 1 rfl U81 <| .loadB1Z m2 (i := 20) rfl rfl rfl U3 rfl <| .lssZ rfl rfl <| .pickF rfl rfl <| .move rfl .nil) fun Az Hz => ?_
 refine bc Hz 18 ?_ ?_
 · intro hb _; exact absurd hb (by simp; omega)
 clear Hz; intro _ Hz
 refine goCh Hz (.faZ 1 rfl U81 <| .loadB1Z m2 (i := 20) rfl rfl rfl U3 rfl <| .geqZ rfl rfl <| .pickF rfl rfl <| .move rfl .nil) fun Az Hz => ?_
 refine bc Hz 23 ?_ ?_
 · intro hb _; exact absurd hb (by simp; omega)
 clear Hz; intro _ Hz
 refine goCh Hz (.faZ 2 rfl U81 <| .loadB1Z m2 (i := 20) rfl rfl rfl U3 rfl .nil) fun Az Hz => ?_
 refine stz Hz (ecb Hz Tryz.func86 rfl m2 (within_x _ _ (by omega)) fun Az w33 Hz m34 => ?_)
 refine goCh Hz (.notZ rfl <| .pickF rfl rfl <| .move rfl <| .faZ 3 rfl U81 <| .loadB1Z m34 (i := 20) rfl rfl rfl U3 rfl .nil) fun Az Hz => ?_
 refine stz Hz (ecb Hz Tryz.func86 rfl m34 (within_x _ _ (by omega)) fun Az w41 Hz m42 => ?_)
 refine goCh Hz (.notZ rfl <| .pickF rfl rfl <| .move rfl <| .faZ 4 rfl U81 <| .loadB1Z m42 (i := 20) rfl rfl rfl U3 rfl .nil) fun Az Hz => ?_
 refine stz Hz (ecb Hz Tryz.func86 rfl m42 (within_x _ _ (by omega)) fun Az w49 Hz m50 => ?_)
 refine goCh Hz (.notZ rfl <| .pickF rfl rfl <| .move rfl <| .faZ 6 rfl U81 <| .loadB1Z m50 (i := 20) rfl rfl rfl U3 rfl .nil) fun Az Hz => ?_
 refine stz Hz (ecb Hz Tryz.func86 rfl m50 (within_x _ _ (by omega)) fun Az w57 Hz m58 => ?_)
 refine goCh Hz (.notZ rfl <| .pickF rfl rfl <| .move rfl <| .faZ 8 rfl U81 <| .loadB1Z m58 (i := 20) rfl rfl rfl U3 rfl .nil) fun Az Hz => ?_
 refine stz Hz (ecb Hz Tryz.func86 rfl m58 (within_x _ _ (by omega)) fun Az w65 Hz m66 => ?_)
 refine goCh Hz (.notZ rfl <| .pickF rfl rfl <| .move rfl <| .faZ 7 rfl U81 <| .loadB1Z m66 (i := 20) rfl rfl rfl U2 rfl .nil) fun Az Hz => ?_
 refine stz Hz (ecb Hz Tryz.func86 rfl m66 (within_x _ _ (by omega)) fun Az w73 Hz m74 => ?_)
 refine goCh Hz (.notZ rfl <| .pickF rfl rfl <| .move rfl <| .faZ 5 rfl U81 <| .loadB1Z m74 (i := 20) rfl rfl rfl U29 rfl <| .lenZ rfl U29 <| .gtrZ rfl rfl <| .pickF rfl rfl <| .move rfl .nil) fun Az Hz => ?_
 refine bc Hz 65 ?_ ?_
 · intro hb _; exact absurd hb (by simp; omega)
 clear Hz; intro _ Hz
 refine gz hK2 Hz (.faZ 9 rfl U81 <| .loadB1Z m74 (i := 20) rfl rfl rfl U40 rfl <| .lenZ rfl U40 <| .gtrZ rfl rfl <| .pickF rfl rfl <| .nil) fun Az Hz => ?_
 refine bc Hz 70 ?_ ?_
 · intro hb _; exact absurd hb (by simp; omega)
 clear Hz; intro _ Hz
 refine wcf Hz ?_
 refine zss (hK1 _ _ ?_)
 refine wsk fun K3 hK3 => ?_
 replace Hz := Hz.oz [1, 2]
 refine regS Hz (.assign rfl .nil) fun Az Hz => ?_
 refine wp_block ?_
 refine wp_loop_ghost (fun g a w => ∃ (k B : Nat), k ≤ place.length ∧ g = place.length - k ∧ Has 125 [(1, .pointer (some ⟨B, 0, none⟩)), (3, .int .i64 k)] a ∧ MemOk (cn w0) w0 [(9, .box B 81 [.int .i64 kd, .int .i64 vo, .int .i64 bl, .int .i64 sz, .int .i64 pe, .slice pp place.length cp, .int .i64 to, .int .i64 at0, .int .i64 ix, .slice pi items.length ci])] w) (place.length) ?_ ?_
 · exact ⟨0, _, Nat.zero_le _, rfl, Hz.only [1, 3], m74.ren [(9, 20)] (by decide)⟩
 clear Hz m74
 rintro g Az w94 ⟨k, B, hkl, hg, Hz, m94⟩
 refine wsk fun K4 hK4 => ?_
 refine regS Hz (.move rfl <| .fa 5 rfl U81 <| .lb m94 9 U29 rfl rfl rfl <| .len rfl U29 <| .lss rfl rfl .nil) fun Az Hz => ?_
 refine bc Hz 75 ?_ ?_
 ·
  intro hb100 Hz; try simp only [QQ, Qax] at hb100
  have hk : k < place.length := by omega
  have hpk := hpb k hk
  refine wct Hz ?_
  refine zss (hK4 _ _ ?_)
  refine wsk fun K5 hK5 => ?_
  refine wp_block ?_
  refine zsr fun K6 hK6 => ?_
  refine goCh Hz (.fa 5 rfl U81 <| .lb m94 9 U29 rfl rfl rfl <| .move rfl .nil) fun Az Hz => ?_
  obtain ⟨gx108, ox108, hp108, hl108, hrg108⟩ := h0.extN (k) hk
  revert Hz
  cases hp108
  intro Hz
  refine goCh Hz (.c rfl (fun _ h_ => y_idx h_ rfl rfl U29 fct23 (k) rfl hk) <| .loadAt1 (hrg108 m94 rfl) (q := 0) rfl rfl rfl U3 rfl <| .lss rfl rfl <| .move rfl .nil) fun Az Hz => ?_
  refine bc Hz 84 ?_ ?_
  · intro hb _; exact absurd hb (by rw [decide_eq_true_eq]; omega)
  clear Hz; intro _ Hz
  refine goCh Hz (.faZ 5 rfl U81 <| .loadB1Z m94 (i := 9) rfl rfl rfl U29 rfl <| .moveZ rfl .nil) fun Az Hz => ?_
  obtain ⟨gx117, ox117, hp117, hl117, hrg117⟩ := h0.extN (k) hk
  revert Hz
  cases hp117
  intro Hz
  refine gz hK6 Hz (.g rfl rfl rfl rfl (fun _ h_ => y_idx h_ rfl rfl U29 fct23 (k) rfl hk) <| .loadAt1Z (hrg117 m94 rfl) (q := 0) rfl rfl rfl U3 rfl <| .geqZ rfl rfl <| .pickF rfl rfl <| .nil) fun Az Hz => ?_
  refine bc Hz 91 ?_ ?_
  · intro hb _; exact absurd hb (by rw [decide_eq_true_eq]; omega)
  clear Hz; intro _ Hz
  refine wcf Hz ?_
  refine zss (hK5 _ _ ?_)
  replace Hz := Hz.oz [1, 3]
  refine wp_region_lit ?_
  refine goCh Hz (.move rfl <| .inc (k + 1) <| .assign rfl .nil) fun Az Hz => ?_
  refine wpList_nil ?_
  show ∃ n', n' < _ ∧ _
  exact ⟨place.length - (k + 1), by omega, k + 1, _, by omega, rfl, Hz.only [1, 3], m94.only [9]⟩
 intro hb100 Hz; try simp only [QQ, Qax] at hb100
 refine wcf Hz ?_
 refine wp_exit ?_
 refine hK3 _ _ ?_
 refine wsk fun K7 hK7 => ?_
 refine regS Hz (.assign rfl .nil) fun Az Hz => ?_
 refine wp_block ?_
 refine wp_loop_ghost (fun g a w => ∃ (k B : Nat), k ≤ items.length ∧ g = items.length - k ∧ Has 125 [(1, .pointer (some ⟨B, 0, none⟩)), (4, .int .i64 k)] a ∧ MemOk (cn w0) w0 [(9, .box B 81 [.int .i64 kd, .int .i64 vo, .int .i64 bl, .int .i64 sz, .int .i64 pe, .slice pp place.length cp, .int .i64 to, .int .i64 at0, .int .i64 ix, .slice pi items.length ci])] w) (items.length) ?_ ?_
 · exact ⟨0, _, Nat.zero_le _, rfl, Hz.only [1, 4], m94.ren [(9, 9)] (by decide)⟩
 clear Hz m94
 rintro g Az w128 ⟨k, B, hkl, hg, Hz, m128⟩
 refine wsk fun K8 hK8 => ?_
 refine regS Hz (.move rfl <| .fa 9 rfl U81 <| .lb m128 9 U40 rfl rfl rfl <| .len rfl U40 <| .lss rfl rfl .nil) fun Az Hz => ?_
 refine bc Hz 96 ?_ ?_
 ·
  intro hb134 Hz; try simp only [QQ, Qax] at hb134
  have hk : k < items.length := by omega
  obtain ⟨⟨xb, xd⟩, hes⟩ : ∃ e, items[k]? = some e := ⟨_, List.getElem?_eq_getElem hk⟩
  have hed := hok _ (List.mem_of_getElem? hes)
  dsimp only at hed
  refine wct Hz ?_
  refine zss (hK8 _ _ ?_)
  refine wsk fun K9 hK9 => ?_
  refine wp_block ?_
  refine zsr fun K10 hK10 => ?_
  refine goCh Hz (.fa 9 rfl U81 <| .lb m128 9 U40 rfl rfl rfl <| .move rfl .nil) fun Az Hz => ?_
  obtain ⟨gx142, ox142, vx142, hp142, hl142, hR142, hrg142⟩ := h1.extA (k) (r := [.v (.int .i64 xb), .ns .u8 xd]) (itD_get hes)
  revert Hz
  cases hp142
  rcases hR142 with _ | ⟨hd142_0, _ | ⟨hd142_1, _ | _⟩⟩
  obtain rfl := hd142_0.v_out
  clear hd142_0
  obtain ⟨p143, c143, hv143, hw143⟩ := hd142_1.ns_shape; subst hv143
  intro Hz
  refine goCh Hz (.c rfl (fun _ h_ => y_idx h_ rfl rfl U40 fct16 (k) rfl hk) <| .fieldAddrQ 0 rfl U111 rfl (s := 0) (by kernel_rfl) rfl <| .loadAt1 (hrg142 m128 rfl) (q := 0) rfl rfl rfl U3 rfl <| .lss rfl rfl <| .move rfl .nil) fun Az Hz => ?_
  refine bc Hz 106 ?_ ?_
  · intro hb _; exact absurd hb (by simp; omega)
  clear Hz; intro _ Hz
  refine goCh Hz (.faZ 9 rfl U81 <| .loadB1Z m128 (i := 9) rfl rfl rfl U40 rfl <| .moveZ rfl .nil) fun Az Hz => ?_
  obtain ⟨gx153, ox153, vx153, hp153, hl153, hR153, hrg153⟩ := h1.extA (k) (r := [.v (.int .i64 xb), .ns .u8 xd]) (itD_get hes)
  revert Hz
  cases hp153
  rcases hR153 with _ | ⟨hd153_0, _ | ⟨hd153_1, _ | _⟩⟩
  obtain rfl := hd153_0.v_out
  clear hd153_0
  obtain ⟨p154, c154, hv154, hw154⟩ := hd153_1.ns_shape; subst hv154
  intro Hz
  refine goCh Hz (.g rfl rfl rfl rfl (fun _ h_ => y_idx h_ rfl rfl U40 fct16 (k) rfl hk) <| .fieldAddrQZ 0 rfl U111 rfl (s := 0) (by kernel_rfl) rfl <| .loadAt1Z (hrg153 m128 rfl) (q := 0) rfl rfl rfl U3 rfl <| .geqZ rfl rfl <| .pickF rfl rfl <| .move rfl .nil) fun Az Hz => ?_
  refine bc Hz 115 ?_ ?_
  · intro hb _; exact absurd hb (by simp; omega)
  clear Hz; intro _ Hz
  refine goCh Hz (.faZ 9 rfl U81 <| .loadB1Z m128 (i := 9) rfl rfl rfl U40 rfl <| .moveZ rfl .nil) fun Az Hz => ?_
  obtain ⟨gx165, ox165, vx165, hp165, hl165, hR165, hrg165⟩ := h1.extA (k) (r := [.v (.int .i64 xb), .ns .u8 xd]) (itD_get hes)
  revert Hz
  cases hp165
  rcases hR165 with _ | ⟨hd165_0, _ | ⟨hd165_1, _ | _⟩⟩
  obtain rfl := hd165_0.v_out
  clear hd165_0
  obtain ⟨p166, c166, hv166, hw166⟩ := hd165_1.ns_shape; subst hv166
  intro Hz
  refine gz hK10 Hz (.g rfl rfl rfl rfl (fun _ h_ => y_idx h_ rfl rfl U40 fct16 (k) rfl hk) <| .fieldAddrQZ 1 rfl U111 rfl (s := 0) (by kernel_rfl) rfl <| .loadAt1Z (hrg165 m128 rfl) (q := 1) rfl rfl rfl U22 rfl <| .lenZ rfl U22 <| .gtrZ rfl rfl <| .pickF rfl rfl <| .nil) fun Az Hz => ?_
  refine bc Hz 124 ?_ ?_
  · intro hb _; exact absurd hb (by simp; omega)
  clear Hz; intro _ Hz
  refine wcf Hz ?_
  refine zss (hK9 _ _ ?_)
  replace Hz := Hz.oz [1, 4]
  refine wp_region_lit ?_
  refine goCh Hz (.move rfl <| .inc (k + 1) <| .assign rfl .nil) fun Az Hz => ?_
  refine wpList_nil ?_
  show ∃ n', n' < _ ∧ _
  exact ⟨items.length - (k + 1), by omega, k + 1, _, by omega, rfl, Hz.only [1, 4], m128.only [9]⟩
 intro hb134 Hz; try simp only [QQ, Qax] at hb134
 refine wcf Hz ?_
 refine wp_exit ?_
 refine hK7 _ _ ?_
 refine regS Hz (.assign rfl .nil) fun Az Hz => ?_
 refine rt1 Hz ?_
 exact ⟨rfl, m128.below⟩
theorem rputCmd_x (kd vo bl sz pe to at0 ix : Int) (place : List Int) (items : List (Int × List Int)) (pp pi : Option Addr) (cp ni ci : Nat) (w0 : World) (h0 : Rd (fun _ => True) w0 (.slice pp place.length cp) (.ns .i64 place)) (h1 : Rd (fun _ => True) w0 (.slice pi ni ci) (.l 2 (items.map itD))) (hc : CmdOk kd vo bl sz pe to at0 ix place items) :
   Calls Tryz.prog 29 #[.agg #[.int .i64 kd, .int .i64 vo, .int .i64 bl, .int .i64 sz, .int .i64 pe, .slice pp place.length cp, .int .i64 to, .int .i64 at0, .int .i64 ix, .slice pi ni ci]] w0 fun e w' => ∃ (p : Option Addr) (c : Nat), e = .returned (.tuple #[.slice p (cmdE kd vo bl sz pe to at0 ix place items).length c, .int .i64 0]) ∧ Rd (New w0) w' (.slice p (cmdE kd vo bl sz pe to at0 ix place items).length c) (.ns .u8 (cmdE kd vo bl sz pe to at0 ix place items)) ∧ Below w0.heap.size w0 w' := by
 obtain rfl : ni = items.length := by obtain ⟨pq, c9, hv, _⟩ := h1.l_shape; injection hv with _ e2 _; rw [List.length_map] at e2; exact e2
 rw [show cmdE kd vo bl sz pe to at0 ix place items = (encs [kd, vo, bl, sz, pe, to, at0, ix] ++ encs ((place.length : Int) :: place)) ++ (enc items.length ++ itemsE items) from (List.append_assoc _ _ _).symm]
 refine ent1 Tryz.func29 rfl Tryz.ntmps29 fun Az Hz => ?_
 have m0 := MemOk.start (fun _ => False) w0
 refine zsr fun K0 hK0 => ?_
 refine plz (e_box Hz m0 20 (cs := [_, _, _, _, _, _, _, _, _, _]) rfl rfl rfl fun g1 Az w2 Hz m2 _ _ => ?_)
 refine gz hK0 Hz (.assign rfl <| .assign rfl <| .nil) fun Az Hz => ?_
 refine wsk fun K1 hK1 => ?_
 refine zsr fun K2 hK2 => ?_
 refine goCh Hz (.loadBR m2 (i := 20) rfl rfl U81 rfl fct5 (by simp) (by dsimp only [List.drop, List.take] <;> rfl) .nil) fun Az Hz => ?_
 refine plz (ecb Hz Tryz.func57 rfl m2 (rcmd_yes _ _ _ _ _ _ _ _ place items _ _ _ _ _ _ ((h0.now' m2 rfl).any) ((h1.now' m2 rfl).any) hc) fun Az w7 Hz m8 => ?_)
 refine gz hK2 Hz (.not rfl .nil) fun Az Hz => ?_
 refine wcf Hz ?_
 refine zss (hK1 _ _ ?_)
 refine zsr fun K3 hK3 => ?_
 refine goCh Hz (.fa 0 rfl U81 <| .lb m8 20 U3 rfl rfl rfl <| .fa 1 rfl U81 <| .lb m8 20 U3 rfl rfl rfl <| .fa 2 rfl U81 <| .lb m8 20 U3 rfl rfl rfl <| .fa 3 rfl U81 <| .lb m8 20 U3 rfl rfl rfl <| .fa 4 rfl U81 <| .lb m8 20 U3 rfl rfl rfl <| .fa 6 rfl U81 <| .lb m8 20 U3 rfl rfl rfl <| .fa 7 rfl U81 <| .lb m8 20 U2 rfl rfl rfl <| .fa 8 rfl U81 <| .lb m8 20 U3 rfl rfl rfl .nil) fun Az Hz => ?_
 refine plz (e_litN Hz m8 21 (k := .i64) rfl rfl U30 fct22 rfl rfl rfl rfl fun g43 Az w44 Hz m44 => ?_)
 have m45 := m44.freezeN 21 rfl
 refine plz (ecn Hz Tryz.func58 rfl m45 22 (rnums16x [kd, vo, bl, sz, pe, to, at0, ix] _ _ _ ((m45.rd (i := 21) rfl).any) (by simp) hc.n63) fun p46 c46 Az w46 Hz m47 => ?_)
 refine gz hK3 Hz (.assign rfl .nil) fun Az Hz => ?_
 refine wsk fun K4 hK4 => ?_
 replace Hz := Hz.oz [1, 2, 3, 4]
 have m51 := m47.oz [20, 21, 22]
 refine region_p 11 (B := [(20, _)]) (m51.to ⟨il, trivial⟩) m51 (by kernel_rfl) (fun w52 hP52 m52 => ?_); clear m51
 refine goR hP52 [0, 1, 2, 5, 6] [2, 6] 5 0 103 Hz (m52.to ⟨il, trivial⟩) (.move rfl <| .fa 5 rfl U81 <| .lb hh 20 U29 rfl rfl rfl <| .fa 9 rfl U81 <| .lb hh 20 U40 rfl rfl rfl .nil) fun Az Hz => ?_
 refine so 3 ?_
 refine ecn Hz Tryz.func59 rfl m52 23 (rplace_x place _ _ _ ((h0.now' m52 rfl).any) (by have := hc.pl; omega) (fun k hk => by have := hc.pb k hk; omega)) fun p58 c58 Az w58 Hz m59 => ?_
 refine ⟨m59.to ⟨il, trivial⟩, ?_⟩
 refine so 4 ?_
 refine e_appN Hz m59 22 rfl rfl rfl (m59.numsO (i := 23) rfl) U22 fct19 (by decide) (by have := hc.lens; omega) rfl fun p61 c61 Az w62 Hz m62 => ?_
 refine ⟨m62.to ⟨il, trivial⟩, ?_⟩
 refine so 7 ?_
 refine ecn Hz Tryz.func60 rfl m62 24 (rputItems_x items _ _ _ _ ((h1.now' m62 rfl).any) (by have := hc.il; omega) (fun e he => by have := hc.ib e he; omega)) fun p63 c63 Az w63 Hz m64 => ?_
 refine ⟨m64.to ⟨il, trivial⟩, ?_⟩
 refine so 8 ?_
 refine e_appN Hz m64 22 rfl rfl rfl (m64.numsO (i := 24) rfl) U22 fct19 (by decide) (by have := hc.lens; simp only [List.length_append] at *; omega) rfl fun p66 c66 Az w67 Hz m67 => ?_
 refine ⟨m67.to ⟨il, trivial⟩, ?_⟩
 refine goA hP52 [9, 10] 2 511 2047 Hz (m67.to ⟨il, trivial⟩) (.assign rfl <| .assign rfl .nil) fun Az Hz => ?_
 refine wpAnyE_done (by kernel_rfl) ?_ _
 refine hK4 _ _ ?_
 refine rt2 Hz ?_
 have m70 := m67.freezeN 22 rfl
 exact ⟨_, _, rfl, m70.outF (i := 22) rfl, m70.below⟩
theorem rreadCmd_x (X : Cx) (kd vo bl sz pe to at0 ix : Int) (place : List Int) (items : List (Int × List Int)) (p : Option Addr) (c : Nat) (w0 : World) (hc : CmdOk kd vo bl sz pe to at0 ix place items) (m0 : MemOk X w0 [(1, .dat (.slice p (cmdE kd vo bl sz pe to at0 ix place items).length c) (.ns .u8 (cmdE kd vo bl sz pe to at0 ix place items)))] w0) :
   Calls Tryz.prog 62 #[.slice p (cmdE kd vo bl sz pe to at0 ix place items).length c] w0 fun e w' => ∃ (pp : Option Addr) (cp : Nat) (pi : Option Addr) (ci : Nat), e = .returned (.tuple #[.agg #[.int .i64 kd, .int .i64 vo, .int .i64 bl, .int .i64 sz, .int .i64 pe, .slice pp place.length cp, .int .i64 to, .int .i64 at0, .int .i64 ix, .slice pi items.length ci], .int .i64 0]) ∧ MemOk X w0 [(1, .dat (.slice pp place.length cp) (.ns .i64 place)), (2, .dat (.slice pi (items.map itD).length ci) (.l 2 (items.map itD)))] w' := by
 refine ent1 Tryz.func62 rfl Tryz.ntmps62 fun Az Hz => ?_
 obtain ⟨T9, hT9⟩ : ∃ x, encs ((place.length : Int) :: place) ++ (enc items.length ++ itemsE items) = x := ⟨_, rfl⟩
 have hE : cmdE kd vo bl sz pe to at0 ix place items = (encs [kd, vo, bl, sz, pe, to, at0, ix] ++ T9) := by rw [← hT9]; rfl
 have hl0 : ((encs [kd, vo, bl, sz, pe, to, at0, ix] ++ T9)).length ≤ 1000000 := by rw [← hE]; have := hc.len; omega
 have hb0 : BytesL ((encs [kd, vo, bl, sz, pe, to, at0, ix] ++ T9)) := by rw [← hE]; exact hc.bytes
 rw [hE] at m0 Hz
 refine zsr fun K0 hK0 => ?_
 refine plz (e_alloc Hz m0 20 fct7 rfl fun g1 Az w2 Hz m2 _ _ => ?_)
 refine gz hK0 Hz (.assign rfl .nil) fun Az Hz => ?_
 refine zsr fun K1 hK1 => ?_
 refine goCh Hz (.move rfl <| .build rfl fct39 fl154xrC rfl (by dsimp only [setL, List.set] <;> rfl) .nil) fun Az Hz => ?_
 refine plz (e_box Hz m2 21 (cs := [_, _]) rfl rfl rfl fun g8 Az w9 Hz m9 _ _ => ?_)
 refine gz hK1 Hz (.assign rfl .nil) fun Az Hz => ?_
 refine zsr fun K2 hK2 => ?_
 refine plz (e_alloc Hz m9 22 fct7 rfl fun g11 Az w12 Hz m12 _ _ => ?_)
 refine znl (hK2 _ _ ?_)
 refine zsr fun K3 hK3 => ?_
 refine goCh Hz (.move rfl .nil) fun Az Hz => ?_
 have m15 := m12.dat 23 rfl (m12.rd (i := 1) rfl)
 refine plz (ecl Hz Tryz.func91 rfl (rnum_ok _ _ _ 8 _ _ _ kd (encs [vo, bl, sz, pe, to, at0, ix] ++ T9) hl0 hb0 (by rw [encs_cons, List.append_assoc]) (by decide) (by have := hc.kd; have := hc.vo; have := hc.t40; omega) (m15.into [(1, 21), (2, 23)] (by decide) rfl)) ?_)
 rintro e w16 ⟨p16, c16, rfl, hm16⟩
 have mx16 := m15.back hm16 [(21, 1), (24, 2)] (by decide); clear hm16 m15
 have m16 := mx16.oz [21, 24, 1, 20, 22]
 refine ⟨_, rfl, ?_⟩; intro Az Hz
 have hl1 : ((encs [vo, bl, sz, pe, to, at0, ix] ++ T9)).length ≤ 1000000 := by have h9 := hl0; rw [encs_cons, List.append_assoc, List.length_append] at h9; omega
 have hb1 : BytesL ((encs [vo, bl, sz, pe, to, at0, ix] ++ T9)) := bytes_r (by have h9 := hb0; rw [encs_cons, List.append_assoc] at h9; exact h9)
 refine goCh Hz (.conv rfl U149 U3 (by have := hc.kd; have := hc.vo; have := hc.t40; exact IntWalk.i64_in _ (by omega)) <| .fa 0 rfl U81 .nil) fun Az Hz => ?_
 refine plz (st1 Hz m16 22 fct23 fun w20 m20 _ => ?_)
 refine znl (hK3 _ _ ?_)
 replace Hz := Hz.oz [0, 2, 3, 4, 5]
 refine zsr fun K4 hK4 => ?_
 refine goCh Hz (.move rfl .nil) fun Az Hz => ?_
 refine plz (ecl Hz Tryz.func91 rfl (rnum_ok _ _ _ 8 _ _ _ vo (encs [bl, sz, pe, to, at0, ix] ++ T9) hl1 hb1 (by rw [encs_cons, List.append_assoc]) (by decide) (by have := hc.kd; have := hc.vo; have := hc.t40; omega) (m20.into [(1, 21), (2, 24)] (by decide) rfl)) ?_)
 rintro e w24 ⟨p24, c24, rfl, hm24⟩
 have mx24 := m20.back hm24 [(21, 1), (25, 2)] (by decide); clear hm24 m20
 have m24 := mx24.oz [21, 25, 1, 20, 22]
 refine ⟨_, rfl, ?_⟩; intro Az Hz
 have hl2 : ((encs [bl, sz, pe, to, at0, ix] ++ T9)).length ≤ 1000000 := by have h9 := hl1; rw [encs_cons, List.append_assoc, List.length_append] at h9; omega
 have hb2 : BytesL ((encs [bl, sz, pe, to, at0, ix] ++ T9)) := bytes_r (by have h9 := hb1; rw [encs_cons, List.append_assoc] at h9; exact h9)
 refine goCh Hz (.conv rfl U149 U3 (by have := hc.kd; have := hc.vo; have := hc.t40; exact IntWalk.i64_in _ (by omega)) <| .fa 1 rfl U81 .nil) fun Az Hz => ?_
 refine plz (st1 Hz m24 22 fct23 fun w28 m28 _ => ?_)
 refine znl (hK4 _ _ ?_)
 refine zsr fun K5 hK5 => ?_
 refine goCh Hz (.move rfl .nil) fun Az Hz => ?_
 refine plz (ecl Hz Tryz.func91 rfl (rnum_ok _ _ _ 1099511627776 _ _ _ bl (encs [sz, pe, to, at0, ix] ++ T9) hl2 hb2 (by rw [encs_cons, List.append_assoc]) (by decide) (by have := hc.kd; have := hc.vo; have := hc.t40; omega) (m28.into [(1, 21), (2, 25)] (by decide) rfl)) ?_)
 rintro e w31 ⟨p31, c31, rfl, hm31⟩
 have mx31 := m28.back hm31 [(21, 1), (26, 2)] (by decide); clear hm31 m28
 have m31 := mx31.oz [21, 26, 1, 20, 22]
 refine ⟨_, rfl, ?_⟩; intro Az Hz
 have hl3 : ((encs [sz, pe, to, at0, ix] ++ T9)).length ≤ 1000000 := by have h9 := hl2; rw [encs_cons, List.append_assoc, List.length_append] at h9; omega
 have hb3 : BytesL ((encs [sz, pe, to, at0, ix] ++ T9)) := bytes_r (by have h9 := hb2; rw [encs_cons, List.append_assoc] at h9; exact h9)
 refine goCh Hz (.conv rfl U149 U3 (by have := hc.kd; have := hc.vo; have := hc.t40; exact IntWalk.i64_in _ (by omega)) <| .fa 2 rfl U81 .nil) fun Az Hz => ?_
 refine plz (st1 Hz m31 22 fct23 fun w35 m35 _ => ?_)
 refine znl (hK5 _ _ ?_)
 replace Hz := Hz.oz [0, 2, 3, 4, 5]
 refine zsr fun K6 hK6 => ?_
 refine goCh Hz (.move rfl .nil) fun Az Hz => ?_
 refine plz (ecl Hz Tryz.func91 rfl (rnum_ok _ _ _ 1099511627776 _ _ _ sz (encs [pe, to, at0, ix] ++ T9) hl3 hb3 (by rw [encs_cons, List.append_assoc]) (by decide) (by have := hc.kd; have := hc.vo; have := hc.t40; omega) (m35.into [(1, 21), (2, 26)] (by decide) rfl)) ?_)
 rintro e w39 ⟨p39, c39, rfl, hm39⟩
 have mx39 := m35.back hm39 [(21, 1), (27, 2)] (by decide); clear hm39 m35
 have m39 := mx39.oz [21, 27, 1, 20, 22]
 refine ⟨_, rfl, ?_⟩; intro Az Hz
 have hl4 : ((encs [pe, to, at0, ix] ++ T9)).length ≤ 1000000 := by have h9 := hl3; rw [encs_cons, List.append_assoc, List.length_append] at h9; omega
 have hb4 : BytesL ((encs [pe, to, at0, ix] ++ T9)) := bytes_r (by have h9 := hb3; rw [encs_cons, List.append_assoc] at h9; exact h9)
 refine goCh Hz (.conv rfl U149 U3 (by have := hc.kd; have := hc.vo; have := hc.t40; exact IntWalk.i64_in _ (by omega)) <| .fa 3 rfl U81 .nil) fun Az Hz => ?_
 refine plz (st1 Hz m39 22 fct23 fun w43 m43 _ => ?_)
 refine znl (hK6 _ _ ?_)
 refine zsr fun K7 hK7 => ?_
 refine goCh Hz (.move rfl .nil) fun Az Hz => ?_
 refine plz (ecl Hz Tryz.func91 rfl (rnum_ok _ _ _ 1099511627776 _ _ _ pe (encs [to, at0, ix] ++ T9) hl4 hb4 (by rw [encs_cons, List.append_assoc]) (by decide) (by have := hc.kd; have := hc.vo; have := hc.t40; omega) (m43.into [(1, 21), (2, 27)] (by decide) rfl)) ?_)
 rintro e w46 ⟨p46, c46, rfl, hm46⟩
 have mx46 := m43.back hm46 [(21, 1), (28, 2)] (by decide); clear hm46 m43
 have m46 := mx46.oz [21, 28, 1, 20, 22]
 refine ⟨_, rfl, ?_⟩; intro Az Hz
 have hl5 : ((encs [to, at0, ix] ++ T9)).length ≤ 1000000 := by have h9 := hl4; rw [encs_cons, List.append_assoc, List.length_append] at h9; omega
 have hb5 : BytesL ((encs [to, at0, ix] ++ T9)) := bytes_r (by have h9 := hb4; rw [encs_cons, List.append_assoc] at h9; exact h9)
 refine goCh Hz (.conv rfl U149 U3 (by have := hc.kd; have := hc.vo; have := hc.t40; exact IntWalk.i64_in _ (by omega)) <| .fa 4 rfl U81 .nil) fun Az Hz => ?_
 refine plz (st1 Hz m46 22 fct23 fun w50 m50 _ => ?_)
 refine znl (hK7 _ _ ?_)
 replace Hz := Hz.oz [0, 2, 3, 4, 5]
 refine zsr fun K8 hK8 => ?_
 refine goCh Hz (.move rfl .nil) fun Az Hz => ?_
 refine plz (ecl Hz Tryz.func91 rfl (rnum_ok _ _ _ 1099511627776 _ _ _ to (encs [at0, ix] ++ T9) hl5 hb5 (by rw [encs_cons, List.append_assoc]) (by decide) (by have := hc.kd; have := hc.vo; have := hc.t40; omega) (m50.into [(1, 21), (2, 28)] (by decide) rfl)) ?_)
 rintro e w54 ⟨p54, c54, rfl, hm54⟩
 have mx54 := m50.back hm54 [(21, 1), (29, 2)] (by decide); clear hm54 m50
 have m54 := mx54.oz [21, 29, 1, 20, 22]
 refine ⟨_, rfl, ?_⟩; intro Az Hz
 have hl6 : ((encs [at0, ix] ++ T9)).length ≤ 1000000 := by have h9 := hl5; rw [encs_cons, List.append_assoc, List.length_append] at h9; omega
 have hb6 : BytesL ((encs [at0, ix] ++ T9)) := bytes_r (by have h9 := hb5; rw [encs_cons, List.append_assoc] at h9; exact h9)
 refine goCh Hz (.conv rfl U149 U3 (by have := hc.kd; have := hc.vo; have := hc.t40; exact IntWalk.i64_in _ (by omega)) <| .fa 6 rfl U81 .nil) fun Az Hz => ?_
 refine plz (st1 Hz m54 22 fct23 fun w58 m58 _ => ?_)
 refine znl (hK8 _ _ ?_)
 refine zsr fun K9 hK9 => ?_
 refine goCh Hz (.move rfl .nil) fun Az Hz => ?_
 refine plz (ecl Hz Tryz.func91 rfl (rnum_ok _ _ _ 1099511627776 _ _ _ at0 (encs [ix] ++ T9) hl6 hb6 (by rw [encs_cons, List.append_assoc]) (by decide) (by have := hc.kd; have := hc.vo; have := hc.t40; omega) (m58.into [(1, 21), (2, 29)] (by decide) rfl)) ?_)
 rintro e w61 ⟨p61, c61, rfl, hm61⟩
 have mx61 := m58.back hm61 [(21, 1), (30, 2)] (by decide); clear hm61 m58
 have m61 := mx61.oz [21, 30, 1, 20, 22]
 refine ⟨_, rfl, ?_⟩; intro Az Hz
 have hl7 : ((encs [ix] ++ T9)).length ≤ 1000000 := by have h9 := hl6; rw [encs_cons, List.append_assoc, List.length_append] at h9; omega
 have hb7 : BytesL ((encs [ix] ++ T9)) := bytes_r (by have h9 := hb6; rw [encs_cons, List.append_assoc] at h9; exact h9)
 refine goCh Hz (.conv rfl U149 U2 (by have := hc.kd; have := hc.vo; have := hc.t40; exact IntWalk.i64_in _ (by omega)) <| .fa 7 rfl U81 .nil) fun Az Hz => ?_
 refine plz (st1 Hz m61 22 fct10 fun w65 m65 _ => ?_)
 refine znl (hK9 _ _ ?_)
 replace Hz := Hz.oz [0, 2, 3, 4, 5]
 refine zsr fun K10 hK10 => ?_
 refine goCh Hz (.move rfl .nil) fun Az Hz => ?_
 refine plz (ecl Hz Tryz.func91 rfl (rnum_ok _ _ _ 1099511627776 _ _ _ ix T9 hl7 hb7 (by rw [encs_one]) (by decide) (by have := hc.kd; have := hc.vo; have := hc.t40; omega) (m65.into [(1, 21), (2, 30)] (by decide) rfl)) ?_)
 rintro e w69 ⟨p69, c69, rfl, hm69⟩
 have mx69 := m65.back hm69 [(21, 1), (31, 2)] (by decide); clear hm69 m65
 have m69 := mx69.oz [21, 31, 1, 20, 22]
 refine ⟨_, rfl, ?_⟩; intro Az Hz
 have hl8 : (T9).length ≤ 1000000 := by have h9 := hl7; rw [encs_one, List.length_append] at h9; omega
 have hb8 : BytesL (T9) := bytes_r (by have h9 := hb7; rw [encs_one] at h9; exact h9)
 refine goCh Hz (.conv rfl U149 U3 (by have := hc.kd; have := hc.vo; have := hc.t40; exact IntWalk.i64_in _ (by omega)) <| .fa 8 rfl U81 .nil) fun Az Hz => ?_
 refine plz (st1 Hz m69 22 fct23 fun w73 m73 _ => ?_)
 refine znl (hK10 _ _ ?_)
 refine zsr fun K11 hK11 => ?_
 refine goCh Hz (.move rfl .nil) fun Az Hz => ?_
 refine plz (ecl Hz Tryz.func92 rfl (rtakePlace_x _ _ _ _ _ _ place (enc items.length ++ itemsE items) hl8 hb8 (by rw [← hT9, encs_cons, List.append_assoc]) hc.pl (fun k hk => by have := hc.pb k hk; omega) (m73.into [(1, 21), (2, 31)] (by decide) rfl)) ?_)
 rintro e w76 ⟨p76, c76, p376, c376, rfl, hm76⟩
 have mx76 := m73.back hm76 [(21, 1), (32, 2), (33, 3)] (by decide); clear hm76 m73
 have m76 := mx76.oz [21, 32, 33, 1, 20, 22]
 refine ⟨_, rfl, ?_⟩; intro Az Hz
 have hl9 : (enc items.length ++ itemsE items).length ≤ 1000000 := by have h9 := hl8; rw [← hT9, List.length_append] at h9; omega
 have hb9 : BytesL (enc items.length ++ itemsE items) := bytes_r (by have h9 := hb8; rw [← hT9] at h9; exact h9)
 refine goCh Hz (.fieldAddr (off := 5) rfl U81 rfl (s := 0) (by kernel_rfl) rfl .nil) fun Az Hz => ?_
 refine plz (st1 Hz m76 22 fct38 fun w79 m79 _ => ?_)
 refine znl (hK11 _ _ ?_)
 replace Hz := Hz.oz [0, 2, 3, 4, 5]
 refine zsr fun K12 hK12 => ?_
 refine goCh Hz (.move rfl .nil) fun Az Hz => ?_
 refine plz (ecl Hz Tryz.func93 rfl (rtakeItems_x _ _ _ _ _ _ items [] hl9 hb9 (by rw [List.append_nil]) hc.il (fun e he => by have := hc.ib e he; omega) (m79.into [(1, 21), (2, 32)] (by decide) rfl)) ?_)
 rintro e w83 ⟨p83, c83, p383, c383, rfl, hm83⟩
 have mx83 := m79.back hm83 [(21, 1), (34, 2), (35, 3)] (by decide); clear hm83 m79
 have m83 := mx83.oz [21, 34, 35, 1, 20, 22, 33]
 refine ⟨_, rfl, ?_⟩; intro Az Hz
 refine goCh Hz (.fieldAddr (off := 9) rfl U81 rfl (s := 0) (by kernel_rfl) rfl .nil) fun Az Hz => ?_
 refine plz (st1 Hz m83 22 fct31 fun w86 m86 _ => ?_)
 refine znl (hK12 _ _ ?_)
 refine zsr fun K13 hK13 => ?_
 refine goCh Hz (.loadBR m86 (i := 22) rfl rfl U81 rfl fct5 (by simp) (by dsimp only [List.drop, List.take] <;> rfl) .nil) fun Az Hz => ?_
 refine plz (ecl Hz Tryz.func29 rfl (rputCmd_x kd vo bl sz pe to at0 ix place items _ _ _ _ _ _ ((m86.rd (i := 33) rfl).any) ((m86.rd (i := 35) rfl).any) hc) ?_)
 rintro e w89 ⟨p89, c89, rfl, ho89, hb89⟩
 have m90 := m86.callD 36 rfl hb89 (ho89.cast (fun b hb => Or.inr hb))
 refine ⟨_, rfl, ?_⟩; intro Az Hz
 refine gz hK13 Hz (.move rfl <| .extract rfl rfl <| .extract rfl rfl <| .assign rfl <| .assign rfl <| .nil) fun Az Hz => ?_
 refine wsk fun K14 hK14 => ?_
 replace Hz := Hz.oz [0, 2, 3, 4, 5, 6, 7]
 refine zsr fun K15 hK15 => ?_
 refine goCh Hz (.move rfl <| .nilCheck rfl <| .fa 1 rfl U154 <| .lb m90 21 U3 rfl rfl rfl <| .neq rfl rfl <| .move rfl .nil) fun Az Hz => ?_
 refine bc Hz 59 ?_ ?_
 · intro hb _; exact absurd hb (by simp)
 clear Hz; intro _ Hz
 refine goCh Hz (.moveZ rfl <| .neqZ rfl rfl <| .pickF rfl rfl <| .move rfl .nil) fun Az Hz => ?_
 refine bc Hz 63 ?_ ?_
 · intro hb _; exact absurd hb (by simp)
 clear Hz; intro _ Hz
 refine gz hK15 Hz (.moveZ rfl <| .strZ rfl (m90.nums (i := 36) rfl) U22 U5 U9 <| .moveZ rfl <| .strZ rfl (m90.nums (i := 1) rfl) U22 U5 U9 <| .neqSZ rfl rfl <| .pickF rfl rfl <| .nil) fun Az Hz => ?_
 refine bc Hz 69 ?_ ?_
 · intro hb _; exact absurd hb (by rw [hE]; simp)
 clear Hz; intro _ Hz
 refine wcf Hz ?_
 refine zss (hK14 _ _ ?_)
 replace Hz := Hz.oz [2, 3, 5]
 refine zsr fun K16 hK16 => ?_
 refine goCh Hz (.loadBR m90 (i := 22) rfl rfl U81 rfl fct5 (by simp) (by dsimp only [List.drop, List.take] <;> rfl) .nil) fun Az Hz => ?_
 refine plz (stw Hz m90 20 fct5 fun w126 m126 _ => ?_)
 refine gz hK16 Hz (.assign rfl .nil) fun Az Hz => ?_
 refine rtd (retCT (fn := Tryz.f62) Hz m126 (i := 20) rfl rfl rfl rfl U81 rfl fct5 ?_)
 exact ⟨_, _, _, _, by rw [List.length_map], m126.ren [(1, 33), (2, 35)] (by decide)⟩
end
section
set_option maxRecDepth 100000
set_option maxHeartbeats 4000000
theorem rfind_x (X : Cx) (B : Nat) (L : List VolV) (p : Option Addr) (c : Nat) (vo : Int) (w0 : World) (hl : L.length ≤ 1000000) (m0 : MemOk X w0 [(1, .box B 75 [.slice p (L.map volD).length c]), (2, .dat (.slice p (L.map volD).length c) (.l 11 (L.map volD)))] w0) :
   Calls Tryz.prog 56 #[.pointer (some ⟨B, 0, none⟩), .int .i64 vo] w0 fun e w' => ∃ j : Int, e = .returned (.int .i64 j) ∧ ((j = -1 ∧ ∀ (j : Nat) (e : VolV), L[j]? = some e → e.vo ≠ vo) ∨ ∃ (k : Nat) (e : VolV), j = (k : Int) ∧ L[k]? = some e ∧ e.vo = vo) ∧ MemOk X w0 [(1, .box B 75 [.slice p (L.map volD).length c]), (2, .dat (.slice p (L.map volD).length c) (.l 11 (L.map volD)))] w' := by
 refine ent2 Tryz.func56 rfl Tryz.ntmps56 fun Az Hz => ?_
 refine regS Hz (.assign rfl .nil) fun Az Hz => ?_
 refine wsk fun K0 hK0 => ?_
 refine regS Hz (.assign rfl .nil) fun Az Hz => ?_
 refine wp_block ?_
 refine wp_loop_ghost (fun g a w => ∃ (k : Nat), k ≤ L.length ∧ g = L.length - k ∧ (∀ (j : Nat) (e : VolV), j < k → L[j]? = some e → e.vo ≠ vo) ∧ Has 26 [(0, .pointer (some ⟨B, 0, none⟩)), (1, .int .i64 vo), (5, .int .i64 k)] a ∧ MemOk X w0 [(1, .box B 75 [.slice p (L.map volD).length c]), (2, .dat (.slice p (L.map volD).length c) (.l 11 (L.map volD)))] w) (L.length) ?_ ?_
 · exact ⟨0, Nat.zero_le _, rfl, fun j e h => by omega, Hz.only [0, 1, 5], m0.only [1, 2]⟩
 clear Hz m0
 rintro g Az w3 ⟨k, hkl, hg, hno, Hz, m3⟩
 refine wsk fun K1 hK1 => ?_
 refine regS Hz (.move rfl <| .move rfl <| .nilCheck rfl <| .fa 0 rfl U75 <| .lb m3 1 U73 rfl rfl rfl <| .len rfl U73 <| .lss rfl rfl .nil) fun Az Hz => ?_
 refine bc Hz 12 ?_ ?_
 ·
  intro hb11 Hz; try simp only [QQ, Qax] at hb11
  have hk : k < L.length := by have := hb11; simp at this; omega
  obtain ⟨x9, hes⟩ : ∃ x, L[k]? = some x := ⟨_, List.getElem?_eq_getElem (by simpa using hk)⟩
  refine wct Hz ?_
  refine zss (hK1 _ _ ?_)
  refine wsk fun K2 hK2 => ?_
  refine wp_block ?_
  replace Hz := Hz.oz [0, 1, 5]
  refine zsr fun K3 hK3 => ?_
  refine goCh Hz (.move rfl <| .nilCheck rfl <| .fa 0 rfl U75 <| .lb m3 1 U73 rfl rfl rfl <| .move rfl .nil) fun Az Hz => ?_
  obtain ⟨b24, o24, vs24, hp24, hR24, ho24, m24⟩ := m3.openR (i := 2) rfl (k) (r := [.v (.int .i64 x9.vo), .v (.int .i64 x9.bl), .v (.int .i64 x9.sz), .v (.int .i64 x9.pe), .ns .i64 x9.place, .v (.int .i64 x9.to), .v (.int .i64 x9.ne), .v (.bool x9.hi), .v (.int .i64 x9.fl), .ns .i64 x9.pins, .l 2 (x9.ws.map wrD)]) (volD_get hes) 100 rfl
  revert Hz
  cases hp24; clear m3 ho24
  rcases hR24 with _ | ⟨hd24_0, _ | ⟨hd24_1, _ | ⟨hd24_2, _ | ⟨hd24_3, _ | ⟨hd24_4, _ | ⟨hd24_5, _ | ⟨hd24_6, _ | ⟨hd24_7, _ | ⟨hd24_8, _ | ⟨hd24_9, _ | ⟨hd24_10, _ | _⟩⟩⟩⟩⟩⟩⟩⟩⟩⟩⟩
  obtain rfl := hd24_0.v_out
  clear hd24_0
  obtain rfl := hd24_1.v_out
  clear hd24_1
  obtain rfl := hd24_2.v_out
  clear hd24_2
  obtain rfl := hd24_3.v_out
  clear hd24_3
  obtain ⟨p25, c25, hv25, hc25⟩ := hd24_4.ns_shape; subst hv25
  intro Hz
  have m25 := m24.dat 101 rfl (hd24_4.cast (fun _ h => (free_add rfl h))); clear m24 hd24_4
  revert Hz
  obtain rfl := hd24_5.v_out
  clear hd24_5
  obtain rfl := hd24_6.v_out
  clear hd24_6
  obtain rfl := hd24_7.v_out
  clear hd24_7
  obtain rfl := hd24_8.v_out
  clear hd24_8
  obtain ⟨p26, c26, hv26, hc26⟩ := hd24_9.ns_shape; subst hv26
  intro Hz
  have m26 := m25.dat 102 rfl (hd24_9.cast (fun _ h => (free_add rfl (free_add rfl h)))); clear m25 hd24_9
  revert Hz
  obtain ⟨p27, c27, hv27, hc27⟩ := hd24_10.l_shape; subst hv27
  intro Hz
  have m27 := m26.dat 103 rfl (hd24_10.cast (fun _ h => (free_add rfl (free_add rfl (free_add rfl h))))); clear m26 hd24_10
  refine gz hK3 Hz (.c rfl (fun _ h_ => y_idx h_ rfl rfl U73 fct1 (k) rfl (by simpa using hk)) <| .fieldAddrQ 0 rfl U33 rfl (s := 0) (by kernel_rfl) rfl <| .loadC0 m27 (i := 100) rfl rfl U3 rfl <| .move rfl <| .eql rfl rfl <| .nil) fun Az Hz => ?_
  refine bc Hz 24 ?_ ?_
  ·
   intro hb33 Hz; try simp only [QQ, Qax] at hb33
   have heq9 : x9.vo = vo := by simpa using hb33
   refine wct Hz ?_
   replace Hz := Hz.oz [0, 1, 5]
   refine regS Hz (.move rfl <| .assign rfl .nil) fun Az Hz => ?_
   refine rt1 Hz ?_
   first | exact ⟨k, rfl, Or.inr ⟨k, x9, rfl, hes, heq9⟩, m27.only [1, 2]⟩ | exact ⟨-1, rfl, Or.inl ⟨rfl, fun j e he => hno j e (by have := (List.getElem?_eq_some_iff.1 he).1; omega) he⟩, m27.only [1, 2]⟩
  intro hb33 Hz; try simp only [QQ, Qax] at hb33
  have hne9 : x9.vo ≠ vo := by simpa using hb33
  refine wcf Hz ?_
  refine zss (hK2 _ _ ?_)
  replace Hz := Hz.oz [0, 1, 5]
  refine wp_region_lit ?_
  refine goCh Hz (.move rfl <| .inc (k + 1) <| .assign rfl .nil) fun Az Hz => ?_
  refine wpList_nil ?_
  show ∃ n', n' < _ ∧ _
  exact ⟨L.length - (k + 1), by omega, k + 1, by omega, rfl, fun j e hj he => (Nat.lt_or_eq_of_le (Nat.le_of_lt_succ hj)).elim (fun h1 => hno j e h1 he) (fun h1 => by subst h1; rw [hes] at he; obtain rfl := Option.some.inj he; exact hne9), Hz.only [0, 1, 5], m27.only [1, 2]⟩
 intro hb11 Hz; try simp only [QQ, Qax] at hb11
 have hkE : k = L.length := by have := hb11; simp at this; omega
 refine wcf Hz ?_
 refine wp_exit ?_
 refine hK0 _ _ ?_
 replace Hz := Hz.oz [0, 1, 5]
 refine regS Hz (.assign rfl .nil) fun Az Hz => ?_
 refine rt1 Hz ?_
 first | exact ⟨k, rfl, Or.inr ⟨k, x9, rfl, hes, heq9⟩, m3.only [1, 2]⟩ | exact ⟨-1, rfl, Or.inl ⟨rfl, fun j e he => hno j e (by have := (List.getElem?_eq_some_iff.1 he).1; omega) he⟩, m3.only [1, 2]⟩
end
section
theorem fl84xan : flatS Tryz.prog 84 [.int .i64 0, .int .i64 0, .int .i64 0, .int .i64 0, .slice none 0 0] = true := by kernel_rfl
theorem rread_y (X : Cx) (kd vo bl sz pe to at0 ix : Int) (place : List Int) (items : List (Int × List Int)) (p : Option Addr) (c : Nat) (w0 : World) (hc : CmdOk kd vo bl sz pe to at0 ix place items) (m0 : MemOk X w0 [(1, .dat (.slice p (cmdE kd vo bl sz pe to at0 ix place items).length c) (.ns .u8 (cmdE kd vo bl sz pe to at0 ix place items)))] w0) :
   Calls Tryz.prog 62 #[.slice p (cmdE kd vo bl sz pe to at0 ix place items).length c] w0 fun e w' => ∃ (pp : Option Addr) (cp : Nat) (pi : Option Addr) (ci : Nat), e = .returned (.tuple #[.agg #[.int .i64 kd, .int .i64 vo, .int .i64 bl, .int .i64 sz, .int .i64 pe, .slice pp place.length cp, .int .i64 to, .int .i64 at0, .int .i64 ix, .slice pi items.length ci], .int .i64 0]) ∧ MemOk X w0 [(1, .dat (.slice pp place.length cp) (.ns .i64 place)), (2, .dat (.slice pi items.length ci) (.l 2 (items.map itD)))] w' := by
 refine (rreadCmd_x X kd vo bl sz pe to at0 ix place items p c w0 hc m0).mono ?_
 rintro e w' ⟨pp, cp, pi, ci, rfl, m⟩
 rw [List.length_map] at m
 exact ⟨pp, cp, pi, ci, rfl, m⟩
def DoY (x y : VolV) (kd at0 ix : Int) (its : List (Int × List Int)) (e9 : Int) : Prop := y.vo = x.vo ∧ y.bl = x.bl ∧ y.sz = x.sz ∧ y.pe = x.pe ∧ y.place = x.place ∧ y.to = x.to ∧ y.pins = x.pins ∧ doR x.bl x.sz x.to x.ne x.fl x.hi x.pins x.ws kd at0 ix its = (y.ne, y.hi, y.fl, y.ws, e9)
set_option maxRecDepth 100000
set_option maxHeartbeats 4000000
theorem rapply_new (X : Cx) (B : Nat) (L : List VolV) (p : Option Addr) (c : Nat) (vo bl sz pe to at0 ix : Int) (place : List Int) (items : List (Int × List Int)) (pb : Option Addr) (cb : Nat) (w0 : World) (hL : L = []) (hN : NewOk vo bl sz pe to place) (hc : CmdOk 1 vo bl sz pe to at0 ix place items) (m0 : MemOk X w0 [(1, .box B 75 [.slice p (L.map volD).length c]), (2, .dat (.slice p (L.map volD).length c) (.l 11 (L.map volD))), (3, .dat (.slice pb (cmdE 1 vo bl sz pe to at0 ix place items).length cb) (.ns .u8 (cmdE 1 vo bl sz pe to at0 ix place items)))] w0) :
   Calls Tryz.prog 31 #[.pointer (some ⟨B, 0, none⟩), .slice pb (cmdE 1 vo bl sz pe to at0 ix place items).length cb] w0 fun e w' => ∃ (p' : Option Addr) (c' : Nat), e = .returned (.agg #[.int .i64 0, .int .i64 0, .int .i64 0, .int .i64 0, .slice none 0 0]) ∧ MemOk X w0 [(1, .box B 75 [.slice p' ([newV vo bl sz pe to place].map volD).length c']), (2, .dat (.slice p' ([newV vo bl sz pe to place].map volD).length c') (.l 11 ([newV vo bl sz pe to place].map volD)))] w' := by
 refine ent2 Tryz.func31 rfl Tryz.ntmps31 fun Az Hz => ?_
 have hl : L.length ≤ 1000000 := by rw [hL]; simp
 have hlm : (L.map volD).length ≤ 1000000 := by simpa using hl
 have hpl := hc.pl
 refine zsr fun K0 hK0 => ?_
 refine plz (e_alloc Hz m0 20 fct8 rfl fun g1 Az w2 Hz m2 _ _ => ?_)
 refine znl (hK0 _ _ ?_)
 refine zsr fun K1 hK1 => ?_
 refine goCh Hz (.move rfl .nil) fun Az Hz => ?_
 refine plz (ecl Hz Tryz.func62 rfl (rread_y _ 1 vo bl sz pe to at0 ix place items _ _ _ hc (m2.into [(1, 3)] (by decide) rfl)) ?_)
 rintro e w5 ⟨pp5, cp5, pi5, ci5, rfl, hm5⟩
 have mx5 := m2.back hm5 [(21, 1), (22, 2)] (by decide); clear hm5 m2
 have m5 := mx5.oz [21, 22, 1, 2, 20]
 refine ⟨_, rfl, ?_⟩; intro Az Hz
 refine goCh Hz (.move rfl <| .extract rfl rfl <| .extract rfl rfl .nil) fun Az Hz => ?_
 refine plz (e_alloc Hz m5 23 fct7 rfl fun g10 Az w11 Hz m11 _ _ => ?_)
 refine plz (stw Hz m11 23 fct5 fun w12 m12 _ => ?_)
 refine gz hK1 Hz (.assign rfl .nil) fun Az Hz => ?_
 refine wsk fun K2 hK2 => ?_
 replace Hz := Hz.oz [0, 4, 5, 6]
 refine regS Hz (.move rfl <| .neq rfl rfl .nil) fun Az Hz => ?_
 refine bc Hz 19 ?_ ?_
 · intro hb _; exact absurd hb (by simp)
 clear Hz; intro _ Hz
 refine wcf Hz ?_
 refine zss (hK2 _ _ ?_)
 refine zsr fun K3 hK3 => ?_
 refine goCh Hz (.move rfl <| .fa 1 rfl U81 <| .lb m12 23 U3 rfl rfl rfl .nil) fun Az Hz => ?_
 refine plz (ecl Hz Tryz.func56 rfl (rfind_x _ _ L _ _ _ _ hl (m12.into [(1, 1), (2, 2)] (by decide) rfl)) ?_)
 rintro e w24 ⟨j, rfl, hj, hm24⟩
 have mx24 := m12.back hm24 [(1, 1), (2, 2)] (by decide); clear hm24 m12
 have m24 := mx24.oz [1, 2, 20, 21, 22, 23]
 refine ⟨_, rfl, ?_⟩; intro Az Hz
 obtain rfl : j = -1 := by
   rcases hj with ⟨h, -⟩ | ⟨k, e, rfl, h1, h2⟩
   · exact h
   rw [hL] at h1; simp at h1
 refine gz hK3 Hz (.assign rfl .nil) fun Az Hz => ?_
 replace Hz := Hz.oz [0, 4, 5, 7]
 refine zsr fun K4 hK4 => ?_
 refine goCh Hz (.move rfl <| .nilCheck rfl <| .fa 0 rfl U75 <| .lb m24 1 U73 rfl rfl rfl .nil) fun Az Hz => ?_
 have m36 := m24.nilR 24 33 11
 refine plz (e_appR Hz m36 24 rfl rfl rfl (m36.rd (i := 2) rfl) U73 fct3 rfl rfl (by decide) (by simp; omega) rfl fun p37 c37 Az w38 Hz m38 => ?_)
 refine gz hK4 Hz (.assign rfl .nil) fun Az Hz => ?_
 refine wsk fun K5 hK5 => ?_
 refine regS Hz (.fa 0 rfl U81 <| .lb m38 23 U3 rfl rfl rfl <| .eql rfl rfl .nil) fun Az Hz => ?_
 refine bc Hz 32 ?_ ?_
 rotate_left
 · intro hb _; exact absurd hb (by simp)
 clear Hz; intro _ Hz
 refine wct Hz ?_
 refine wsk fun K6 hK6 => ?_
 replace Hz := Hz.oz [0, 4, 5, 7, 8]
 refine zsr fun K7 hK7 => ?_
 have m46 := m38.freezeR 24 rfl
 refine gz hK7 Hz (.move rfl <| .geq rfl rfl <| .nil) fun Az Hz => ?_
 refine bc Hz 34 ?_ ?_
 · intro hb _; exact absurd hb (by simp)
 clear Hz; intro _ Hz
 refine wcf Hz ?_
 refine zss (hK6 _ _ ?_)
 refine zsr fun K8 hK8 => ?_
 refine goCh Hz (.loadBR m46 (i := 23) rfl rfl U81 rfl fct5 (by simp) (by dsimp only [List.drop, List.take] <;> rfl) .nil) fun Az Hz => ?_
 refine plz (ecl Hz Tryz.func32 rfl (rnew_yes _ vo bl sz pe to _ _ place _ _ _ _ _ _ ((m46.rd (i := 21) rfl).any) (by omega) hN) ?_)
 rintro e w52 ⟨p52, c52, rfl, hd52, hb52⟩
 have m53 := m46.callF 25 rfl hb52 hd52
 refine ⟨_, rfl, ?_⟩; intro Az Hz
 refine goCh Hz (.move rfl <| .extract rfl rfl <| .extract rfl rfl .nil) fun Az Hz => ?_
 refine plz (e_alloc Hz m53 26 fct2 rfl fun g58 Az w59 Hz m59 _ _ => ?_)
 refine plz (stw Hz m59 26 fct1 fun w60 m60 _ => ?_)
 refine gz hK8 Hz (.assign rfl .nil) fun Az Hz => ?_
 refine wsk fun K9 hK9 => ?_
 replace Hz := Hz.oz [0, 4, 5, 7, 8, 9, 10]
 refine regS Hz (.move rfl <| .neq rfl rfl .nil) fun Az Hz => ?_
 refine bc Hz 42 ?_ ?_
 · intro hb _; exact absurd hb (by simp)
 clear Hz; intro _ Hz
 refine wcf Hz ?_
 refine zss (hK9 _ _ ?_)
 refine regS Hz (.assign rfl .nil) fun Az Hz => ?_
 refine wsk fun K10 hK10 => ?_
 refine wp_block ?_
 refine wp_loop_ghost (fun g a w => ∃ (k B4 B5 B9 c8 c9 n1 d1 n2 d2 : Nat) (p8 p9 q1 q2 : Option Addr), k ≤ (L.map volD).length ∧ g = (L.map volD).length - k ∧ Has 97 [(0, .pointer (some ⟨B, 0, none⟩)), (4, .pointer (some ⟨B4, 0, none⟩)), (5, .pointer (some ⟨B5, 0, none⟩)), (7, .int .i64 k), (8, .slice p8 (L.map volD).length c8), (9, .pointer (some ⟨B9, 0, none⟩))] a ∧ MemOk X w0 [(1, .box B 75 [.slice p (L.map volD).length c]), (2, .dat (.slice p (L.map volD).length c) (.l 11 (L.map volD))), (4, .box B4 84 [.int .i64 0, .int .i64 0, .int .i64 0, .int .i64 0, .slice none 0 0]), (5, .box B5 81 [.int .i64 1, .int .i64 vo, .int .i64 bl, .int .i64 sz, .int .i64 pe, .slice q1 n1 d1, .int .i64 to, .int .i64 at0, .int .i64 ix, .slice q2 n2 d2]), (9, .box B9 33 [.int .i64 vo, .int .i64 bl, .int .i64 sz, .int .i64 pe, .slice p9 place.length c9, .int .i64 to, .int .i64 0, .bool (decide (0 < to)), .int .i64 0, .slice none 0 0, .slice none 0 0]), (8, .dat (.slice p8 (L.map volD).length c8) (.l 11 (L.map volD))), (10, .dat (.slice p9 place.length c9) (.ns .i64 place))] w) ((L.map volD).length) ?_ ?_
 · exact ⟨0, _, _, _, _, _, _, _, _, _, _, _, _, _, Nat.zero_le _, rfl, Hz.only [0, 4, 5, 7, 8, 9], m60.ren [(1, 1), (2, 2), (4, 20), (5, 23), (9, 26), (8, 24), (10, 25)] (by decide)⟩
 clear Hz m60
 rintro g Az w67 ⟨k, B4, B5, B9, c8, c9, n1, d1, n2, d2, p8, p9, q1, q2, hkl, hg, Hz, m67⟩
 refine wsk fun K11 hK11 => ?_
 refine wsk fun K12 hK12 => ?_
 have m68 := m67.oz [1, 2, 4, 5, 8, 9, 10]
 refine region_p 14 (B := [(1, _), (2, _), (4, _), (5, _), (8, _), (9, _), (10, _)]) (m68.to ⟨il, il, il, il, il, il, il, trivial⟩) m68 (by kernel_rfl) (fun w69 hP69 m69 => ?_); clear m68
 refine goA hP69 [0, 1, 2, 3, 4] 5 0 31 Hz (m69.to ⟨il, il, il, il, il, il, il, trivial⟩) (.move rfl <| .move rfl <| .len rfl U73 <| .lss rfl rfl <| .move rfl .nil) fun Az Hz => ?_
 refine bc Hz 49 ?_ ?_
 · intro hb _; exact absurd hb (by simp [hL])
 clear Hz; intro _ Hz
 refine goA hP69 [5, 6, 7, 8, 9, 10, 11, 12, 13] 9 31 16383 Hz (m69.to ⟨il, il, il, il, il, il, il, trivial⟩) (.s <| .s <| .s <| .s <| .s <| .s <| .s <| .s <| .pickF rfl rfl .nil) fun Az Hz => ?_
 refine wpAnyE_done (by kernel_rfl) ?_ _
 refine hK12 _ _ ?_
 refine wcf Hz ?_
 refine wp_exit ?_
 refine hK10 _ _ ?_
 refine wsk fun K13 hK13 => ?_
 replace Hz := Hz.oz [0, 4, 5, 7, 8, 9]
 have m86 := m69.oz [1, 2, 4, 5, 8, 9, 10]
 refine region_p 14 (B := [(1, _), (2, _), (4, _), (5, _), (8, _), (9, _), (10, _)]) (m86.to ⟨il, il, il, il, il, il, il, trivial⟩) m86 (by kernel_rfl) (fun w87 hP87 m87 => ?_); clear m86
 refine goA hP87 [0, 1, 2] 3 0 7 Hz (m87.to ⟨il, il, il, il, il, il, il, trivial⟩) (.move rfl <| .move rfl <| .move rfl .nil) fun Az Hz => ?_
 have hcap92 := Rd.capL (m87.rd (i := 8) rfl)
 have m91 := m87.takeR (i := 8) rfl k hkl 100 rfl
 refine goR hP87 [3, 5, 8, 9] [5] 4 7 815 Hz (m91.to ⟨il, il, il, il, il, il, il, trivial⟩) (.p (fun _ _ h_ => y_sliceHn h_ k rfl rfl U73 fct1 rfl (Nat.le_trans hkl hcap92)) <| .loadBR hh (i := 9) rfl rfl U33 rfl fct1 (by simp) (by dsimp only [List.drop, List.take] <;> rfl) <| .move rfl <| .move rfl .nil) fun Az Hz => ?_
 have m97 := m91.dropR (i := 8) rfl k hkl 101 rfl
 refine goA hP87 [10] 1 815 1839 Hz (m97.to ⟨il, il, il, il, il, il, il, trivial⟩) (.p (fun _ _ h_ => y_sliceLn h_ k rfl rfl U73 fct1 rfl hkl) .nil) fun Az Hz => ?_
 refine d_two 4 6 rfl rfl (by kernel_rfl) rfl rfl (fun K hK => ?_) (fun K hK => ?_)
 ·
  have m99 := m97.nilR 102 33 11
  refine e_appR Hz m99 102 rfl rfl rfl (m99.rd (i := 100) rfl) U73 fct3 rfl rfl (by decide) (by simp; omega) rfl ?_
  intro p100 c100 Az w101 Hz m101
  refine hK _ _ (fun _ => (m101.to ⟨il, il, il, il, il, il, il, trivial⟩)) ?_; clear hK K
  refine so 6 ?_
  refine e_litR Hz m101 103 (mm := 11) rfl (.cons rfl rfl (.cons (.v _) (.cons (.v _) (.cons (.v _) (.cons (.v _) (.cons (m101.rd (i := 10) rfl) (.cons (.v _) (.cons (.v _) (.cons (.v _) (.cons (.v _) (.cons (Rd.nilN _ _ .i64 _) (.cons (.l0 _ _ 2) .nil))))))))))) .nil) U73 fct3 rfl rfl rfl rfl rfl fun g102 Az w103 Hz m103 => ?_
  refine ⟨m103.to ⟨il, il, il, il, il, il, il, trivial⟩, ?_⟩
  have m105 := m103.freezeR 103 rfl
  refine so 7 ?_
  refine e_appR Hz m105 102 rfl rfl rfl (m105.rd (i := 103) rfl) U73 fct3 rfl rfl (by decide) (by simp; omega) rfl fun p104 c104 Az w106 Hz m106 => ?_
  refine ⟨m106.to ⟨il, il, il, il, il, il, il, trivial⟩, ?_⟩
  refine so 11 ?_
  refine e_appR Hz m106 102 rfl rfl rfl (m106.rd (i := 101) rfl) U73 fct3 rfl rfl (by decide) (by simp; omega) rfl fun p107 c107 Az w108 Hz m108 => ?_
  refine ⟨m108.to ⟨il, il, il, il, il, il, il, trivial⟩, ?_⟩
  refine goA hP87 [12, 13] 2 4095 16383 Hz (m108.to ⟨il, il, il, il, il, il, il, trivial⟩) (.nilCheck rfl <| .fa 0 rfl U75 .nil) fun Az Hz => ?_
  refine se 14 ?_
  refine st1 Hz m108 1 fct4 fun w111 m111 _ => ?_
  refine wpAnyE_done (by kernel_rfl) ?_ _
  refine hK13 _ _ ?_
  replace Hz := Hz.oz [0, 4, 5, 7, 8, 9]
  refine zsr fun K14 hK14 => ?_
  refine goCh Hz (.build rfl fct8 fl84xan rfl (by dsimp only [setL, List.set] <;> rfl) .nil) fun Az Hz => ?_
  refine plz (stw Hz m111 4 fct6 fun w115 m115 _ => ?_)
  refine znl (hK14 _ _ ?_)
  refine rtd (retC (fn := Tryz.f31) Hz m115 (i := 4) rfl rfl rfl U84 rfl fct6 ?_)
  have m116 := m115.freezeR 102 rfl
  have hrw : [] ++ List.take k (L.map volD) ++ [[.v (.int .i64 (newV vo bl sz pe to place).vo), .v (.int .i64 (newV vo bl sz pe to place).bl), .v (.int .i64 (newV vo bl sz pe to place).sz), .v (.int .i64 (newV vo bl sz pe to place).pe), .ns .i64 (newV vo bl sz pe to place).place, .v (.int .i64 (newV vo bl sz pe to place).to), .v (.int .i64 (newV vo bl sz pe to place).ne), .v (.bool (newV vo bl sz pe to place).hi), .v (.int .i64 (newV vo bl sz pe to place).fl), .ns .i64 (newV vo bl sz pe to place).pins, .l 2 ((newV vo bl sz pe to place).ws.map wrD)]] ++ List.drop k (L.map volD) = [newV vo bl sz pe to place].map volD := by rw [hL]; simp [volD, newV]
  simp only [newV] at hrw
  erw [hrw] at m116
  exact ⟨_, _, rfl, m116.ren [(1, 1), (2, 102)] (by decide)⟩
 refine e_litR Hz m97 102 (mm := 11) rfl (.cons rfl rfl (.cons (.v _) (.cons (.v _) (.cons (.v _) (.cons (.v _) (.cons (m97.rd (i := 10) rfl) (.cons (.v _) (.cons (.v _) (.cons (.v _) (.cons (.v _) (.cons (Rd.nilN _ _ .i64 _) (.cons (.l0 _ _ 2) .nil))))))))))) .nil) U73 fct3 rfl rfl rfl rfl rfl ?_
 intro g117 Az w118 Hz m118
 refine hK _ _ (fun _ => (m118.to ⟨il, il, il, il, il, il, il, trivial⟩)) ?_; clear hK K
 have m119 := m118.nilR 103 33 11
 refine so 4 ?_
 refine e_appR Hz m119 103 rfl rfl rfl (m119.rd (i := 100) rfl) U73 fct3 rfl rfl (by decide) (by simp; omega) rfl fun p120 c120 Az w121 Hz m121 => ?_
 refine ⟨m121.to ⟨il, il, il, il, il, il, il, trivial⟩, ?_⟩
 have m123 := m121.freezeR 102 rfl
 refine so 7 ?_
 refine e_appR Hz m123 103 rfl rfl rfl (m123.rd (i := 102) rfl) U73 fct3 rfl rfl (by decide) (by simp; omega) rfl fun p122 c122 Az w124 Hz m124 => ?_
 refine ⟨m124.to ⟨il, il, il, il, il, il, il, trivial⟩, ?_⟩
 refine so 11 ?_
 refine e_appR Hz m124 103 rfl rfl rfl (m124.rd (i := 101) rfl) U73 fct3 rfl rfl (by decide) (by simp; omega) rfl fun p125 c125 Az w126 Hz m126 => ?_
 refine ⟨m126.to ⟨il, il, il, il, il, il, il, trivial⟩, ?_⟩
 refine goA hP87 [12, 13] 2 4095 16383 Hz (m126.to ⟨il, il, il, il, il, il, il, trivial⟩) (.nilCheck rfl <| .fa 0 rfl U75 .nil) fun Az Hz => ?_
 refine se 14 ?_
 refine st1 Hz m126 1 fct4 fun w129 m129 _ => ?_
 refine wpAnyE_done (by kernel_rfl) ?_ _
 refine hK13 _ _ ?_
 replace Hz := Hz.oz [0, 4, 5, 7, 8, 9]
 refine zsr fun K15 hK15 => ?_
 refine goCh Hz (.build rfl fct8 fl84xan rfl (by dsimp only [setL, List.set] <;> rfl) .nil) fun Az Hz => ?_
 refine plz (stw Hz m129 4 fct6 fun w133 m133 _ => ?_)
 refine znl (hK15 _ _ ?_)
 refine rtd (retC (fn := Tryz.f31) Hz m133 (i := 4) rfl rfl rfl U84 rfl fct6 ?_)
 have m134 := m133.freezeR 103 rfl
 have hrw : [] ++ List.take k (L.map volD) ++ [[.v (.int .i64 (newV vo bl sz pe to place).vo), .v (.int .i64 (newV vo bl sz pe to place).bl), .v (.int .i64 (newV vo bl sz pe to place).sz), .v (.int .i64 (newV vo bl sz pe to place).pe), .ns .i64 (newV vo bl sz pe to place).place, .v (.int .i64 (newV vo bl sz pe to place).to), .v (.int .i64 (newV vo bl sz pe to place).ne), .v (.bool (newV vo bl sz pe to place).hi), .v (.int .i64 (newV vo bl sz pe to place).fl), .ns .i64 (newV vo bl sz pe to place).pins, .l 2 ((newV vo bl sz pe to place).ws.map wrD)]] ++ List.drop k (L.map volD) = [newV vo bl sz pe to place].map volD := by rw [hL]; simp [volD, newV]
 simp only [newV] at hrw
 erw [hrw] at m134
 exact ⟨_, _, rfl, m134.ren [(1, 1), (2, 103)] (by decide)⟩
end
section
theorem fl75esV : flatS Tryz.prog 75 [.slice none 0 0] = true := by kernel_rfl
theorem new_cmd {bl sz pe : Int} {place : List Int} (hN : NewOk 0 bl sz pe 0 place) (hp : place.length ≤ 9) : CmdOk 1 0 bl sz pe 0 0 0 place [] := by
 obtain ⟨a1, a2, a3, a4, a5, a6, a7, a8, a9, a10, a11⟩ := hN
 refine ⟨by decide, by decide, ⟨by omega, by omega, by omega, by omega, by omega, by omega⟩, by omega, fun k hk => ?_, by simp, (fun e h => by cases h), (fun e h => by cases h)⟩
 have h := a9.1 _ (List.getElem_mem hk)
 rw [List.getD, List.getElem?_eq_getElem hk]
 simp only [Option.getD_some]
 omega
set_option maxRecDepth 100000
set_option maxHeartbeats 4000000
theorem scmd_c (bl sz pe to ne fl : Int) (hi : Bool) (pp pn pw : Option Addr) (np cp nn9 cn9 nw cw : Nat) (wh xa xb xc : Int) (w0 : World) (hw9 : 0 ≤ wh ∧ wh ≤ 255) (ha9 : 0 ≤ xa ∧ xa ≤ 255) (hb9 : 0 ≤ xb ∧ xb ≤ 255) (hc9 : (0 ≤ xc ∧ xc ≤ 255) ∧ xc.tmod 4 ≠ 0) :
   Calls Tryz.prog 30 #[.agg #[.int .i64 0, .int .i64 bl, .int .i64 sz, .int .i64 pe, .slice pp np cp, .int .i64 to, .int .i64 ne, .bool hi, .int .i64 fl, .slice pn nn9 cn9, .slice pw nw cw], .bool false, .int .u8 wh, .int .u8 xa, .int .u8 xb, .int .u8 xc] w0 fun e w' => ∃ (bl2 sz2 pe2 : Int) (place : List Int) (pp : Option Addr) (cp : Nat), e = .returned (.agg #[.int .i64 1, .int .i64 0, .int .i64 bl2, .int .i64 sz2, .int .i64 pe2, .slice pp place.length cp, .int .i64 0, .int .i64 0, .int .i64 0, .slice none 0 0]) ∧ NewOk 0 bl2 sz2 pe2 0 place ∧ place.length ≤ 9 ∧ Rd (New w0) w' (.slice pp place.length cp) (.ns .i64 place) ∧ Below w0.heap.size w0 w' := by
 obtain ⟨hc9, hc4⟩ := hc9
 refine ent6 Tryz.func30 rfl Tryz.ntmps30 fun Az Hz => ?_
 have m0 := MemOk.start (fun _ => False) w0
 refine zsr fun K0 hK0 => ?_
 refine plz (e_box Hz m0 20 (cs := [_, _, _, _, _, _, _, _, _, _, _]) rfl rfl rfl fun g1 Az w2 Hz m2 _ _ => ?_)
 refine plz (e_alloc Hz m2 21 fct7 rfl fun g3 Az w4 Hz m4 _ _ => ?_)
 refine znl (hK0 _ _ ?_)
 refine wsk fun K1 hK1 => ?_
 refine regS Hz (.move rfl <| .not rfl .nil) fun Az Hz => ?_
 refine wct Hz ?_
 refine regS Hz (.assign rfl .nil) fun Az Hz => ?_
 refine wsk fun K2 hK2 => ?_
 refine regS Hz (.move rfl <| .rem rfl rfl (by decide) rfl <| .eql rfl rfl .nil) fun Az Hz => ?_
 refine bc Hz 19 ?_ ?_
 · intro hb _; exact absurd hb (by simpa using hc4)
 clear Hz; intro _ Hz
 refine wcf Hz ?_
 refine zss (hK2 _ _ ?_)
 replace Hz := Hz.oz [2, 3, 4, 5, 6, 12, 13]
 refine zsr fun K3 hK3 => ?_
 refine goCh Hz (.fa 0 rfl U33 <| .lb m4 20 U3 rfl rfl rfl <| .conv rfl U3 U5 (r := 0) (IntWalk.u8_in _ (by omega)) <| .move rfl <| .move rfl <| .move rfl <| .move rfl .nil) fun Az Hz => ?_
 refine plz (ecl Hz Tryz.func33 rfl (create_any 0 xa xb xc _ _ (by omega) ha9 hb9 hc9) ?_)
 rintro e w27 ⟨bl2, sz2, pe2, place, p27, c27, rfl, q1, q2, q3, q4, q5, q6, q7, hpl9, hd27, hb27⟩
 have m28 := m4.callF 22 rfl hb27 hd27
 refine ⟨_, rfl, ?_⟩; intro Az Hz
 refine plz (stw Hz m28 21 fct5 fun w30 m30 _ => ?_)
 refine znl (hK3 _ _ ?_)
 refine rtd (retC (fn := Tryz.f30) Hz m30 (i := 21) rfl rfl rfl U81 rfl fct5 ?_)
 exact ⟨_, _, _, place, _, _, rfl, ⟨by omega, by omega, q1, by omega, q3, by omega, q5, q6, q7, by omega, by omega⟩, hpl9, m30.outF (i := 22) rfl, m30.below⟩
theorem svol_k (l : List Int) (hl : l = [0, 2, 1, 1]) (pl : Option Addr) (cl : Nat) (w0 : World) (h0 : Rd (fun _ => True) w0 (.slice pl l.length cl) (.ns .u8 l)) :
   Calls Tryz.prog 10 #[.slice pl l.length cl] w0 fun e w' => ∃ (x : VolV) (p1 p2 p3 : Option Addr) (d1 d2 d3 : Nat), e = .returned (.agg #[.int .i64 x.vo, .int .i64 x.bl, .int .i64 x.sz, .int .i64 x.pe, .slice p1 x.place.length d1, .int .i64 x.to, .int .i64 x.ne, .bool x.hi, .int .i64 x.fl, .slice p2 x.pins.length d2, .slice p3 (x.ws.map wrD).length d3]) ∧ VolS 4 x ∧ x.hi = false ∧ x.ws = [] ∧ x.fl = 0 ∧ Rd (New w0) w' (.slice p1 x.place.length d1) (.ns .i64 x.place) ∧ Rd (New w0) w' (.slice p2 x.pins.length d2) (.ns .i64 x.pins) ∧ Rd (New w0) w' (.slice p3 (x.ws.map wrD).length d3) (.l 2 (x.ws.map wrD)) ∧ Below w0.heap.size w0 w' := by
 refine ent1 Tryz.func10 rfl Tryz.ntmps10 fun Az Hz => ?_
 have m0 := MemOk.start (fun _ => False) w0
 have hl4 : l.length = 4 := by rw [hl]; rfl
 refine zsr fun K0 hK0 => ?_
 refine plz (e_alloc Hz m0 20 fct2 rfl fun g1 Az w2 Hz m2 _ _ => ?_)
 refine znl (hK0 _ _ ?_)
 refine zsr fun K1 hK1 => ?_
 refine goCh Hz (.build rfl fct45 fl75esV rfl (by dsimp only [setL, List.set] <;> rfl) .nil) fun Az Hz => ?_
 refine plz (e_box Hz m2 21 (cs := [_]) rfl rfl rfl fun g5 Az w6 Hz m6 _ _ => ?_)
 refine gz hK1 Hz (.assign rfl .nil) fun Az Hz => ?_
 refine wsk fun K2 hK2 => ?_
 refine regS Hz (.assign rfl .nil) fun Az Hz => ?_
 refine wp_block ?_
 refine wp_loop_ghost (fun g a w => ∃ (i B2 B c : Nat) (L : List VolV) (p : Option Addr), ((i = 0 ∧ L = []) ∨ (i = 4 ∧ ∃ x : VolV, VolS 4 x ∧ x.hi = false ∧ x.ws = [] ∧ x.fl = 0 ∧ L = [x])) ∧ g = 4 - i ∧ Has 72 [(0, .slice pl l.length cl), (2, .pointer (some ⟨B2, 0, none⟩)), (3, .pointer (some ⟨B, 0, none⟩)), (4, .int .i64 i)] a ∧ MemOk (cn w0) w0 [(1, .box B 75 [.slice p (L.map volD).length c]), (2, .dat (.slice p (L.map volD).length c) (.l 11 (L.map volD))), (3, .box B2 33 [.int .i64 0, .int .i64 0, .int .i64 0, .int .i64 0, .slice none 0 0, .int .i64 0, .int .i64 0, .bool false, .int .i64 0, .slice none 0 0, .slice none 0 0])] w) (4) ?_ ?_
 · have mz := m6.dat 2 rfl (Rd.l0 none 0 11)
   exact ⟨0, _, _, _, [], _, .inl ⟨rfl, rfl⟩, rfl, Hz.only [0, 2, 3, 4], mz.ren [(1, 21), (2, 2), (3, 20)] (by decide)⟩
 clear Hz m6
 rintro g Az w9 ⟨i, B2, B, c, L, p, hcs, hg, Hz, m9⟩
 refine wsk fun K3 hK3 => ?_
 refine regS Hz (.move rfl <| .inc (i + 3) <| .move rfl <| .len rfl U22 <| .lss rfl rfl .nil) fun Az Hz => ?_
 refine bc Hz 17 ?_ ?_
 ·
  intro hb15 Hz; try simp only [QQ, Qax] at hb15
  obtain ⟨rfl, hL⟩ : i = 0 ∧ L = [] := by
    rcases hcs with h | ⟨h, -⟩
    · exact h
    exact absurd hb15 (by simp; omega)
  refine wct Hz ?_
  refine zss (hK3 _ _ ?_)
  refine wsk fun K4 hK4 => ?_
  refine wp_block ?_
  refine zsr fun K5 hK5 => ?_
  refine goCh Hz (.move rfl .nil) fun Az Hz => ?_
  refine plz (ecl Hz Tryz.func28 rfl (rmVol _ _ L _ _ _ _ (by rw [hL]; simp) (m9.into [(1, 1), (2, 2)] (by decide) rfl)) ?_)
  rintro e w18 ⟨x, th, p118, p218, p318, d118, d218, d318, rfl, hx1, hx0, hm18⟩
  have mx18 := m9.back hm18 [(1, 1), (2, 2), (100, 3), (101, 4), (102, 5)] (by decide); clear hm18 m9
  have m18 := mx18.oz [1, 2, 100, 101, 102, 3]
  refine ⟨_, rfl, ?_⟩; intro Az Hz
  obtain rfl : th = false := by
    cases th
    · rfl
    have h := hx1 rfl
    rw [hL] at h
    cases h
  revert Hz
  obtain rfl := hx0 rfl
  intro Hz
  refine goCh Hz (.move rfl <| .extract rfl rfl <| .extract rfl rfl .nil) fun Az Hz => ?_
  refine plz (e_alloc Hz m18 103 fct2 rfl fun g23 Az w24 Hz m24 _ _ => ?_)
  refine plz (stw Hz m24 103 fct1 fun w25 m25 _ => ?_)
  refine gz hK5 Hz (.assign rfl .nil) fun Az Hz => ?_
  refine wsk fun K6 hK6 => ?_
  replace Hz := Hz.oz [0, 2, 3, 4, 5, 6]
  obtain ⟨gx29, ox29, hp29, hl29, hrg29⟩ := h0.extN (0) (by omega)
  revert Hz
  cases hp29
  intro Hz
  obtain ⟨gx31, ox31, hp31, hl31, hrg31⟩ := h0.extN (0 + 1) (by omega)
  revert Hz
  cases hp31
  intro Hz
  obtain ⟨gx33, ox33, hp33, hl33, hrg33⟩ := h0.extN (0 + 2) (by omega)
  revert Hz
  cases hp33
  intro Hz
  obtain ⟨gx35, ox35, hp35, hl35, hrg35⟩ := h0.extN (0 + 3) (by omega)
  revert Hz
  cases hp35
  intro Hz
  have m36 := m25.oz [1, 2, 3, 100, 101, 102, 103]
  refine region_p 21 (B := [(1, _), (2, _), (3, _), (100, _), (101, _), (102, _), (103, _)]) (m36.to ⟨il, il, il, il, il, il, il, trivial⟩) m36 (by kernel_rfl) (fun w37 hP37 m37 => ?_); clear m36
  refine goR hP37 [0, 1, 2, 3, 4, 5, 6, 7, 8, 9, 10, 11, 12, 13, 14, 15, 16, 17, 18, 19, 20] [0, 5, 10, 15, 20] 21 0 2097151 Hz (m37.to ⟨il, il, il, il, il, il, il, trivial⟩) (.loadBR hh (i := 103) rfl rfl U33 rfl fct1 (by simp) (by dsimp only [List.drop, List.take] <;> rfl) <| .move rfl <| .move rfl <| .move rfl <| .p (fun _ _ h_ => y_idx h_ rfl rfl U22 fct34 (0) rfl (by omega)) <| .loadAt1 (fun _ h_ => (hrg29 h_ rfl)) (q := 0) rfl rfl rfl U5 rfl <| .move rfl <| .move rfl <| .add rfl rfl (r := ((0 + 1 : Nat) : Int)) (by rw [IntWalk.i64_in _ (by omega)]; omega) <| .p (fun _ _ h_ => y_idx h_ rfl rfl U22 fct34 (0 + 1) rfl (by omega)) <| .loadAt1 (fun _ h_ => (hrg31 h_ rfl)) (q := 0) rfl rfl rfl U5 rfl <| .move rfl <| .move rfl <| .add rfl rfl (r := ((0 + 2 : Nat) : Int)) (by rw [IntWalk.i64_in _ (by omega)]; omega) <| .p (fun _ _ h_ => y_idx h_ rfl rfl U22 fct34 (0 + 2) rfl (by omega)) <| .loadAt1 (fun _ h_ => (hrg33 h_ rfl)) (q := 0) rfl rfl rfl U5 rfl <| .move rfl <| .move rfl <| .add rfl rfl (r := ((0 + 3 : Nat) : Int)) (by rw [IntWalk.i64_in _ (by omega)]; omega) <| .p (fun _ _ h_ => y_idx h_ rfl rfl U22 fct34 (0 + 3) rfl (by omega)) <| .loadAt1 (fun _ h_ => (hrg35 h_ rfl)) (q := 0) rfl rfl rfl U5 rfl .nil) fun Az Hz => ?_
  refine se 21 ?_
  refine ecl Hz Tryz.func30 rfl (scmd_c _ _ _ _ _ _ _ _ _ _ _ _ _ _ _ _ _ _ _ _ _ (by rw [hl]; decide) (by rw [hl]; decide) (by rw [hl]; decide) (by rw [hl]; decide)) ?_
  rintro e w59 ⟨bl2, sz2, pe2, place, p59, c59, rfl, hN, hpl9, hd59, hb59⟩
  have m60 := m37.callF 104 rfl hb59 hd59
  refine ⟨_, rfl, ?_⟩; intro Az Hz
  have hc : CmdOk 1 0 bl2 sz2 pe2 0 0 0 place [] := new_cmd hN hpl9
  refine se 22 ?_
  refine ecl Hz Tryz.func29 rfl (rputCmd_x 1 0 bl2 sz2 pe2 0 0 0 place [] _ _ _ _ _ _ ((m60.rd (i := 104) rfl).any) (Rd.l0 _ _ 2) hc) ?_
  rintro e w62 ⟨p62, c62, rfl, hd62, hb62⟩
  have m63 := m60.callF 105 rfl hb62 hd62
  refine ⟨_, rfl, ?_⟩; intro Az Hz
  refine goB hP37 [23, 24, 25, 26, 27] 5 8388607 268435455 Hz (.move rfl <| .extract rfl rfl <| .extract rfl rfl <| .assign rfl <| .assign rfl .nil) fun Az Hz => ?_
  refine wpAnyE_done (by kernel_rfl) ?_ _
  refine hK6 _ _ ?_
  replace Hz := Hz.oz [0, 2, 3, 4, 33, 7]
  refine wp_region_lit ?_
  refine goCh Hz (.move rfl <| .move rfl .nil) fun Az Hz => ?_
  refine plz (ecl Hz Tryz.func31 rfl (rapply_new _ _ L _ _ 0 bl2 sz2 pe2 0 0 0 place [] _ _ _ hL hN hc (m63.into [(1, 1), (2, 2), (3, 105)] (by decide) rfl)) ?_)
  rintro e w73 ⟨p73, c73, rfl, hm73⟩
  have mx73 := m63.back hm73 [(1, 1), (2, 2)] (by decide); clear hm73 m63
  have m73 := mx73.oz [1, 2, 3, 100, 101, 102, 103, 104]
  refine ⟨_, rfl, ?_⟩; intro Az Hz
  refine znl (hK4 _ _ ?_)
  refine wp_region_lit ?_
  refine goCh Hz (.move rfl <| .inc (0 + 4) <| .assign rfl .nil) fun Az Hz => ?_
  refine wpList_nil ?_
  show ∃ n', n' < _ ∧ _
  exact ⟨4 - (0 + 4), by omega, 0 + 4, _, _, _, _, _, .inr ⟨rfl, _, newV_s hN, rfl, rfl, rfl, rfl⟩, rfl, Hz.only [0, 2, 3, 4], m73.ren [(1, 1), (2, 2), (3, 3)] (by decide)⟩
 intro hb15 Hz; try simp only [QQ, Qax] at hb15
 obtain ⟨x, hxS, hxh, hxw, hxf, rfl⟩ : ∃ x : VolV, VolS 4 x ∧ x.hi = false ∧ x.ws = [] ∧ x.fl = 0 ∧ L = [x] := by
   rcases hcs with ⟨h, -⟩ | ⟨-, h⟩
   · exact absurd hb15 (by simp; omega)
   exact h
 refine wcf Hz ?_
 refine wp_exit ?_
 refine hK2 _ _ ?_
 refine wsk fun K7 hK7 => ?_
 refine regS Hz (.move rfl <| .nilCheck rfl <| .fa 0 rfl U75 <| .lb m9 1 U73 rfl rfl rfl <| .len rfl U73 <| .eql rfl rfl .nil) fun Az Hz => ?_
 refine bc Hz 59 ?_ ?_
 · intro hb _; exact absurd hb (by simp)
 clear Hz; intro _ Hz
 refine wcf Hz ?_
 refine zss (hK7 _ _ ?_)
 replace Hz := Hz.oz [0, 2, 3, 4]
 refine zsr fun K8 hK8 => ?_
 refine goCh Hz (.move rfl <| .nilCheck rfl <| .fa 0 rfl U75 <| .lb m9 1 U73 rfl rfl rfl .nil) fun Az Hz => ?_
 obtain ⟨b95, o95, vs95, hp95, hR95, ho95, m95⟩ := m9.openR (i := 2) rfl (0) (r := [.v (.int .i64 x.vo), .v (.int .i64 x.bl), .v (.int .i64 x.sz), .v (.int .i64 x.pe), .ns .i64 x.place, .v (.int .i64 x.to), .v (.int .i64 x.ne), .v (.bool x.hi), .v (.int .i64 x.fl), .ns .i64 x.pins, .l 2 (x.ws.map wrD)]) (volD_get (L := [x]) (by rfl)) 100 rfl
 revert Hz
 cases hp95; clear m9 ho95
 rcases hR95 with _ | ⟨hd95_0, _ | ⟨hd95_1, _ | ⟨hd95_2, _ | ⟨hd95_3, _ | ⟨hd95_4, _ | ⟨hd95_5, _ | ⟨hd95_6, _ | ⟨hd95_7, _ | ⟨hd95_8, _ | ⟨hd95_9, _ | ⟨hd95_10, _ | _⟩⟩⟩⟩⟩⟩⟩⟩⟩⟩⟩
 obtain rfl := hd95_0.v_out
 clear hd95_0
 obtain rfl := hd95_1.v_out
 clear hd95_1
 obtain rfl := hd95_2.v_out
 clear hd95_2
 obtain rfl := hd95_3.v_out
 clear hd95_3
 obtain ⟨p96, c96, hv96, hc96⟩ := hd95_4.ns_shape; subst hv96
 intro Hz
 have m96 := m95.dat 101 rfl (hd95_4.cast (fun _ h => (free_add rfl h))); clear m95 hd95_4
 revert Hz
 obtain rfl := hd95_5.v_out
 clear hd95_5
 obtain rfl := hd95_6.v_out
 clear hd95_6
 obtain rfl := hd95_7.v_out
 clear hd95_7
 obtain rfl := hd95_8.v_out
 clear hd95_8
 obtain ⟨p97, c97, hv97, hc97⟩ := hd95_9.ns_shape; subst hv97
 intro Hz
 have m97 := m96.dat 102 rfl (hd95_9.cast (fun _ h => (free_add rfl (free_add rfl h)))); clear m96 hd95_9
 revert Hz
 obtain ⟨p98, c98, hv98, hc98⟩ := hd95_10.l_shape; subst hv98
 intro Hz
 have m98 := m97.dat 103 rfl (hd95_10.cast (fun _ h => (free_add rfl (free_add rfl (free_add rfl h))))); clear m97 hd95_10
 refine goCh Hz (.c rfl (fun _ h_ => y_idx h_ rfl rfl U73 fct1 (0) rfl (by simp)) <| .loadCR m98 (i := 100) rfl rfl U33 rfl fct1 .nil) fun Az Hz => ?_
 refine plz (stw Hz m98 3 fct1 fun w101 m101 _ => ?_)
 refine znl (hK8 _ _ ?_)
 refine rtd (retC (fn := Tryz.f10) Hz m101 (i := 3) rfl rfl rfl U33 rfl fct1 ?_)
 exact ⟨x, _, _, _, _, _, _, rfl, hxS, hxh, hxw, hxf, m101.outF (i := 101) rfl, m101.outF (i := 102) rfl, m101.outF (i := 103) rfl, m101.below⟩
end
section
theorem fl33ega : flatS Tryz.prog 33 [.int .i64 0, .int .i64 0, .int .i64 0, .int .i64 0, .slice none 0 0, .int .i64 0, .int .i64 0, .bool false, .int .i64 0, .slice none 0 0, .slice none 0 0] = true := by kernel_rfl
theorem retCTT {P : Program} {n : Nat} {T : List (Nat × Value)} {a : Act} {w w0 : World} {X : Cx} {M : Mm} (ha : Has n T a) (m : MemOk X w0 M w) {fn : Func} {t s r : Tmp} {ty : TypeId} {td : TypeDesc} {i g : Nat} {e : TypeId} {cs : List Value} {u v : Value} {R : Ending → World → Prop} (hr : fn.results = #[.cell t ty, .tmp s, .tmp r]) (hv : lk T t = some (.pointer (some ⟨g, 0, none⟩))) (hu2 : lk T s = some u) (hu3 : lk T r = some v) (hm : lk M i = some (.box g e cs)) (hu : P.underlying ty = some td) (hd : td.isRow = true) (hs : (P.info? ty).map (·.size) = some cs.length) (h : R (.returned (.tuple #[.agg cs.toArray, u, v])) w) : bodyPost P fn R .ret a w :=
 ⟨ha.d, _, by
   have h1 := ha.h t _ hv
   have h2 := ha.h s _ hu2
   have h3 := ha.h r _ hu3
   rw [Array.getD_eq_getD_getElem?] at h1 h2 h3
   simp [results, hr, h1, h2, h3, asAddr, run_loadBox m hm hu hd hs], h⟩
def allL (y : VolV) (j : Nat) : List (Nat × Nat) := (List.range j).map fun k => (k, y.ws.length)
theorem allL_len (y : VolV) (j : Nat) : (allL y j).length = j := by unfold allL; rw [List.length_map, List.length_range]
theorem allL_snoc (y : VolV) (j : Nat) : allL y (j + 1) = allL y j ++ [(j, y.ws.length)] := by unfold allL; rw [List.range_succ, List.map_append]; rfl
theorem allL_mem {y : VolV} {j k : Nat} (h : k < j) : (k, y.ws.length) ∈ allL y j := List.mem_map.2 ⟨k, List.mem_range.2 h, rfl⟩
theorem allL_of {y : VolV} {j : Nat} {x : Nat × Nat} (h : x ∈ allL y j) : x.1 < j ∧ x.2 = y.ws.length := by
 obtain ⟨k, hk, rfl⟩ := List.mem_map.1 h
 exact ⟨List.mem_range.1 hk, rfl⟩
theorem allL_lo {y : VolV} : ∀ x ∈ allL y y.place.length, x.1 < y.place.length ∧ x.2 ≤ y.ws.length := fun x hx => ⟨(allL_of hx).1, Nat.le_of_eq (allL_of hx).2⟩
theorem efull_n (X : Cx) (y : VolV) (n : Nat) (hS : VolS n y) (hn : n ≤ 1000) (pp pn pw : Option Addr) (cp nn9 cn9 cw : Nat) (L : List (Nat × Nat)) (pl : Option Addr) (nl cl : Nat) (t9 : Int) (w0 : World) (hL : L.length ≤ 1000000) (hLo : ∀ x ∈ L, x.1 < y.place.length ∧ x.2 ≤ y.ws.length) (m0 : MemOk X w0 [(3, .dat (.slice pw (y.ws.map wrD).length cw) (.l 2 (y.ws.map wrD))), (4, .dat (.slice pl nl cl) (.l 7 (L.map (ckD y))))] w0) :
   Calls Tryz.prog 14 #[.agg #[.int .i64 y.vo, .int .i64 y.bl, .int .i64 y.sz, .int .i64 y.pe, .slice pp y.place.length cp, .int .i64 y.to, .int .i64 y.ne, .bool y.hi, .int .i64 y.fl, .slice pn nn9 cn9, .slice pw (y.ws.map wrD).length cw], .slice pl nl cl, .int .i64 t9] w0 fun e w' => ∃ (T : (Int × Int × Int × Int × Int × List (Int × List Int))) (p9 : Option Addr) (c9 : Nat), FullG y L t9 T ∧ e = .returned (.tuple #[.agg #[.int .i64 T.2.1, .int .i64 T.2.2.1, .int .i64 T.2.2.2.1, .int .i64 T.2.2.2.2.1, .slice p9 (T.2.2.2.2.2.map itD).length c9], .int .i64 T.1]) ∧ MemOk X w0 [(3, .dat (.slice pw (y.ws.map wrD).length cw) (.l 2 (y.ws.map wrD))), (4, .dat (.slice pl nl cl) (.l 7 (L.map (ckD y)))), (9, .dat (.slice p9 (T.2.2.2.2.2.map itD).length c9) (.l 2 (T.2.2.2.2.2.map itD)))] w' := by
 obtain rfl : nl = L.length := nnOf (m0.rd (i := 4) rfl)
 exact efull_x X y n hS hn pp pn pw cp nn9 cn9 cw L pl cl t9 w0 hL hLo m0
theorem esince_n (X : Cx) (y : VolV) (n : Nat) (hS : VolS n y) (hn : n ≤ 1000) (pp pn pw : Option Addr) (cp nn9 cn9 cw : Nat) (L : List (Nat × Nat)) (pl : Option Addr) (nl cl : Nat) (fr t9 : Int) (w0 : World) (hL : L.length ≤ 1000000) (hLo : ∀ x ∈ L, x.1 < y.place.length ∧ x.2 ≤ y.ws.length) (m0 : MemOk X w0 [(3, .dat (.slice pw (y.ws.map wrD).length cw) (.l 2 (y.ws.map wrD))), (4, .dat (.slice pl nl cl) (.l 7 (L.map (ckD y))))] w0) :
   Calls Tryz.prog 17 #[.agg #[.int .i64 y.vo, .int .i64 y.bl, .int .i64 y.sz, .int .i64 y.pe, .slice pp y.place.length cp, .int .i64 y.to, .int .i64 y.ne, .bool y.hi, .int .i64 y.fl, .slice pn nn9 cn9, .slice pw (y.ws.map wrD).length cw], .slice pl nl cl, .int .i64 fr, .int .i64 t9] w0 fun e w' => ∃ (T : (Int × Int × Int × Int × Int × List (Int × List Int))) (p9 : Option Addr) (c9 : Nat), SinceG y L fr t9 T ∧ e = .returned (.tuple #[.agg #[.int .i64 T.2.1, .int .i64 T.2.2.1, .int .i64 T.2.2.2.1, .int .i64 T.2.2.2.2.1, .slice p9 (T.2.2.2.2.2.map itD).length c9], .int .i64 T.1]) ∧ MemOk X w0 [(3, .dat (.slice pw (y.ws.map wrD).length cw) (.l 2 (y.ws.map wrD))), (4, .dat (.slice pl nl cl) (.l 7 (L.map (ckD y)))), (9, .dat (.slice p9 (T.2.2.2.2.2.map itD).length c9) (.l 2 (T.2.2.2.2.2.map itD)))] w' := by
 obtain rfl : nl = L.length := nnOf (m0.rd (i := 4) rfl)
 exact esince_x X y n hS hn pp pn pw cp nn9 cn9 cw L pl cl fr t9 w0 hL hLo m0
theorem epick_n (X : Cx) (y : VolV) (n : Nat) (hS : VolS n y) (hn : n ≤ 1000) (pp pn pw : Option Addr) (cp nn9 cn9 cw : Nat) (L : List (Nat × Nat)) (pl : Option Addr) (nl cl : Nat) (k : Nat) (a9 b9 : Int) (w0 : World) (hL : L.length ≤ 1000000) (hLo : ∀ x ∈ L, x.1 < y.place.length ∧ x.2 ≤ y.ws.length) (hk : k < y.place.length) (hin : ∃ m, (k, m) ∈ L ∧ min y.fl (m : Int) ≤ a9 ∧ b9 ≤ (m : Int)) (m0 : MemOk X w0 [(3, .dat (.slice pw (y.ws.map wrD).length cw) (.l 2 (y.ws.map wrD))), (4, .dat (.slice pl nl cl) (.l 7 (L.map (ckD y))))] w0) :
   Calls Tryz.prog 19 #[.agg #[.int .i64 y.vo, .int .i64 y.bl, .int .i64 y.sz, .int .i64 y.pe, .slice pp y.place.length cp, .int .i64 y.to, .int .i64 y.ne, .bool y.hi, .int .i64 y.fl, .slice pn nn9 cn9, .slice pw (y.ws.map wrD).length cw], .slice pl nl cl, .int .i64 (k : Int), .int .i64 a9, .int .i64 b9] w0 fun e w' => ∃ (m : Nat) (p9 : Option Addr) (c9 : Nat), PkOk y k a9 b9 (k, m) ∧ (k, m) ∈ L ∧ e = .returned (.tuple #[.agg #[.int .i64 y.vo, .int .i64 (k : Int), .int .i64 (cnY y k : Int), .int .i64 y.sz, .int .i64 (m : Int), .int .i64 (min y.fl (m : Int)), .slice p9 (cnY y k) c9], .bool true]) ∧ MemOk X w0 [(3, .dat (.slice pw (y.ws.map wrD).length cw) (.l 2 (y.ws.map wrD))), (4, .dat (.slice pl nl cl) (.l 7 (L.map (ckD y)))), (9, .dat (.slice p9 (cnY y k) c9) (.l 1 ((chN y (fnY y k) (cnY y k) m).map hD)))] w' := by
 obtain rfl : nl = L.length := nnOf (m0.rd (i := 4) rfl)
 exact epick_yes X y n hS hn pp pn pw cp nn9 cn9 cw L pl cl k a9 b9 w0 hL hLo hk hin m0
theorem eall_ck (X : Cx) (y : VolV) (n : Nat) (hS : VolS n y) (hn : n ≤ 1000) (pp pn pw : Option Addr) (cp nn9 cn9 cw : Nat) (k : Nat) (mark : Int) (w0 : World) (hk : k < y.place.length) (hmk : (y.ws.length : Int) ≤ mark) (m0 : MemOk X w0 [(3, .dat (.slice pw (y.ws.map wrD).length cw) (.l 2 (y.ws.map wrD)))] w0) :
   Calls Tryz.prog 12 #[.agg #[.int .i64 y.vo, .int .i64 y.bl, .int .i64 y.sz, .int .i64 y.pe, .slice pp y.place.length cp, .int .i64 y.to, .int .i64 y.ne, .bool y.hi, .int .i64 y.fl, .slice pn nn9 cn9, .slice pw (y.ws.map wrD).length cw], .int .i64 (k : Int), .int .i64 mark] w0 fun e w' => ∃ (pc : Option Addr) (cc : Nat), e = .returned (.agg #[.int .i64 y.vo, .int .i64 (k : Int), .int .i64 (cnY y k : Int), .int .i64 y.sz, .int .i64 (y.ws.length : Int), .int .i64 (min y.fl (y.ws.length : Int)), .slice pc (cnY y k) cc]) ∧ MemOk X w0 [(3, .dat (.slice pw (y.ws.map wrD).length cw) (.l 2 (y.ws.map wrD))), (9, .dat (.slice pc (cnY y k) cc) (.l 1 ((chN y (fnY y k) (cnY y k) y.ws.length).map hD)))] w' := by
 have h := zchunk_x X y k (fnY y k) (cnY y k) (ckY hS hk) (hS.f hn) hS.1.its.1 pp pn pw cp nn9 cn9 cw mark w0 m0
 refine h.mono fun e w' h9 => ?_
 obtain ⟨m, pc, cc, h1, h2, h3, h4⟩ := h9
 obtain rfl : m = y.ws.length := by omega
 exact ⟨pc, cc, h3, h4⟩
set_option maxRecDepth 100000
set_option maxHeartbeats 4000000
theorem elongest_nil (v : Int) (w0 : World) : Calls Tryz.prog 51 #[.pointer none, .int .i64 v] w0 fun e w' => e = .returned (.tuple #[.agg #[.int .i64 0, .int .i64 0, .int .i64 0, .int .i64 0, .slice none 0 0, .int .i64 0, .int .i64 0, .bool false, .int .i64 0, .slice none 0 0, .slice none 0 0], .bool false]) ∧ Below w0.heap.size w0 w' := by
 refine ent2 Tryz.func51 rfl Tryz.ntmps51 fun Az Hz => ?_
 have m0 := MemOk.start (fun _ => False) w0
 refine zsr fun K0 hK0 => ?_
 refine plz (e_alloc Hz m0 20 fct2 rfl fun g1 Az w2 Hz m2 _ _ => ?_)
 refine gz hK0 Hz (.assign rfl .nil) fun Az Hz => ?_
 refine zsr fun K1 hK1 => ?_
 refine plz (e_alloc Hz m2 21 fct2 rfl fun g4 Az w5 Hz m5 _ _ => ?_)
 refine znl (hK1 _ _ ?_)
 refine regS Hz (.assign rfl .nil) fun Az Hz => ?_
 refine wsk fun K2 hK2 => ?_
 refine regS Hz (.move rfl <| .eqlP rfl rfl U112 .nil) fun Az Hz => ?_
 refine bc Hz 14 ?_ ?_
 rotate_left
 · intro hb _; exact absurd hb (by simp)
 clear Hz; intro _ Hz
 refine wct Hz ?_
 refine zsr fun K3 hK3 => ?_
 refine goCh Hz (.loadBR m5 (i := 21) rfl rfl U33 rfl fct1 (by simp) (by dsimp only [List.drop, List.take] <;> rfl) .nil) fun Az Hz => ?_
 refine plz (stw Hz m5 20 fct1 fun w12 m12 _ => ?_)
 refine gz hK3 Hz (.assign rfl .nil) fun Az Hz => ?_
 refine rtd (retCT (fn := Tryz.f51) Hz m12 (i := 20) rfl rfl rfl rfl U33 rfl fct1 ?_)
 exact ⟨rfl, m12.below⟩
theorem egather_nil (v : Int) (w0 : World) : Calls Tryz.prog 27 #[.pointer none, .int .i64 v] w0 fun e w' => e = .returned (.tuple #[.agg #[.int .i64 0, .int .i64 0, .int .i64 0, .int .i64 0, .slice none 0 0, .int .i64 0, .int .i64 0, .bool false, .int .i64 0, .slice none 0 0, .slice none 0 0], .slice none 0 0, .int .i64 28]) ∧ Below w0.heap.size w0 w' := by
 refine ent2 Tryz.func27 rfl Tryz.ntmps27 fun Az Hz => ?_
 have m0 := MemOk.start (fun _ => False) w0
 refine zsr fun K0 hK0 => ?_
 refine plz (e_alloc Hz m0 20 fct2 rfl fun g1 Az w2 Hz m2 _ _ => ?_)
 refine gz hK0 Hz (.assign rfl <| .assign rfl <| .nil) fun Az Hz => ?_
 refine zsr fun K1 hK1 => ?_
 refine goCh Hz (.move rfl <| .move rfl .nil) fun Az Hz => ?_
 refine plz (ecb Hz Tryz.func51 rfl m2 (elongest_nil _ _) fun Az w9 Hz m10 => ?_)
 refine goCh Hz (.move rfl <| .extract rfl rfl <| .extract rfl rfl .nil) fun Az Hz => ?_
 refine plz (e_alloc Hz m10 21 fct2 rfl fun g15 Az w16 Hz m16 _ _ => ?_)
 refine plz (stw Hz m16 21 fct1 fun w17 m17 _ => ?_)
 refine gz hK1 Hz (.assign rfl .nil) fun Az Hz => ?_
 refine wsk fun K2 hK2 => ?_
 replace Hz := Hz.oz [0, 1, 4, 5, 6, 7, 8]
 refine regS Hz (.move rfl <| .not rfl .nil) fun Az Hz => ?_
 refine wct Hz ?_
 refine zsr fun K3 hK3 => ?_
 refine goCh Hz (.build rfl fct2 fl33ega rfl (by dsimp only [setL, List.set] <;> rfl) .nil) fun Az Hz => ?_
 refine plz (stw Hz m17 20 fct1 fun w24 m24 _ => ?_)
 refine gz hK3 Hz (.assign rfl <| .assign rfl <| .nil) fun Az Hz => ?_
 refine rtd (retCTT (fn := Tryz.f27) Hz m24 (i := 20) rfl rfl rfl rfl rfl U33 rfl fct1 ?_)
 exact ⟨rfl, m24.below⟩
theorem eknown_x (w0 : World) : Calls Tryz.prog 8 #[] w0 fun e w' => e = .returned (.bool true) ∧ Below w0.heap.size w0 w' := by
 refine ent0 Tryz.func8 rfl Tryz.ntmps8 fun Az Hz => ?_
 have m0 := MemOk.start (fun _ => False) w0
 refine regS Hz (.assign rfl .nil) fun Az Hz => ?_
 refine zsr fun K0 hK0 => ?_
 refine plz (e_litN Hz m0 70 (k := .u8) rfl rfl U22 fct19 rfl rfl rfl rfl fun g2 Az w3 Hz m3 => ?_)
 have m4 := m3.freezeN 70 rfl
 refine plz (ecl Hz Tryz.func10 rfl (svol_k [0, 2, 1, 1] rfl _ _ _ ((m4.rd (i := 70) rfl).any)) ?_)
 rintro e w5 ⟨y, p15, p25, p35, d15, d25, d35, rfl, hS, hyh, hyw, hyf, hd5, he5, hf5, hb5⟩
 have m6 := m4.callF3 71 72 73 rfl rfl rfl hb5 hd5 he5 hf5
 clear hb5 hd5 he5 hf5
 obtain ⟨n, hn4⟩ : ∃ n : Nat, n = 4 := ⟨_, rfl⟩
 rw [← hn4] at hS
 have hn : n ≤ 1000 := by omega
 have hF := hS.f hn
 have hpp := place_pos hS
 have hpt := place_top hS
 have hy0 : y.ws.length = 0 := by rw [hyw]; rfl
 have hyb := hF.bl
 refine ⟨_, rfl, ?_⟩; intro Az Hz
 refine plz (e_alloc Hz m6 74 fct2 rfl fun g8 Az w9 Hz m9 _ _ => ?_)
 refine plz (stw Hz m9 74 fct1 fun w10 m10 _ => ?_)
 refine znl (hK0 _ _ ?_)
 refine regS Hz (.assign rfl .nil) fun Az Hz => ?_
 refine wsk fun K1 hK1 => ?_
 refine regS Hz (.assign rfl .nil) fun Az Hz => ?_
 refine wp_block ?_
 refine wp_loop_ghost (fun g a w => ∃ (i BV : Nat) (p1 p2 p3 : Option Addr) (d1 d2 d3 : Nat) (p9 : Option Addr) (c9 : Nat), i ≤ y.place.length ∧ g = y.place.length - i ∧ Has 88 [(1, .pointer (some ⟨BV, 0, none⟩)), (2, .slice p9 ((allL y i).map (ckD y)).length c9), (3, .int .i64 (i : Int))] a ∧ MemOk (cn w0) w0 [(20, .box BV 33 [.int .i64 y.vo, .int .i64 y.bl, .int .i64 y.sz, .int .i64 y.pe, .slice p1 y.place.length d1, .int .i64 y.to, .int .i64 y.ne, .bool y.hi, .int .i64 y.fl, .slice p2 y.pins.length d2, .slice p3 (y.ws.map wrD).length d3]), (21, .dat (.slice p1 y.place.length d1) (.ns .i64 y.place)), (22, .dat (.slice p2 y.pins.length d2) (.ns .i64 y.pins)), (23, .dat (.slice p3 (y.ws.map wrD).length d3) (.l 2 (y.ws.map wrD))), (9, .row (.slice p9 ((allL y i).map (ckD y)).length c9) 28 7 ((allL y i).map (ckD y)))] w) (y.place.length) ?_ ?_
 · have mz := m10.nilR 9 28 7
   exact ⟨0, _, _, _, _, _, _, _, _, _, Nat.zero_le _, rfl, Hz.only [1, 2, 3], mz.ren [(20, 74), (21, 71), (22, 72), (23, 73), (9, 9)] (by decide)⟩
 clear Hz m10
 rintro g Az w13 ⟨i, BV, p1, p2, p3, d1, d2, d3, p9, c9, hil, hg, Hz, m13⟩
 refine wsk fun K2 hK2 => ?_
 refine regS Hz (.move rfl <| .fa 4 rfl U33 <| .lb m13 20 U29 rfl rfl rfl <| .len rfl U29 <| .lss rfl rfl .nil) fun Az Hz => ?_
 refine bc Hz 21 ?_ ?_
 ·
  intro hb19 Hz; try simp only [QQ, Qax] at hb19
  have hi : i < y.place.length := by have := hb19; first | omega | (simp at this; omega) | (simp at this; exact this)
  refine wct Hz ?_
  refine zss (hK2 _ _ ?_)
  refine wsk fun K3 hK3 => ?_
  refine wp_block ?_
  refine wp_region_lit ?_
  refine goCh Hz (.move rfl <| .loadBR m13 (i := 20) rfl rfl U33 rfl fct1 (by simp) (by dsimp only [List.drop, List.take] <;> rfl) <| .move rfl .nil) fun Az Hz => ?_
  refine plz (ecl Hz Tryz.func12 rfl (eall_ck _ y n hS hn _ _ _ _ _ _ _ i 9 _ hi (by omega) (m13.into [(3, 23)] (by decide) rfl)) ?_)
  rintro e w23 ⟨p23, c23, rfl, hm23⟩
  have mx23 := m13.back hm23 [(23, 3), (100, 9)] (by decide); clear hm23 m13
  have m23 := mx23.oz [23, 100, 9, 20, 21, 22]
  refine ⟨_, rfl, ?_⟩; intro Az Hz
  refine plz (e_litR Hz m23 101 (mm := 7) rfl (.cons rfl rfl (.cons (.v _) (.cons (.v _) (.cons (.v _) (.cons (.v _) (.cons (.v _) (.cons (.v _) (.cons (m23.rd (i := 100) rfl) .nil))))))) .nil) U23 fct36 rfl rfl rfl rfl rfl fun g25 Az w26 Hz m26 => ?_)
  have m28 := m26.freezeR 101 rfl
  refine plz (e_appR Hz m28 9 rfl rfl rfl (m28.rd (i := 101) rfl) U23 fct36 rfl rfl (by decide) (by have h9 := allL_len y i; simp at h9 ⊢; omega) rfl fun p27 c27 Az w29 Hz m29 => ?_)
  refine gz hK3 Hz (.assign rfl .nil) fun Az Hz => ?_
  replace Hz := Hz.oz [1, 2, 3]
  refine wp_region_lit ?_
  refine goCh Hz (.move rfl <| .inc (i + 1) <| .assign rfl .nil) fun Az Hz => ?_
  refine wpList_nil ?_
  show ∃ n', n' < _ ∧ _
  have hE : ((allL y i).map (ckD y)) ++ [[D.v (.int .i64 y.vo), .v (.int .i64 (i : Int)), .v (.int .i64 (cnY y i : Int)), .v (.int .i64 y.sz), .v (.int .i64 (y.ws.length : Int)), .v (.int .i64 (min y.fl (y.ws.length : Int))), .l 1 ((chN y (fnY y i) (cnY y i) y.ws.length).map hD)]] = ((allL y (i + 1)).map (ckD y)) := by rw [allL_snoc, List.map_append]; rfl
  rw [hE] at m29 Hz
  exact ⟨y.place.length - (i + 1), by omega, i + 1, _, _, _, _, _, _, _, _, _, by omega, rfl, Hz.only [1, 2, 3], m29.ren [(20, 20), (21, 21), (22, 22), (23, 23), (9, 9)] (by decide)⟩
 intro hb19 Hz; try simp only [QQ, Qax] at hb19
 obtain rfl : i = y.place.length := by have := hb19; first | omega | (simp at this; omega) | (simp at this; exact this)
 refine wcf Hz ?_
 refine wp_exit ?_
 refine hK1 _ _ ?_
 refine zsr fun K4 hK4 => ?_
 refine goCh Hz (.loadBR m13 (i := 20) rfl rfl U33 rfl fct1 (by simp) (by dsimp only [List.drop, List.take] <;> rfl) <| .move rfl .nil) fun Az Hz => ?_
 have m39 := m13.freezeR 9 rfl
 refine plz (ecl Hz Tryz.func14 rfl (efull_n _ y n hS hn _ _ _ _ _ _ _ (allL y y.place.length) _ _ _ 0 _ (by rw [allL_len]; omega) allL_lo (m39.into [(3, 23), (4, 9)] (by decide) rfl)) ?_)
 rintro e w40 ⟨Ta, p40, c40, hEa, rfl, hm40⟩
 have mx40 := m39.back hm40 [(23, 3), (9, 4), (100, 9)] (by decide); clear hm40 m39
 have m40 := mx40.oz [23, 9, 100, 20, 21, 22]
 refine ⟨_, rfl, ?_⟩; intro Az Hz
 have hra : Ta.1 = 0 ∧ Ta.2.2.2.1 = -1 ∧ (Ta.2.2.2.2.2.length : Int) = y.bl := by
   rcases hEa with ⟨h1, -⟩ | ⟨-, h1, -⟩ | ⟨-, -, h1, -⟩ | ⟨-, -, -, h1, -⟩ | ⟨-, -, -, -, h1⟩
   · rw [hyh] at h1; cases h1
   · omega
   · omega
   · exact absurd (fun k hk => ⟨_, allL_mem hk, by omega, by omega⟩) h1
   rw [h1]; exact ⟨rfl, rfl, by rw [wholeI_len]; omega⟩
 have hil9 := hra.2.2
 refine goCh Hz (.move rfl <| .extract rfl rfl <| .extract rfl rfl .nil) fun Az Hz => ?_
 refine plz (e_alloc Hz m40 101 fct33 rfl fun g45 Az w46 Hz m46 _ _ => ?_)
 refine plz (stw Hz m46 101 fct32 fun w47 m47 _ => ?_)
 refine gz hK4 Hz (.assign rfl .nil) fun Az Hz => ?_
 replace Hz := Hz.oz [1, 2, 3, 4, 5]
 refine zsr fun K5 hK5 => ?_
 refine goCh Hz (.loadBR m47 (i := 20) rfl rfl U33 rfl fct1 (by simp) (by dsimp only [List.drop, List.take] <;> rfl) <| .move rfl .nil) fun Az Hz => ?_
 refine plz (ecl Hz Tryz.func14 rfl (efull_n _ y n hS hn _ _ _ _ _ _ _ (allL y y.place.length) _ _ _ 9 _ (by rw [allL_len]; omega) allL_lo (m47.into [(3, 23), (4, 9)] (by decide) rfl)) ?_)
 rintro e w54 ⟨Tb, p54, c54, hEb, rfl, hm54⟩
 have mx54 := m47.back hm54 [(23, 3), (9, 4), (102, 9)] (by decide); clear hm54 m47
 have m54 := mx54.oz [23, 9, 102, 20, 21, 22, 100, 101]
 refine ⟨_, rfl, ?_⟩; intro Az Hz
 have hrb : Tb.1 = 31 := by
   rcases hEb with ⟨h1, -⟩ | ⟨-, h1, -⟩ | ⟨-, -, -, h1⟩ | ⟨-, -, h1, -⟩ | ⟨-, -, h1, -⟩
   · rw [hyh] at h1; cases h1
   · omega
   · rw [h1]
   · omega
   omega
 refine goCh Hz (.move rfl <| .extract rfl rfl <| .extract rfl rfl .nil) fun Az Hz => ?_
 refine plz (e_alloc Hz m54 103 fct33 rfl fun g59 Az w60 Hz m60 _ _ => ?_)
 refine plz (stw Hz m60 103 fct32 fun w61 m61 _ => ?_)
 refine gz hK5 Hz (.assign rfl .nil) fun Az Hz => ?_
 replace Hz := Hz.oz [1, 2, 3, 4, 5, 7]
 refine zsr fun K6 hK6 => ?_
 refine goCh Hz (.loadBR m61 (i := 20) rfl rfl U33 rfl fct1 (by simp) (by dsimp only [List.drop, List.take] <;> rfl) .nil) fun Az Hz => ?_
 have m66 := m61.dat 104 rfl (Rd.l0 none 0 7)
 refine plz (ecl Hz Tryz.func14 rfl (efull_n _ y n hS hn _ _ _ _ _ _ _ [] _ _ _ 0 _ (by simp) (fun x hx => by cases hx) (m66.into [(3, 23), (4, 104)] (by decide) rfl)) ?_)
 rintro e w67 ⟨Tc, p67, c67, hEc, rfl, hm67⟩
 have mx67 := m66.back hm67 [(23, 3), (104, 4), (105, 9)] (by decide); clear hm67 m66
 have m67 := mx67.oz [23, 104, 105, 9, 20, 21, 22, 100, 101, 102, 103]
 refine ⟨_, rfl, ?_⟩; intro Az Hz
 have hrc : Tc.1 = 32 := by
   rcases hEc with ⟨h1, -⟩ | ⟨-, h1, -⟩ | ⟨-, -, h1, -⟩ | ⟨-, -, -, -, h1⟩ | ⟨-, -, -, h1, -⟩
   · rw [hyh] at h1; cases h1
   · omega
   · omega
   · rw [h1]
   obtain ⟨m, h2, -⟩ := h1 0 hpp
   cases h2
 refine goCh Hz (.move rfl <| .extract rfl rfl <| .extract rfl rfl .nil) fun Az Hz => ?_
 refine plz (e_alloc Hz m67 106 fct33 rfl fun g72 Az w73 Hz m73 _ _ => ?_)
 refine plz (stw Hz m73 106 fct32 fun w74 m74 _ => ?_)
 refine gz hK6 Hz (.assign rfl .nil) fun Az Hz => ?_
 replace Hz := Hz.oz [1, 2, 3, 4, 5, 7, 9]
 refine zsr fun K7 hK7 => ?_
 refine plz (ecb Hz Tryz.func27 rfl m74 (egather_nil _ _) fun Az w77 Hz m78 => ?_)
 refine goCh Hz (.move rfl <| .extract rfl rfl <| .extract rfl rfl <| .extract rfl rfl .nil) fun Az Hz => ?_
 refine plz (e_alloc Hz m78 107 fct2 rfl fun g84 Az w85 Hz m85 _ _ => ?_)
 refine plz (stw Hz m85 107 fct1 fun w86 m86 _ => ?_)
 refine gz hK7 Hz (.assign rfl <| .assign rfl <| .nil) fun Az Hz => ?_
 replace Hz := Hz.oz [1, 2, 3, 4, 5, 7, 9, 12]
 refine zsr fun K8 hK8 => ?_
 refine goCh Hz (.loadBR m86 (i := 20) rfl rfl U33 rfl fct1 (by simp) (by dsimp only [List.drop, List.take] <;> rfl) <| .move rfl .nil) fun Az Hz => ?_
 refine plz (ecl Hz Tryz.func19 rfl (epick_n _ y n hS hn _ _ _ _ _ _ _ (allL y y.place.length) _ _ _ 0 0 0 _ (by rw [allL_len]; omega) allL_lo hpp ⟨_, allL_mem hpp, by omega, by omega⟩ (m86.into [(3, 23), (4, 9)] (by decide) rfl)) ?_)
 rintro e w94 ⟨m9, p94, c94, -, -, rfl, hm94⟩
 have mx94 := m86.back hm94 [(23, 3), (9, 4), (108, 9)] (by decide); clear hm94 m86
 have m94 := mx94.oz [23, 9, 108, 20, 21, 22, 100, 101, 102, 103, 104, 105, 106, 107]
 refine ⟨_, rfl, ?_⟩; intro Az Hz
 refine goCh Hz (.move rfl <| .extract rfl rfl <| .extract rfl rfl .nil) fun Az Hz => ?_
 refine plz (e_alloc Hz m94 109 fct17 rfl fun g99 Az w100 Hz m100 _ _ => ?_)
 refine plz (stw Hz m100 109 fct12 fun w101 m101 _ => ?_)
 refine gz hK8 Hz (.assign rfl .nil) fun Az Hz => ?_
 replace Hz := Hz.oz [1, 2, 3, 4, 5, 7, 9, 12, 14]
 refine zsr fun K9 hK9 => ?_
 refine goCh Hz (.move rfl <| .eql rfl rfl <| .move rfl .nil) fun Az Hz => ?_
 refine bc Hz 60 ?_ ?_
 rotate_left
 · intro hb _; exact absurd hb (by first | (simp; done) | (simp; omega) | (simp [hra.1, hra.2.1, hrb, hrc]; done) | (simp [hra.1, hra.2.1, hrb, hrc]; omega))
 clear Hz; intro _ Hz
 refine goCh Hz (.faZ 2 rfl U42 <| .loadB1Z m101 (i := 101) rfl rfl rfl U2 rfl <| .eqlZ rfl rfl <| .pickT rfl rfl <| .move rfl .nil) fun Az Hz => ?_
 refine bc Hz 65 ?_ ?_
 rotate_left
 · intro hb _; exact absurd hb (by first | (simp; done) | (simp; omega) | (simp [hra.1, hra.2.1, hrb, hrc]; done) | (simp [hra.1, hra.2.1, hrb, hrc]; omega))
 clear Hz; intro _ Hz
 refine goCh Hz (.faZ 4 rfl U42 <| .loadB1Z m101 (i := 101) rfl rfl rfl U40 rfl <| .lenZ rfl U40 <| .faZ 1 rfl U33 <| .loadB1Z m101 (i := 20) rfl rfl rfl U3 rfl <| .eqlZ rfl rfl <| .pickT rfl rfl <| .move rfl .nil) fun Az Hz => ?_
 refine bc Hz 73 ?_ ?_
 rotate_left
 · intro hb _; exact absurd hb (by first | (simp; done) | (simp; omega) | (simp [hra.1, hra.2.1, hrb, hrc]; done) | (simp [hra.1, hra.2.1, hrb, hrc]; omega))
 clear Hz; intro _ Hz
 refine goCh Hz (.moveZ rfl <| .eqlZ rfl rfl <| .pickT rfl rfl <| .move rfl .nil) fun Az Hz => ?_
 refine bc Hz 77 ?_ ?_
 rotate_left
 · intro hb _; exact absurd hb (by first | (simp; done) | (simp; omega) | (simp [hra.1, hra.2.1, hrb, hrc]; done) | (simp [hra.1, hra.2.1, hrb, hrc]; omega))
 clear Hz; intro _ Hz
 refine goCh Hz (.moveZ rfl <| .eqlZ rfl rfl <| .pickT rfl rfl <| .move rfl .nil) fun Az Hz => ?_
 refine bc Hz 81 ?_ ?_
 rotate_left
 · intro hb _; exact absurd hb (by first | (simp; done) | (simp; omega) | (simp [hra.1, hra.2.1, hrb, hrc]; done) | (simp [hra.1, hra.2.1, hrb, hrc]; omega))
 clear Hz; intro _ Hz
 refine goCh Hz (.moveZ rfl <| .eqlZ rfl rfl <| .pickT rfl rfl <| .move rfl .nil) fun Az Hz => ?_
 refine bc Hz 85 ?_ ?_
 rotate_left
 · intro hb _; exact absurd hb (by first | (simp; done) | (simp; omega) | (simp [hra.1, hra.2.1, hrb, hrc]; done) | (simp [hra.1, hra.2.1, hrb, hrc]; omega))
 clear Hz; intro _ Hz
 refine gz hK9 Hz (.moveZ rfl <| .pickT rfl rfl <| .assign rfl <| .nil) fun Az Hz => ?_
 refine rt1 Hz ?_
 exact ⟨by (first | rfl | simp), m101.below⟩
end
section
theorem fl28gpo : flatS Tryz.prog 28 [.int .i64 0, .int .i64 0, .int .i64 0, .int .i64 0, .int .i64 0, .int .i64 0, .slice none 0 0] = true := by kernel_rfl
theorem fl28gro : flatS Tryz.prog 28 [.int .i64 0, .int .i64 0, .int .i64 0, .int .i64 0, .int .i64 0, .int .i64 0, .slice none 0 0] = true := by kernel_rfl
theorem lo_snoc {y : VolV} {L : List (Nat × Nat)} {k m : Nat} (h : ∀ x ∈ L, x.1 < y.place.length ∧ x.2 ≤ y.ws.length) (hk : k < y.place.length) (hm : m ≤ y.ws.length) : ∀ x ∈ L ++ [(k, m)], x.1 < y.place.length ∧ x.2 ≤ y.ws.length := by
 intro x hx
 rcases List.mem_append.1 hx with h1 | h1
 · exact h x h1
 obtain rfl := List.mem_singleton.1 h1
 exact ⟨hk, hm⟩
theorem kk_at {x : Int} {d : Nat} (hx : 0 ≤ x) (hd : 0 < d) : ∃ k : Nat, x.tmod (d : Int) = (k : Int) ∧ k < d := by
 rw [Int.tmod_eq_emod_of_nonneg hx]
 have h1 := Int.emod_nonneg x (show (d : Int) ≠ 0 by omega)
 have h2 := Int.emod_lt_of_pos x (show (0 : Int) < (d : Int) by omega)
 exact ⟨(x % (d : Int)).toNat, by omega, by omega⟩
theorem tm_at {x d : Int} (hx : 0 ≤ x) (hd : 0 < d) : ∃ r : Int, x.tmod d = r ∧ 0 ≤ r := ⟨_, rfl, by rw [Int.tmod_eq_emod_of_nonneg hx]; exact Int.emod_nonneg x (by omega)⟩
theorem pick_cases (y : VolV) (L : List (Nat × Nat)) (nv a b : Int) : ¬ (0 ≤ nv ∧ nv < (y.place.length : Int)) ∨ (∃ k : Nat, nv = (k : Int) ∧ k < y.place.length ∧ pkF y L k a b = none) ∨ ∃ k m : Nat, nv = (k : Int) ∧ k < y.place.length ∧ pkF y L k a b = some (k, m) := by
 by_cases h : 0 ≤ nv ∧ nv < (y.place.length : Int)
 · refine .inr ?_
   obtain ⟨k, rfl⟩ : ∃ k : Nat, nv = (k : Int) := ⟨nv.toNat, by omega⟩
   rcases hp : pkF y L k a b with _ | x
   · exact .inl ⟨k, rfl, by omega, hp⟩
   have h1 := (pkF_some hp).1.1
   exact .inr ⟨k, x.2, rfl, by omega, by rw [hp, ← h1]⟩
 exact .inl h
theorem esame_n (X : Cx) (vo ch cn sz mk fl : Int) (H : List (List Ver)) (p1 p2 : Option Addr) (n1 c1 n2 c2 : Nat) (w0 : World) (hl : H.length ≤ 1000000) (hok : ∀ h ∈ H, h.length ≤ 1000000) (m0 : MemOk X w0 [(1, .dat (.slice p1 n1 c1) (.l 1 (H.map hD))), (2, .dat (.slice p2 n2 c2) (.l 1 (H.map hD)))] w0) :
   Calls Tryz.prog 48 #[.agg #[.int .i64 vo, .int .i64 ch, .int .i64 cn, .int .i64 sz, .int .i64 mk, .int .i64 fl, .slice p1 n1 c1], .agg #[.int .i64 vo, .int .i64 ch, .int .i64 cn, .int .i64 sz, .int .i64 mk, .int .i64 fl, .slice p2 n2 c2]] w0 fun e w' => e = .returned (.bool true) ∧ MemOk X w0 [] w' := by
 obtain rfl : n1 = H.length := nnOf (m0.rd (i := 1) rfl)
 obtain rfl : n2 = H.length := nnOf (m0.rd (i := 2) rfl)
 refine (zsame_x X vo ch cn sz mk fl H p1 p2 c1 c2 w0 hl hok m0).mono fun e w' h => ?_
 exact ⟨h.1, h.2.ren [] (by decide)⟩
set_option maxRecDepth 100000
set_option maxHeartbeats 4000000
theorem echunks_x (X : Cx) (y : VolV) (n : Nat) (hS : VolS n y) (hn : n ≤ 1000) (pp pn pw : Option Addr) (cp nn9 cn9 cw : Nat) (l2 : List Int) (p2 : Option Addr) (c2 : Nat) (w0 : World) (hlb2 : ∀ j, j < l2.length → 0 ≤ l2.getD j 0 ∧ l2.getD j 0 ≤ 255) (hl2 : l2.length ≤ 1000) (m0 : MemOk X w0 [(3, .dat (.slice pw (y.ws.map wrD).length cw) (.l 2 (y.ws.map wrD))), (5, .dat (.slice p2 l2.length c2) (.ns .u8 l2))] w0) :
   Calls Tryz.prog 11 #[.agg #[.int .i64 y.vo, .int .i64 y.bl, .int .i64 y.sz, .int .i64 y.pe, .slice pp y.place.length cp, .int .i64 y.to, .int .i64 y.ne, .bool y.hi, .int .i64 y.fl, .slice pn nn9 cn9, .slice pw (y.ws.map wrD).length cw], .slice p2 l2.length c2] w0 fun e w' => ∃ (L : List (Nat × Nat)) (p9 : Option Addr) (c9 : Nat), L.length = l2.length ∧ (∀ x ∈ L, x.1 < y.place.length ∧ x.2 ≤ y.ws.length) ∧ e = .returned (.slice p9 ((L).map (ckD y)).length c9) ∧ MemOk X w0 [(3, .dat (.slice pw (y.ws.map wrD).length cw) (.l 2 (y.ws.map wrD))), (5, .dat (.slice p2 l2.length c2) (.ns .u8 l2)), (9, .row (.slice p9 ((L).map (ckD y)).length c9) 28 7 ((L).map (ckD y)))] w' := by
 refine ent2 Tryz.func11 rfl Tryz.ntmps11 fun Az Hz => ?_
 have hF := hS.f hn
 have hpp := place_pos hS
 have hpt := place_top hS
 have hwl := hF.wl
 refine zsr fun K0 hK0 => ?_
 refine plz (e_box Hz m0 40 (cs := [_, _, _, _, _, _, _, _, _, _, _]) rfl rfl rfl fun g1 Az w2 Hz m2 _ _ => ?_)
 refine gz hK0 Hz (.assign rfl .nil) fun Az Hz => ?_
 refine regS Hz (.assign rfl .nil) fun Az Hz => ?_
 refine wsk fun K1 hK1 => ?_
 refine regS Hz (.assign rfl .nil) fun Az Hz => ?_
 refine wp_block ?_
 refine wp_loop_ghost (fun g a w => ∃ (i B2 : Nat) (L : List (Nat × Nat)) (p9 : Option Addr) (c9 : Nat), i ≤ l2.length ∧ g = l2.length - i ∧ L.length = i ∧ (∀ x ∈ L, x.1 < y.place.length ∧ x.2 ≤ y.ws.length) ∧ Has 38 [(1, .slice p2 l2.length c2), (2, .pointer (some ⟨B2, 0, none⟩)), (5, .slice p9 ((L).map (ckD y)).length c9), (6, .int .i64 (i : Int))] a ∧ MemOk X w0 [(3, .dat (.slice pw (y.ws.map wrD).length cw) (.l 2 (y.ws.map wrD))), (5, .dat (.slice p2 l2.length c2) (.ns .u8 l2)), (20, .box B2 33 [.int .i64 y.vo, .int .i64 y.bl, .int .i64 y.sz, .int .i64 y.pe, .slice pp y.place.length cp, .int .i64 y.to, .int .i64 y.ne, .bool y.hi, .int .i64 y.fl, .slice pn nn9 cn9, .slice pw (y.ws.map wrD).length cw]), (9, .row (.slice p9 ((L).map (ckD y)).length c9) 28 7 ((L).map (ckD y)))] w) (l2.length) ?_ ?_
 · have mz := m2.nilR 9 28 7
   exact ⟨0, _, [], _, _, Nat.zero_le _, rfl, rfl, (fun x hx => by cases hx), Hz.only [1, 2, 5, 6], mz.ren [(3, 3), (5, 5), (20, 40), (9, 9)] (by decide)⟩
 clear Hz m2
 rintro g Az w6 ⟨i, B2, L, p9, c9, hil, hg, hLl, hLo, Hz, m6⟩
 refine wsk fun K2 hK2 => ?_
 refine regS Hz (.move rfl <| .move rfl <| .len rfl U22 <| .lss rfl rfl .nil) fun Az Hz => ?_
 refine bc Hz 10 ?_ ?_
 ·
  intro hb11 Hz; try simp only [QQ, Qax] at hb11
  have hi : i < l2.length := by have := hb11; first | omega | (simp at this; omega) | (simp at this; exact this)
  refine wct Hz ?_
  refine zss (hK2 _ _ ?_)
  refine wsk fun K3 hK3 => ?_
  refine wp_block ?_
  obtain ⟨b12, o12, hp12, m12⟩ := m6.openN (i := 5) rfl (i) hi 100 rfl
  revert Hz
  cases hp12
  intro Hz
  obtain ⟨b13, o13, hp13, m13⟩ := m12.openN (i := 5) rfl (i) hi 101 rfl
  revert Hz
  cases hp13
  intro Hz
  obtain ⟨x9, hx9, hx90, hx91⟩ : ∃ x : Int, l2.getD i 0 = x ∧ 0 ≤ x ∧ x ≤ 255 := ⟨_, rfl, (hlb2 i hi).1, (hlb2 i hi).2⟩
  obtain ⟨kk, hkk9, hkk⟩ := kk_at (x := x9) (d := y.place.length) hx90 hpp
  obtain ⟨q9, hq9, hq90⟩ : ∃ q : Int, x9.tdiv 8 = q ∧ 0 ≤ q ∧ q ≤ 255 := ⟨_, rfl, by rw [Int.tdiv_eq_ediv_of_nonneg (by omega)]; omega⟩
  obtain ⟨v9, hv9, hv90⟩ := tm_at (x := q9) (d := (y.ws.length : Int) + 4) (by omega) (by omega)
  have m14 := m13.oz [3, 5, 9, 20, 100, 101]
  refine region_p 21 (B := [(3, _), (5, _), (9, _), (20, _), (100, _), (101, _)]) (m14.to ⟨il, il, il, il, il, il, trivial⟩) m14 (by kernel_rfl) (fun w15 hP15 m15 => ?_); clear m14
  refine goR hP15 [0, 1, 2, 3, 4, 5, 6, 7, 8, 9, 10, 11, 12, 13, 14, 15, 16, 17] [1, 5, 8, 14, 17] 18 0 262143 Hz (m15.to ⟨il, il, il, il, il, il, trivial⟩) (.move rfl <| .loadBR hh (i := 20) rfl rfl U33 rfl fct1 (by simp) (by dsimp only [List.drop, List.take] <;> rfl) <| .move rfl <| .move rfl <| .p (fun _ _ h_ => y_idx h_ rfl rfl U22 fct34 (i) rfl hi) <| .loadC0 hh (i := 100) rfl rfl U5 rfl <| .conv rfl U5 U3 (r := x9) (by rw [hx9]; exact IntWalk.i64_in _ (by omega)) <| .fa 4 rfl U33 <| .lb hh 20 U29 rfl rfl rfl <| .len rfl U29 <| .rem rfl rfl (by omega) (r := (kk : Int)) hkk9 <| .move rfl <| .move rfl <| .p (fun _ _ h_ => y_idx h_ rfl rfl U22 fct34 (i) rfl hi) <| .loadC0 hh (i := 101) rfl rfl U5 rfl <| .quo rfl rfl (by decide) (r := q9) (by rw [hx9, hq9]; exact IntWalk.u8_in _ (by omega)) <| .conv rfl U5 U2 (r := q9) (IntWalk.i64_in _ (by omega)) <| .loadBR hh (i := 20) rfl rfl U33 rfl fct1 (by simp) (by dsimp only [List.drop, List.take] <;> rfl) .nil) fun Az Hz => ?_
  refine so 18 ?_
  refine ecb Hz Tryz.func13 rfl m15 (rlen_y y _ _ _ _ _ _ _ _ _) fun Az w34 Hz m35 => ?_
  refine ⟨m35.to ⟨il, il, il, il, il, il, trivial⟩, ?_⟩
  refine goA hP15 [19, 20] 2 524287 2097151 Hz (m35.to ⟨il, il, il, il, il, il, trivial⟩) (.add rfl rfl (r := (y.ws.length : Int) + 4) (IntWalk.i64_in _ (by omega)) <| .rem rfl rfl (by omega) (r := v9) hv9 .nil) fun Az Hz => ?_
  refine se 21 ?_
  refine ecl Hz Tryz.func12 rfl (zchunk_x _ y kk (fnY y kk) (cnY y kk) (ckY hS hkk) hF hS.1.its.1 _ _ _ _ _ _ _ _ _ (m35.into [(3, 3)] (by decide) rfl)) ?_
  rintro e w39 ⟨m9, p39, c39, hm9, -, rfl, hm39⟩
  have mx39 := m35.back hm39 [(3, 3), (102, 9)] (by decide); clear hm39 m35
  have m39 := mx39.oz [3, 102, 5, 9, 20, 100, 101]
  refine ⟨_, rfl, ?_⟩; intro Az Hz
  refine se 22 ?_
  refine e_litR Hz m39 103 (mm := 7) rfl (.cons rfl rfl (.cons (.v _) (.cons (.v _) (.cons (.v _) (.cons (.v _) (.cons (.v _) (.cons (.v _) (.cons (m39.rd (i := 102) rfl) .nil))))))) .nil) U23 fct36 rfl rfl rfl rfl rfl fun g41 Az w42 Hz m42 => ?_
  have m44 := m42.freezeR 103 rfl
  refine se 23 ?_
  refine e_appR Hz m44 9 rfl rfl rfl (m44.rd (i := 103) rfl) U23 fct36 rfl rfl (by decide) (by simp; omega) rfl fun p43 c43 Az w45 Hz m45 => ?_
  refine goB hP15 [24] 1 16777215 33554431 Hz (.assign rfl .nil) fun Az Hz => ?_
  refine wpAnyE_done (by kernel_rfl) ?_ _
  refine hK3 _ _ ?_
  replace Hz := Hz.oz [1, 2, 5, 6]
  refine wp_region_lit ?_
  refine goCh Hz (.move rfl <| .inc (i + 1) <| .assign rfl .nil) fun Az Hz => ?_
  refine wpList_nil ?_
  show ∃ n', n' < _ ∧ _
  have hE : ((L).map (ckD y)) ++ [[D.v (.int .i64 y.vo), .v (.int .i64 (kk : Int)), .v (.int .i64 (cnY y kk : Int)), .v (.int .i64 y.sz), .v (.int .i64 (m9 : Int)), .v (.int .i64 (min y.fl (m9 : Int))), .l 1 ((chN y (fnY y kk) (cnY y kk) m9).map hD)]] = ((L ++ [(kk, m9)]).map (ckD y)) := by rw [List.map_append]; rfl
  rw [hE] at m45 Hz
  exact ⟨l2.length - (i + 1), by omega, i + 1, _, L ++ [(kk, m9)], _, _, by omega, rfl, by rw [List.length_append, hLl]; rfl, lo_snoc hLo hkk hm9, Hz.only [1, 2, 5, 6], m45.ren [(3, 3), (5, 5), (20, 20), (9, 9)] (by decide)⟩
 intro hb11 Hz; try simp only [QQ, Qax] at hb11
 obtain rfl : i = l2.length := by have := hb11; first | omega | (simp at this; omega) | (simp at this; exact this)
 refine wcf Hz ?_
 refine wp_exit ?_
 refine hK1 _ _ ?_
 refine regS Hz (.move rfl <| .assign rfl .nil) fun Az Hz => ?_
 refine rt1 Hz ?_
 exact ⟨L, _, _, hLl, hLo, rfl, m6.ren [(3, 3), (5, 5), (9, 9)] (by decide)⟩
theorem smallck_x (vo ch cn sz mk fl : Int) (H : List (List Ver)) (p : Option Addr) (nn c : Nat) (w0 : World) (h1 : Rd (fun _ => True) w0 (.slice p nn c) (.l 1 (H.map hD))) :
   Calls Tryz.prog 9 #[.agg #[.int .i64 vo, .int .i64 ch, .int .i64 cn, .int .i64 sz, .int .i64 mk, .int .i64 fl, .slice p nn c]] w0 fun e w' => ∃ b : Bool, e = .returned (.bool b) ∧ Below w0.heap.size w0 w' := by
 refine ent1 Tryz.func9 rfl Tryz.ntmps9 fun Az Hz => ?_
 have m0 := MemOk.start (fun _ => False) w0
 revert Hz
 obtain rfl : nn = H.length := nnOf h1
 intro Hz
 refine zsr fun K0 hK0 => ?_
 refine plz (e_box Hz m0 40 (cs := [_, _, _, _, _, _, _]) rfl rfl rfl fun g1 Az w2 Hz m2 _ _ => ?_)
 refine gz hK0 Hz (.assign rfl .nil) fun Az Hz => ?_
 refine wsk fun K1 hK1 => ?_
 refine regS Hz (.fa 6 rfl U28 <| .lb m2 40 U26 rfl rfl rfl <| .len rfl U26 <| .gtr rfl rfl .nil) fun Az Hz => ?_
 refine bc Hz 8 ?_ ?_
 ·
  intro hb8 Hz; try simp only [QQ, Qax] at hb8
  refine wct Hz ?_
  refine regS Hz (.assign rfl .nil) fun Az Hz => ?_
  refine rt1 Hz ?_
  exact ⟨_, rfl, m2.below⟩
 intro hb8 Hz; try simp only [QQ, Qax] at hb8
 have hH20 : H.length ≤ 20 := by have := hb8; first | omega | (simp at this; omega) | (simp at this; exact this)
 refine wcf Hz ?_
 refine zss (hK1 _ _ ?_)
 refine wsk fun K2 hK2 => ?_
 refine regS Hz (.assign rfl .nil) fun Az Hz => ?_
 refine wp_block ?_
 refine wp_loop_ghost (fun g a w => ∃ (i B1 : Nat), i ≤ H.length ∧ g = H.length - i ∧ Has 44 [(1, .pointer (some ⟨B1, 0, none⟩)), (3, .int .i64 (i : Int))] a ∧ MemOk (cx (fun _ => False) w0) w0 [(20, .box B1 28 [.int .i64 vo, .int .i64 ch, .int .i64 cn, .int .i64 sz, .int .i64 mk, .int .i64 fl, .slice p H.length c])] w) (H.length) ?_ ?_
 · exact ⟨0, _, Nat.zero_le _, rfl, Hz.only [1, 3], m2.ren [(20, 40)] (by decide)⟩
 clear Hz m2
 rintro g Az w11 ⟨i, B1, hil, hg, Hz, m11⟩
 refine wsk fun K3 hK3 => ?_
 refine regS Hz (.move rfl <| .fa 6 rfl U28 <| .lb m11 20 U26 rfl rfl rfl <| .len rfl U26 <| .lss rfl rfl .nil) fun Az Hz => ?_
 refine bc Hz 13 ?_ ?_
 ·
  intro hb17 Hz; try simp only [QQ, Qax] at hb17
  have hi : i < H.length := by have := hb17; first | omega | (simp at this; omega) | (simp at this; exact this)
  obtain ⟨hh9, hes⟩ : ∃ x, H[i]? = some x := ⟨_, List.getElem?_eq_getElem hi⟩
  refine wct Hz ?_
  refine zss (hK3 _ _ ?_)
  refine wsk fun K4 hK4 => ?_
  refine wp_block ?_
  refine wsk fun K5 hK5 => ?_
  refine zsr fun K6 hK6 => ?_
  refine goCh Hz (.fa 6 rfl U28 <| .lb m11 20 U26 rfl rfl rfl <| .move rfl .nil) fun Az Hz => ?_
  obtain ⟨gx25, ox25, vx25, hp25, hl25, hR25, hrg25⟩ := h1.extA (i) (r := [.l 2 (hh9.map itD)]) (hD_get hes)
  revert Hz
  cases hp25
  rcases hR25 with _ | ⟨hd25_0, _ | _⟩
  obtain ⟨p26, c26, hv26, hw26⟩ := hd25_0.l_shape; subst hv26
  intro Hz
  refine gz hK6 Hz (.c rfl (fun _ h_ => y_idx h_ rfl rfl U26 fct13 (i) rfl hi) <| .loadAt1 (hrg25 m11 rfl) (q := 0) rfl rfl rfl U69 rfl <| .len rfl U69 <| .gtr rfl rfl <| .nil) fun Az Hz => ?_
  refine bc Hz 22 ?_ ?_
  ·
   intro hb31 Hz; try simp only [QQ, Qax] at hb31
   refine wct Hz ?_
   replace Hz := Hz.oz [1, 3]
   refine regS Hz (.assign rfl .nil) fun Az Hz => ?_
   refine rt1 Hz ?_
   exact ⟨_, rfl, m11.below⟩
  intro hb31 Hz; try simp only [QQ, Qax] at hb31
  have hh10 : hh9.length ≤ 10 := by have := hb31; simp at this; omega
  refine wcf Hz ?_
  refine zss (hK5 _ _ ?_)
  replace Hz := Hz.oz [1, 3]
  refine regS Hz (.assign rfl .nil) fun Az Hz => ?_
  refine wp_block ?_
  refine wp_loop_ghost (fun g a w => ∃ (j B1 : Nat), j ≤ hh9.length ∧ g = hh9.length - j ∧ Has 44 [(1, .pointer (some ⟨B1, 0, none⟩)), (3, .int .i64 (i : Int)), (4, .int .i64 (j : Int))] a ∧ MemOk (cx (fun _ => False) w0) w0 [(20, .box B1 28 [.int .i64 vo, .int .i64 ch, .int .i64 cn, .int .i64 sz, .int .i64 mk, .int .i64 fl, .slice (some ⟨gx25, ox25, none⟩) H.length c])] w) (hh9.length) ?_ ?_
  · exact ⟨0, _, Nat.zero_le _, rfl, Hz.only [1, 3, 4], m11.ren [(20, 20)] (by decide)⟩
  clear Hz m11
  rintro g Az w36 ⟨j, B1, hjl, hg2, Hz, m36⟩
  refine wsk fun K7 hK7 => ?_
  refine zsr fun K8 hK8 => ?_
  refine goCh Hz (.move rfl <| .fa 6 rfl U28 <| .lb m36 20 U26 rfl rfl rfl <| .move rfl .nil) fun Az Hz => ?_
  obtain ⟨gx46, ox46, vx46, hp46, hl46, hR46, hrg46⟩ := h1.extA (i) (r := [.l 2 (hh9.map itD)]) (hD_get hes)
  revert Hz
  cases hp46
  rcases hR46 with _ | ⟨hd46_0, _ | _⟩
  obtain ⟨p47, c47, hv47, hw47⟩ := hd46_0.l_shape; subst hv47
  intro Hz
  refine gz hK8 Hz (.c rfl (fun _ h_ => y_idx h_ rfl rfl U26 fct13 (i) rfl hi) <| .loadAt1 (hrg46 m36 rfl) (q := 0) rfl rfl rfl U69 rfl <| .len rfl U69 <| .lss rfl rfl <| .nil) fun Az Hz => ?_
  refine bc Hz 30 ?_ ?_
  ·
   intro hb52 Hz; try simp only [QQ, Qax] at hb52
   have hj : j < hh9.length := by have := hb52; simp at this; omega
   obtain ⟨⟨xs, xd⟩, hes2⟩ : ∃ e, hh9[j]? = some e := ⟨_, List.getElem?_eq_getElem hj⟩
   refine wct Hz ?_
   refine zss (hK7 _ _ ?_)
   refine wsk fun K9 hK9 => ?_
   refine wp_block ?_
   replace Hz := Hz.oz [1, 3, 4]
   refine zsr fun K10 hK10 => ?_
   refine goCh Hz (.fa 6 rfl U28 <| .lb m36 20 U26 rfl rfl rfl <| .move rfl .nil) fun Az Hz => ?_
   obtain ⟨gx61, ox61, vx61, hp61, hl61, hR61, hrg61⟩ := h1.extA (i) (r := [.l 2 (hh9.map itD)]) (hD_get hes)
   revert Hz
   cases hp61
   rcases hR61 with _ | ⟨hd61_0, _ | _⟩
   obtain ⟨p62, c62, hv62, hw62⟩ := hd61_0.l_shape; subst hv62
   intro Hz
   refine goCh Hz (.c rfl (fun _ h_ => y_idx h_ rfl rfl U26 fct13 (i) rfl hi) <| .loadAt1 (hrg61 m36 rfl) (q := 0) rfl rfl rfl U69 rfl <| .move rfl .nil) fun Az Hz => ?_
   obtain ⟨gx66, ox66, vx66, hp66, hl66, hR66, hrg66⟩ := hd61_0.extA (j) (r := [.v (.int .i64 xs), .ns .u8 xd]) (itD_get hes2)
   revert Hz
   cases hp66
   rcases hR66 with _ | ⟨hd66_0, _ | ⟨hd66_1, _ | _⟩⟩
   obtain rfl := hd66_0.v_out
   clear hd66_0
   obtain ⟨p67, c67, hv67, hw67⟩ := hd66_1.ns_shape; subst hv67
   intro Hz
   refine gz hK10 Hz (.c rfl (fun _ h_ => y_idx h_ rfl rfl U69 fct0 (j) rfl (by rw [List.length_map]; exact hj)) <| .fieldAddrQ 1 rfl U71 rfl (s := 0) (by kernel_rfl) rfl <| .loadAt1 (hrg66 m36 rfl) (q := 1) rfl rfl rfl U22 rfl <| .len rfl U22 <| .gtr rfl rfl <| .nil) fun Az Hz => ?_
   refine bc Hz 43 ?_ ?_
   ·
    intro hb73 Hz; try simp only [QQ, Qax] at hb73
    refine wct Hz ?_
    replace Hz := Hz.oz [1, 3, 4]
    refine regS Hz (.assign rfl .nil) fun Az Hz => ?_
    refine rt1 Hz ?_
    exact ⟨_, rfl, m36.below⟩
   intro hb73 Hz; try simp only [QQ, Qax] at hb73
   refine wcf Hz ?_
   refine zss (hK9 _ _ ?_)
   replace Hz := Hz.oz [1, 3, 4]
   refine wp_region_lit ?_
   refine goCh Hz (.move rfl <| .inc (j + 1) <| .assign rfl .nil) fun Az Hz => ?_
   refine wpList_nil ?_
   show ∃ n', n' < _ ∧ _
   exact ⟨hh9.length - (j + 1), by omega, j + 1, _, by omega, rfl, Hz.only [1, 3, 4], m36.ren [(20, 20)] (by decide)⟩
  intro hb52 Hz; try simp only [QQ, Qax] at hb52
  refine wcf Hz ?_
  refine wp_exit ?_
  refine hK4 _ _ ?_
  replace Hz := Hz.oz [1, 3, 4]
  refine wp_region_lit ?_
  refine goCh Hz (.move rfl <| .inc (i + 1) <| .assign rfl .nil) fun Az Hz => ?_
  refine wpList_nil ?_
  show ∃ n', n' < _ ∧ _
  exact ⟨H.length - (i + 1), by omega, i + 1, _, by omega, rfl, Hz.only [1, 3], m36.ren [(20, 20)] (by decide)⟩
 intro hb17 Hz; try simp only [QQ, Qax] at hb17
 refine wcf Hz ?_
 refine wp_exit ?_
 refine hK2 _ _ ?_
 refine regS Hz (.assign rfl .nil) fun Az Hz => ?_
 refine rt1 Hz ?_
 exact ⟨_, rfl, m11.below⟩
theorem streams_x (bl sz fr to : Int) (its : List (Int × List Int)) (p1 p2 : Option Addr) (n1 n2 c1 c2 : Nat) (w0 : World) (h1 : Rd (fun _ => True) w0 (.slice p1 n1 c1) (.l 2 (its.map itD))) (h2 : Rd (fun _ => True) w0 (.slice p2 n2 c2) (.l 2 (its.map itD))) (hil : its.length ≤ 1000000) :
   Calls Tryz.prog 16 #[.agg #[.int .i64 bl, .int .i64 sz, .int .i64 fr, .int .i64 to, .slice p1 n1 c1], .agg #[.int .i64 bl, .int .i64 sz, .int .i64 fr, .int .i64 to, .slice p2 n2 c2]] w0 fun e w' => e = .returned (.bool true) ∧ Below w0.heap.size w0 w' := by
 refine ent2 Tryz.func16 rfl Tryz.ntmps16 fun Az Hz => ?_
 have m0 := MemOk.start (fun _ => False) w0
 refine zsr fun K0 hK0 => ?_
 refine plz (e_box Hz m0 40 (cs := [_, _, _, _, _]) rfl rfl rfl fun g1 Az w2 Hz m2 _ _ => ?_)
 refine plz (e_box Hz m2 41 (cs := [_, _, _, _, _]) rfl rfl rfl fun g3 Az w4 Hz m4 _ _ => ?_)
 refine gz hK0 Hz (.assign rfl .nil) fun Az Hz => ?_
 refine zsr fun K1 hK1 => ?_
 refine goCh Hz (.fa 0 rfl U42 <| .lb m4 40 U3 rfl rfl rfl <| .fa 0 rfl U42 <| .lb m4 41 U3 rfl rfl rfl <| .eql rfl rfl <| .move rfl .nil) fun Az Hz => ?_
 refine bc Hz 10 ?_ ?_
 rotate_left
 · intro hb _; exact absurd hb (by first | (simp; done) | (simp; omega))
 clear Hz; intro _ Hz
 refine goCh Hz (.faZ 1 rfl U42 <| .loadB1Z m4 (i := 40) rfl rfl rfl U3 rfl <| .faZ 1 rfl U42 <| .loadB1Z m4 (i := 41) rfl rfl rfl U3 rfl <| .eqlZ rfl rfl <| .pickT rfl rfl <| .move rfl .nil) fun Az Hz => ?_
 refine bc Hz 17 ?_ ?_
 rotate_left
 · intro hb _; exact absurd hb (by first | (simp; done) | (simp; omega))
 clear Hz; intro _ Hz
 refine goCh Hz (.faZ 2 rfl U42 <| .loadB1Z m4 (i := 40) rfl rfl rfl U2 rfl <| .faZ 2 rfl U42 <| .loadB1Z m4 (i := 41) rfl rfl rfl U2 rfl <| .eqlZ rfl rfl <| .pickT rfl rfl <| .move rfl .nil) fun Az Hz => ?_
 refine bc Hz 24 ?_ ?_
 rotate_left
 · intro hb _; exact absurd hb (by first | (simp; done) | (simp; omega))
 clear Hz; intro _ Hz
 refine goCh Hz (.faZ 3 rfl U42 <| .loadB1Z m4 (i := 40) rfl rfl rfl U2 rfl <| .faZ 3 rfl U42 <| .loadB1Z m4 (i := 41) rfl rfl rfl U2 rfl <| .eqlZ rfl rfl <| .pickT rfl rfl <| .move rfl .nil) fun Az Hz => ?_
 refine bc Hz 31 ?_ ?_
 rotate_left
 · intro hb _; exact absurd hb (by first | (simp; done) | (simp; omega))
 clear Hz; intro _ Hz
 refine goCh Hz (.faZ 4 rfl U42 <| .loadB1Z m4 (i := 40) rfl rfl rfl U40 rfl <| .faZ 4 rfl U42 <| .loadB1Z m4 (i := 41) rfl rfl rfl U40 rfl .nil) fun Az Hz => ?_
 refine stz Hz (ecb Hz Tryz.func42 rfl m4 (sitems_any its _ _ _ _ _ _ _ ((h1.now' m4 rfl).any) ((h2.now' m4 rfl).any) hil) fun Az w47 Hz m48 => ?_)
 refine gz hK1 Hz (.pickT rfl rfl <| .assign rfl <| .nil) fun Az Hz => ?_
 refine rt1 Hz ?_
 exact ⟨by (first | rfl | simp), m48.below⟩
theorem chunks_one (X : Cx) (vo ch cn sz mk fl : Int) (H : List (List Ver)) (p1 p2 : Option Addr) (c1 c2 : Nat) (w0 : World) (hl : H.length ≤ 1000000) (hok : ∀ h ∈ H, h.length ≤ 1000000) (m0 : MemOk X w0 [(1, .dat (.slice p1 1 c1) (.l 7 [[D.v (.int .i64 vo), .v (.int .i64 ch), .v (.int .i64 cn), .v (.int .i64 sz), .v (.int .i64 mk), .v (.int .i64 fl), .l 1 (H.map hD)]])), (2, .dat (.slice p2 1 c2) (.l 7 [[D.v (.int .i64 vo), .v (.int .i64 ch), .v (.int .i64 cn), .v (.int .i64 sz), .v (.int .i64 mk), .v (.int .i64 fl), .l 1 (H.map hD)]]))] w0) :
   Calls Tryz.prog 21 #[.slice p1 1 c1, .slice p2 1 c2] w0 fun e w' => e = .returned (.bool true) ∧ MemOk X w0 [] w' := by
 refine ent2 Tryz.func21 rfl Tryz.ntmps21 fun Az Hz => ?_
 refine regS Hz (.assign rfl .nil) fun Az Hz => ?_
 refine wsk fun K0 hK0 => ?_
 refine regS Hz (.move rfl <| .len rfl U23 <| .move rfl <| .len rfl U23 <| .neq rfl rfl .nil) fun Az Hz => ?_
 refine bc Hz 10 ?_ ?_
 · intro hb _; exact absurd hb (by simp)
 clear Hz; intro _ Hz
 refine wcf Hz ?_
 refine zss (hK0 _ _ ?_)
 refine wsk fun K1 hK1 => ?_
 refine regS Hz (.assign rfl .nil) fun Az Hz => ?_
 refine wp_block ?_
 refine wp_loop_ghost (fun g a w => ∃ (i : Nat), i ≤ 1 ∧ g = 1 - i ∧ Has 27 [(0, .slice p1 1 c1), (1, .slice p2 1 c2), (5, .int .i64 (i : Int))] a ∧ MemOk X w0 [(1, .dat (.slice p1 1 c1) (.l 7 [[D.v (.int .i64 vo), .v (.int .i64 ch), .v (.int .i64 cn), .v (.int .i64 sz), .v (.int .i64 mk), .v (.int .i64 fl), .l 1 (H.map hD)]])), (2, .dat (.slice p2 1 c2) (.l 7 [[D.v (.int .i64 vo), .v (.int .i64 ch), .v (.int .i64 cn), .v (.int .i64 sz), .v (.int .i64 mk), .v (.int .i64 fl), .l 1 (H.map hD)]]))] w) (1) ?_ ?_
 · exact ⟨0, Nat.zero_le _, rfl, Hz.only [0, 1, 5], m0.only [1, 2]⟩
 clear Hz m0
 rintro g Az w9 ⟨i, hil, hg, Hz, m9⟩
 refine wsk fun K2 hK2 => ?_
 refine regS Hz (.move rfl <| .move rfl <| .len rfl U23 <| .lss rfl rfl .nil) fun Az Hz => ?_
 refine bc Hz 14 ?_ ?_
 ·
  intro hb14 Hz; try simp only [QQ, Qax] at hb14
  obtain rfl : i = 0 := by have := hb14; first | omega | (simp at this; omega) | (simp at this; exact this)
  refine wct Hz ?_
  refine zss (hK2 _ _ ?_)
  refine wsk fun K3 hK3 => ?_
  refine wp_block ?_
  refine wsk fun K4 hK4 => ?_
  obtain ⟨b15, o15, vs15, hp15, hR15, ho15, m15⟩ := m9.openR (i := 1) rfl (0) (r := [D.v (.int .i64 vo), .v (.int .i64 ch), .v (.int .i64 cn), .v (.int .i64 sz), .v (.int .i64 mk), .v (.int .i64 fl), .l 1 (H.map hD)]) rfl 100 rfl
  revert Hz
  cases hp15; clear m9 ho15
  rcases hR15 with _ | ⟨hd15_0, _ | ⟨hd15_1, _ | ⟨hd15_2, _ | ⟨hd15_3, _ | ⟨hd15_4, _ | ⟨hd15_5, _ | ⟨hd15_6, _ | _⟩⟩⟩⟩⟩⟩⟩
  obtain rfl := hd15_0.v_out
  clear hd15_0
  obtain rfl := hd15_1.v_out
  clear hd15_1
  obtain rfl := hd15_2.v_out
  clear hd15_2
  obtain rfl := hd15_3.v_out
  clear hd15_3
  obtain rfl := hd15_4.v_out
  clear hd15_4
  obtain rfl := hd15_5.v_out
  clear hd15_5
  obtain ⟨p16, c16, hv16, hc16⟩ := hd15_6.l_shape; subst hv16
  intro Hz
  have m16 := m15.dat 101 rfl (hd15_6.cast (fun _ h => (free_add rfl h))); clear m15 hd15_6
  obtain ⟨b17, o17, vs17, hp17, hR17, ho17, m17⟩ := m16.openR (i := 2) rfl (0) (r := [D.v (.int .i64 vo), .v (.int .i64 ch), .v (.int .i64 cn), .v (.int .i64 sz), .v (.int .i64 mk), .v (.int .i64 fl), .l 1 (H.map hD)]) rfl 102 rfl
  revert Hz
  cases hp17; clear m16 ho17
  rcases hR17 with _ | ⟨hd17_0, _ | ⟨hd17_1, _ | ⟨hd17_2, _ | ⟨hd17_3, _ | ⟨hd17_4, _ | ⟨hd17_5, _ | ⟨hd17_6, _ | _⟩⟩⟩⟩⟩⟩⟩
  obtain rfl := hd17_0.v_out
  clear hd17_0
  obtain rfl := hd17_1.v_out
  clear hd17_1
  obtain rfl := hd17_2.v_out
  clear hd17_2
  obtain rfl := hd17_3.v_out
  clear hd17_3
  obtain rfl := hd17_4.v_out
  clear hd17_4
  obtain rfl := hd17_5.v_out
  clear hd17_5
  obtain ⟨p18, c18, hv18, hc18⟩ := hd17_6.l_shape; subst hv18
  intro Hz
  have m18 := m17.dat 103 rfl (hd17_6.cast (fun _ h => (free_add rfl h))); clear m17 hd17_6
  have m19 := m18.oz [1, 2, 100, 101, 102, 103]
  refine region_p 8 (B := [(1, _), (2, _), (100, _), (101, _), (102, _), (103, _)]) (m19.to ⟨il, il, il, il, il, il, trivial⟩) m19 (by kernel_rfl) (fun w20 hP20 m20 => ?_); clear m19
  refine goR hP20 [0, 1, 2, 3, 4, 5, 6, 7] [3, 7] 8 0 255 Hz (m20.to ⟨il, il, il, il, il, il, trivial⟩) (.move rfl <| .move rfl <| .p (fun _ _ h_ => y_idx h_ rfl rfl U23 fct12 (0) rfl (by decide)) <| .loadCR hh (i := 100) rfl rfl U28 rfl fct12 <| .move rfl <| .move rfl <| .p (fun _ _ h_ => y_idx h_ rfl rfl U23 fct12 (0) rfl (by decide)) <| .loadCR hh (i := 102) rfl rfl U28 rfl fct12 .nil) fun Az Hz => ?_
  refine se 8 ?_
  refine ecl Hz Tryz.func48 rfl (esame_n _ vo ch cn sz mk fl H _ _ _ _ _ _ _ hl hok (m20.into [(1, 101), (2, 103)] (by decide) rfl)) ?_
  rintro e w29 ⟨rfl, hm29⟩
  have mx29 := m20.back hm29 [] (by decide); clear hm29 m20
  have m29 := mx29.oz [1, 2, 100, 102]
  refine ⟨_, rfl, ?_⟩; intro Az Hz
  refine goB hP20 [9] 1 511 1023 Hz (.not rfl .nil) fun Az Hz => ?_
  refine wpAnyE_done (by kernel_rfl) ?_ _
  refine hK4 _ _ ?_
  refine wcf Hz ?_
  refine zss (hK3 _ _ ?_)
  replace Hz := Hz.oz [0, 1, 5]
  refine wp_region_lit ?_
  refine goCh Hz (.move rfl <| .inc (0 + 1) <| .assign rfl .nil) fun Az Hz => ?_
  refine wpList_nil ?_
  show ∃ n', n' < _ ∧ _
  exact ⟨0, by omega, 0 + 1, by omega, rfl, Hz.only [0, 1, 5], m29.only [1, 2]⟩
 intro hb14 Hz; try simp only [QQ, Qax] at hb14
 refine wcf Hz ?_
 refine wp_exit ?_
 refine hK1 _ _ ?_
 refine regS Hz (.assign rfl .nil) fun Az Hz => ?_
 refine rt1 Hz ?_
 exact ⟨rfl, m9.ren [] (by decide)⟩
theorem epick_out (X : Cx) (y : VolV) (n : Nat) (hS : VolS n y) (hn : n ≤ 1000) (pp pn pw : Option Addr) (cp nn9 cn9 cw : Nat) (L : List (Nat × Nat)) (pl : Option Addr) (cl : Nat) (nv a9 b9 : Int) (w0 : World) (hno : ¬ (0 ≤ nv ∧ nv < (y.place.length : Int))) (m0 : MemOk X w0 [(3, .dat (.slice pw (y.ws.map wrD).length cw) (.l 2 (y.ws.map wrD))), (4, .dat (.slice pl L.length cl) (.l 7 (L.map (ckD y))))] w0) :
   Calls Tryz.prog 19 #[.agg #[.int .i64 y.vo, .int .i64 y.bl, .int .i64 y.sz, .int .i64 y.pe, .slice pp y.place.length cp, .int .i64 y.to, .int .i64 y.ne, .bool y.hi, .int .i64 y.fl, .slice pn nn9 cn9, .slice pw (y.ws.map wrD).length cw], .slice pl L.length cl, .int .i64 nv, .int .i64 a9, .int .i64 b9] w0 fun e w' => e = .returned (.tuple #[.agg #[.int .i64 0, .int .i64 0, .int .i64 0, .int .i64 0, .int .i64 0, .int .i64 0, .slice none 0 0], .bool false]) ∧ MemOk X w0 [(3, .dat (.slice pw (y.ws.map wrD).length cw) (.l 2 (y.ws.map wrD))), (4, .dat (.slice pl L.length cl) (.l 7 (L.map (ckD y))))] w' := by
 refine ent5 Tryz.func19 rfl Tryz.ntmps19 fun Az Hz => ?_
 refine zsr fun K0 hK0 => ?_
 refine plz (e_box Hz m0 40 (cs := [_, _, _, _, _, _, _, _, _, _, _]) rfl rfl rfl fun g1 Az w2 Hz m2 _ _ => ?_)
 refine plz (e_alloc Hz m2 41 fct17 rfl fun g3 Az w4 Hz m4 _ _ => ?_)
 refine gz hK0 Hz (.assign rfl .nil) fun Az Hz => ?_
 refine zsr fun K1 hK1 => ?_
 refine goCh Hz (.loadBR m4 (i := 40) rfl rfl U33 rfl fct1 (by simp) (by dsimp only [List.drop, List.take] <;> rfl) <| .move rfl .nil) fun Az Hz => ?_
 refine plz (ecb Hz Tryz.func45 rfl m4 (vpush_no _ _ _ _ _ _ _ _ _ _ _ _ y.place _ _ _ _ _ _ _ (fun h => hno h.1)) fun Az w10 Hz m11 => ?_)
 refine goCh Hz (.move rfl <| .extract rfl rfl <| .extract rfl rfl .nil) fun Az Hz => ?_
 refine plz (e_alloc Hz m11 42 fct28 rfl fun g16 Az w17 Hz m17 _ _ => ?_)
 refine plz (stw Hz m17 42 fct14 fun w18 m18 _ => ?_)
 refine gz hK1 Hz (.assign rfl .nil) fun Az Hz => ?_
 refine wsk fun K2 hK2 => ?_
 replace Hz := Hz.oz [1, 3, 4, 10, 11, 12, 13]
 refine regS Hz (.move rfl <| .not rfl .nil) fun Az Hz => ?_
 refine wct Hz ?_
 refine zsr fun K3 hK3 => ?_
 refine goCh Hz (.build rfl fct17 fl28gpo rfl (by dsimp only [setL, List.set] <;> rfl) .nil) fun Az Hz => ?_
 refine plz (stw Hz m18 41 fct12 fun w25 m25 _ => ?_)
 refine gz hK3 Hz (.assign rfl .nil) fun Az Hz => ?_
 refine rtd (retCT (fn := Tryz.f19) Hz m25 (i := 41) rfl rfl rfl rfl U28 rfl fct12 ?_)
 exact ⟨rfl, m25.ren [(3, 3), (4, 4)] (by decide)⟩
theorem erpick_out (X : Cx) (y : VolV) (n : Nat) (hS : VolS n y) (hn : n ≤ 1000) (pp pn pw : Option Addr) (cp nn9 cn9 cw : Nat) (L : List (Nat × Nat)) (pl : Option Addr) (cl : Nat) (nv a9 b9 : Int) (w0 : World) (hL : L.length ≤ 1000000) (hno : ¬ (0 ≤ nv ∧ nv < (y.place.length : Int))) (m0 : MemOk X w0 [(3, .dat (.slice pw (y.ws.map wrD).length cw) (.l 2 (y.ws.map wrD))), (4, .dat (.slice pl L.length cl) (.l 7 (L.map (ckD y))))] w0) :
   Calls Tryz.prog 20 #[.agg #[.int .i64 y.vo, .int .i64 y.bl, .int .i64 y.sz, .int .i64 y.pe, .slice pp y.place.length cp, .int .i64 y.to, .int .i64 y.ne, .bool y.hi, .int .i64 y.fl, .slice pn nn9 cn9, .slice pw (y.ws.map wrD).length cw], .slice pl L.length cl, .int .i64 nv, .int .i64 a9, .int .i64 b9] w0 fun e w' => e = .returned (.tuple #[.agg #[.int .i64 0, .int .i64 0, .int .i64 0, .int .i64 0, .int .i64 0, .int .i64 0, .slice none 0 0], .bool false]) ∧ MemOk X w0 [(3, .dat (.slice pw (y.ws.map wrD).length cw) (.l 2 (y.ws.map wrD))), (4, .dat (.slice pl L.length cl) (.l 7 (L.map (ckD y))))] w' := by
 refine ent5 Tryz.func20 rfl Tryz.ntmps20 fun Az Hz => ?_
 refine zsr fun K0 hK0 => ?_
 refine plz (e_box Hz m0 40 (cs := [_, _, _, _, _, _, _, _, _, _, _]) rfl rfl rfl fun g1 Az w2 Hz m2 _ _ => ?_)
 refine plz (e_alloc Hz m2 41 fct17 rfl fun g3 Az w4 Hz m4 _ _ => ?_)
 refine gz hK0 Hz (.assign rfl .nil) fun Az Hz => ?_
 refine zsr fun K1 hK1 => ?_
 refine goCh Hz (.loadBR m4 (i := 40) rfl rfl U33 rfl fct1 (by simp) (by dsimp only [List.drop, List.take] <;> rfl) <| .move rfl .nil) fun Az Hz => ?_
 refine plz (ecb Hz Tryz.func47 rfl m4 (rcount_no _ _ _ _ _ _ _ _ _ _ _ _ y.place _ _ _ _ _ _ hno) fun Az w10 Hz m11 => ?_)
 refine gz hK1 Hz (.assign rfl .nil) fun Az Hz => ?_
 refine wsk fun K2 hK2 => ?_
 refine regS Hz (.assign rfl .nil) fun Az Hz => ?_
 refine wp_block ?_
 refine wp_loop_ghost (fun g a w => ∃ (i B5 B10 : Nat), i ≤ L.length ∧ g = L.length - i ∧ Has 70 [(1, .slice pl L.length cl), (2, .int .i64 nv), (3, .int .i64 a9), (4, .int .i64 b9), (5, .pointer (some ⟨B5, 0, none⟩)), (10, .pointer (some ⟨B10, 0, none⟩)), (12, .int .i64 0), (13, .int .i64 (i : Int))] a ∧ MemOk X w0 [(3, .dat (.slice pw (y.ws.map wrD).length cw) (.l 2 (y.ws.map wrD))), (4, .dat (.slice pl L.length cl) (.l 7 (L.map (ckD y)))), (20, .box B10 28 [.int .i64 0, .int .i64 0, .int .i64 0, .int .i64 0, .int .i64 0, .int .i64 0, .slice none 0 0]), (21, .box B5 33 [.int .i64 y.vo, .int .i64 y.bl, .int .i64 y.sz, .int .i64 y.pe, .slice pp y.place.length cp, .int .i64 y.to, .int .i64 y.ne, .bool y.hi, .int .i64 y.fl, .slice pn nn9 cn9, .slice pw (y.ws.map wrD).length cw])] w) (L.length) ?_ ?_
 · exact ⟨0, _, _, Nat.zero_le _, rfl, Hz.only [1, 2, 3, 4, 5, 10, 12, 13], m11.ren [(3, 3), (4, 4), (20, 41), (21, 40)] (by decide)⟩
 clear Hz m11
 rintro g Az w15 ⟨i, B5, B10, hil, hg, Hz, m15⟩
 refine wsk fun K3 hK3 => ?_
 refine regS Hz (.move rfl <| .move rfl <| .len rfl U23 <| .lss rfl rfl .nil) fun Az Hz => ?_
 refine bc Hz 21 ?_ ?_
 ·
  intro hb20 Hz; try simp only [QQ, Qax] at hb20
  have hi : i < L.length := by have := hb20; first | omega | (simp at this; omega) | (simp at this; exact this)
  obtain ⟨⟨xk, xm⟩, hes⟩ : ∃ e, L[i]? = some e := ⟨_, List.getElem?_eq_getElem hi⟩
  refine wct Hz ?_
  refine zss (hK3 _ _ ?_)
  refine wsk fun K4 hK4 => ?_
  refine wp_block ?_
  refine zsr fun K5 hK5 => ?_
  refine goCh Hz (.move rfl <| .move rfl .nil) fun Az Hz => ?_
  obtain ⟨b26, o26, vs26, hp26, hR26, ho26, m26⟩ := m15.openR (i := 4) rfl (i) (r := [.v (.int .i64 y.vo), .v (.int .i64 (xk : Int)), .v (.int .i64 (cnY y xk : Int)), .v (.int .i64 y.sz), .v (.int .i64 (xm : Int)), .v (.int .i64 (min y.fl (xm : Int))), .l 1 ((chN y (fnY y xk) (cnY y xk) xm).map hD)]) (ckD_get hes) 100 rfl
  revert Hz
  cases hp26; clear m15 ho26
  rcases hR26 with _ | ⟨hd26_0, _ | ⟨hd26_1, _ | ⟨hd26_2, _ | ⟨hd26_3, _ | ⟨hd26_4, _ | ⟨hd26_5, _ | ⟨hd26_6, _ | _⟩⟩⟩⟩⟩⟩⟩
  obtain rfl := hd26_0.v_out
  clear hd26_0
  obtain rfl := hd26_1.v_out
  clear hd26_1
  obtain rfl := hd26_2.v_out
  clear hd26_2
  obtain rfl := hd26_3.v_out
  clear hd26_3
  obtain rfl := hd26_4.v_out
  clear hd26_4
  obtain rfl := hd26_5.v_out
  clear hd26_5
  obtain ⟨p27, c27, hv27, hc27⟩ := hd26_6.l_shape; subst hv27
  intro Hz
  have m27 := m26.dat 101 rfl (hd26_6.cast (fun _ h => (free_add rfl h))); clear m26 hd26_6
  refine goCh Hz (.c rfl (fun _ h_ => y_idx h_ rfl rfl U23 fct12 (i) rfl hi) <| .loadCR m27 (i := 100) rfl rfl U28 rfl fct12 .nil) fun Az Hz => ?_
  refine plz (e_alloc Hz m27 102 fct17 rfl fun g30 Az w31 Hz m31 _ _ => ?_)
  refine plz (stw Hz m31 102 fct12 fun w32 m32 _ => ?_)
  refine znl (hK5 _ _ ?_)
  replace Hz := Hz.oz [1, 2, 3, 4, 5, 10, 12, 13, 14]
  refine zsr fun K6 hK6 => ?_
  refine goCh Hz (.move rfl <| .gtr rfl rfl <| .move rfl .nil) fun Az Hz => ?_
  refine bc Hz 30 ?_ ?_
  · intro hb _; exact absurd hb (by simp)
  clear Hz; intro _ Hz
  refine gz hK6 Hz (.sk <| .sk <| .sk <| .sk <| .sk <| .pickF rfl rfl <| .move rfl <| .sk <| .sk <| .sk <| .sk <| .pickF rfl rfl <| .move rfl <| .sk <| .sk <| .sk <| .sk <| .pickF rfl rfl <| .move rfl <| .sk <| .sk <| .sk <| .sk <| .sk <| .pickF rfl rfl <| .move rfl <| .sk <| .sk <| .sk <| .sk <| .pickF rfl rfl <| .move rfl <| .sk <| .sk <| .sk <| .sk <| .pickF rfl rfl <| .nil) fun Az Hz => ?_
  refine wcf Hz ?_
  refine zss (hK4 _ _ ?_)
  replace Hz := Hz.oz [1, 2, 3, 4, 5, 10, 12, 13, 28]
  refine wp_region_lit ?_
  refine goCh Hz (.move rfl <| .inc (i + 1) <| .assign rfl .nil) fun Az Hz => ?_
  refine wpList_nil ?_
  show ∃ n', n' < _ ∧ _
  exact ⟨L.length - (i + 1), by omega, i + 1, _, _, by omega, rfl, Hz.only [1, 2, 3, 4, 5, 10, 12, 13], m32.ren [(3, 3), (4, 4), (20, 20), (21, 21)] (by decide)⟩
 intro hb20 Hz; try simp only [QQ, Qax] at hb20
 refine wcf Hz ?_
 refine wp_exit ?_
 refine hK2 _ _ ?_
 refine zsr fun K7 hK7 => ?_
 refine goCh Hz (.build rfl fct17 fl28gro rfl (by dsimp only [setL, List.set] <;> rfl) .nil) fun Az Hz => ?_
 refine plz (stw Hz m15 20 fct12 fun w84 m84 _ => ?_)
 refine gz hK7 Hz (.assign rfl .nil) fun Az Hz => ?_
 refine rtd (retCT (fn := Tryz.f20) Hz m84 (i := 20) rfl rfl rfl rfl U28 rfl fct12 ?_)
 exact ⟨rfl, m84.only [3, 4]⟩
theorem gp_out (X : Cx) (y : VolV) (n : Nat) (hS : VolS n y) (hn : n ≤ 1000) (pp pn pw : Option Addr) (cp nn9 cn9 cw : Nat) (L : List (Nat × Nat)) (pl : Option Addr) (nl cl : Nat) (nv a9 b9 : Int) (w0 : World) (hno : ¬ (0 ≤ nv ∧ nv < (y.place.length : Int))) (m0 : MemOk X w0 [(3, .dat (.slice pw (y.ws.map wrD).length cw) (.l 2 (y.ws.map wrD))), (4, .dat (.slice pl nl cl) (.l 7 (L.map (ckD y))))] w0) :
   Calls Tryz.prog 19 #[.agg #[.int .i64 y.vo, .int .i64 y.bl, .int .i64 y.sz, .int .i64 y.pe, .slice pp y.place.length cp, .int .i64 y.to, .int .i64 y.ne, .bool y.hi, .int .i64 y.fl, .slice pn nn9 cn9, .slice pw (y.ws.map wrD).length cw], .slice pl nl cl, .int .i64 nv, .int .i64 a9, .int .i64 b9] w0 fun e w' => e = .returned (.tuple #[.agg #[.int .i64 0, .int .i64 0, .int .i64 0, .int .i64 0, .int .i64 0, .int .i64 0, .slice none 0 0], .bool false]) ∧ MemOk X w0 [(3, .dat (.slice pw (y.ws.map wrD).length cw) (.l 2 (y.ws.map wrD))), (4, .dat (.slice pl nl cl) (.l 7 (L.map (ckD y))))] w' := by
 obtain rfl : nl = L.length := nnOf (m0.rd (i := 4) rfl)
 exact epick_out X y n hS hn pp pn pw cp nn9 cn9 cw L pl cl nv a9 b9 w0 hno m0
theorem gr_out (X : Cx) (y : VolV) (n : Nat) (hS : VolS n y) (hn : n ≤ 1000) (pp pn pw : Option Addr) (cp nn9 cn9 cw : Nat) (L : List (Nat × Nat)) (pl : Option Addr) (nl cl : Nat) (nv a9 b9 : Int) (w0 : World) (hL : L.length ≤ 1000000) (hno : ¬ (0 ≤ nv ∧ nv < (y.place.length : Int))) (m0 : MemOk X w0 [(3, .dat (.slice pw (y.ws.map wrD).length cw) (.l 2 (y.ws.map wrD))), (4, .dat (.slice pl nl cl) (.l 7 (L.map (ckD y))))] w0) :
   Calls Tryz.prog 20 #[.agg #[.int .i64 y.vo, .int .i64 y.bl, .int .i64 y.sz, .int .i64 y.pe, .slice pp y.place.length cp, .int .i64 y.to, .int .i64 y.ne, .bool y.hi, .int .i64 y.fl, .slice pn nn9 cn9, .slice pw (y.ws.map wrD).length cw], .slice pl nl cl, .int .i64 nv, .int .i64 a9, .int .i64 b9] w0 fun e w' => e = .returned (.tuple #[.agg #[.int .i64 0, .int .i64 0, .int .i64 0, .int .i64 0, .int .i64 0, .int .i64 0, .slice none 0 0], .bool false]) ∧ MemOk X w0 [(3, .dat (.slice pw (y.ws.map wrD).length cw) (.l 2 (y.ws.map wrD))), (4, .dat (.slice pl nl cl) (.l 7 (L.map (ckD y))))] w' := by
 obtain rfl : nl = L.length := nnOf (m0.rd (i := 4) rfl)
 exact erpick_out X y n hS hn pp pn pw cp nn9 cn9 cw L pl cl nv a9 b9 w0 hL hno m0
theorem gp_none (X : Cx) (y : VolV) (n : Nat) (hS : VolS n y) (hn : n ≤ 1000) (pp pn pw : Option Addr) (cp nn9 cn9 cw : Nat) (L : List (Nat × Nat)) (pl : Option Addr) (nl cl : Nat) (k : Nat) (a9 b9 : Int) (w0 : World) (hL : L.length ≤ 1000000) (hLo : ∀ x ∈ L, x.1 < y.place.length ∧ x.2 ≤ y.ws.length) (hk : k < y.place.length) (hf : pkF y L k a9 b9 = none) (m0 : MemOk X w0 [(3, .dat (.slice pw (y.ws.map wrD).length cw) (.l 2 (y.ws.map wrD))), (4, .dat (.slice pl nl cl) (.l 7 (L.map (ckD y))))] w0) :
   Calls Tryz.prog 19 #[.agg #[.int .i64 y.vo, .int .i64 y.bl, .int .i64 y.sz, .int .i64 y.pe, .slice pp y.place.length cp, .int .i64 y.to, .int .i64 y.ne, .bool y.hi, .int .i64 y.fl, .slice pn nn9 cn9, .slice pw (y.ws.map wrD).length cw], .slice pl nl cl, .int .i64 (k : Int), .int .i64 a9, .int .i64 b9] w0 fun e w' => e = .returned (.tuple #[.agg #[.int .i64 0, .int .i64 0, .int .i64 0, .int .i64 0, .int .i64 0, .int .i64 0, .slice none 0 0], .bool false]) ∧ MemOk X w0 [(3, .dat (.slice pw (y.ws.map wrD).length cw) (.l 2 (y.ws.map wrD))), (4, .dat (.slice pl nl cl) (.l 7 (L.map (ckD y))))] w' := by
 obtain rfl : nl = L.length := nnOf (m0.rd (i := 4) rfl)
 exact epick_none X y n hS hn pp pn pw cp nn9 cn9 cw L pl cl k a9 b9 w0 hL hLo hk hf m0
theorem gr_none (X : Cx) (y : VolV) (n : Nat) (hS : VolS n y) (hn : n ≤ 1000) (pp pn pw : Option Addr) (cp nn9 cn9 cw : Nat) (L : List (Nat × Nat)) (pl : Option Addr) (nl cl : Nat) (k : Nat) (a9 b9 : Int) (w0 : World) (hL : L.length ≤ 1000000) (hLo : ∀ x ∈ L, x.1 < y.place.length ∧ x.2 ≤ y.ws.length) (hk : k < y.place.length) (hf : pkF y L k a9 b9 = none) (m0 : MemOk X w0 [(3, .dat (.slice pw (y.ws.map wrD).length cw) (.l 2 (y.ws.map wrD))), (4, .dat (.slice pl nl cl) (.l 7 (L.map (ckD y))))] w0) :
   Calls Tryz.prog 20 #[.agg #[.int .i64 y.vo, .int .i64 y.bl, .int .i64 y.sz, .int .i64 y.pe, .slice pp y.place.length cp, .int .i64 y.to, .int .i64 y.ne, .bool y.hi, .int .i64 y.fl, .slice pn nn9 cn9, .slice pw (y.ws.map wrD).length cw], .slice pl nl cl, .int .i64 (k : Int), .int .i64 a9, .int .i64 b9] w0 fun e w' => e = .returned (.tuple #[.agg #[.int .i64 0, .int .i64 0, .int .i64 0, .int .i64 0, .int .i64 0, .int .i64 0, .slice none 0 0], .bool false]) ∧ MemOk X w0 [(3, .dat (.slice pw (y.ws.map wrD).length cw) (.l 2 (y.ws.map wrD))), (4, .dat (.slice pl nl cl) (.l 7 (L.map (ckD y))))] w' := by
 obtain rfl : nl = L.length := nnOf (m0.rd (i := 4) rfl)
 exact erpick_none X y n hS hn pp pn pw cp nn9 cn9 cw L pl cl k a9 b9 w0 hL hLo hk hf m0
theorem gp_one (X : Cx) (y : VolV) (n : Nat) (hS : VolS n y) (hn : n ≤ 1000) (pp pn pw : Option Addr) (cp nn9 cn9 cw : Nat) (L : List (Nat × Nat)) (pl : Option Addr) (nl cl : Nat) (k m : Nat) (a9 b9 : Int) (w0 : World) (hL : L.length ≤ 1000000) (hLo : ∀ x ∈ L, x.1 < y.place.length ∧ x.2 ≤ y.ws.length) (hk : k < y.place.length) (hf : pkF y L k a9 b9 = some (k, m)) (m0 : MemOk X w0 [(3, .dat (.slice pw (y.ws.map wrD).length cw) (.l 2 (y.ws.map wrD))), (4, .dat (.slice pl nl cl) (.l 7 (L.map (ckD y))))] w0) :
   Calls Tryz.prog 19 #[.agg #[.int .i64 y.vo, .int .i64 y.bl, .int .i64 y.sz, .int .i64 y.pe, .slice pp y.place.length cp, .int .i64 y.to, .int .i64 y.ne, .bool y.hi, .int .i64 y.fl, .slice pn nn9 cn9, .slice pw (y.ws.map wrD).length cw], .slice pl nl cl, .int .i64 (k : Int), .int .i64 a9, .int .i64 b9] w0 fun e w' => ∃ (p9 : Option Addr) (n9 c9 : Nat), e = .returned (.tuple #[.agg #[.int .i64 y.vo, .int .i64 (k : Int), .int .i64 (cnY y k : Int), .int .i64 y.sz, .int .i64 (m : Int), .int .i64 (min y.fl (m : Int)), .slice p9 n9 c9], .bool true]) ∧ MemOk X w0 [(3, .dat (.slice pw (y.ws.map wrD).length cw) (.l 2 (y.ws.map wrD))), (4, .dat (.slice pl nl cl) (.l 7 (L.map (ckD y)))), (9, .dat (.slice p9 n9 c9) (.l 1 ((chN y (fnY y k) (cnY y k) m).map hD)))] w' := by
 obtain rfl : nl = L.length := nnOf (m0.rd (i := 4) rfl)
 exact (epick_one X y n hS hn pp pn pw cp nn9 cn9 cw L pl cl k m a9 b9 w0 hL hLo hk hf m0).mono fun e w' h => by obtain ⟨p9, c9, h1, h2⟩ := h; exact ⟨p9, _, c9, h1, h2⟩
theorem gr_one (X : Cx) (y : VolV) (n : Nat) (hS : VolS n y) (hn : n ≤ 1000) (pp pn pw : Option Addr) (cp nn9 cn9 cw : Nat) (L : List (Nat × Nat)) (pl : Option Addr) (nl cl : Nat) (k m : Nat) (a9 b9 : Int) (w0 : World) (hL : L.length ≤ 1000000) (hLo : ∀ x ∈ L, x.1 < y.place.length ∧ x.2 ≤ y.ws.length) (hk : k < y.place.length) (hf : pkF y L k a9 b9 = some (k, m)) (m0 : MemOk X w0 [(3, .dat (.slice pw (y.ws.map wrD).length cw) (.l 2 (y.ws.map wrD))), (4, .dat (.slice pl nl cl) (.l 7 (L.map (ckD y))))] w0) :
   Calls Tryz.prog 20 #[.agg #[.int .i64 y.vo, .int .i64 y.bl, .int .i64 y.sz, .int .i64 y.pe, .slice pp y.place.length cp, .int .i64 y.to, .int .i64 y.ne, .bool y.hi, .int .i64 y.fl, .slice pn nn9 cn9, .slice pw (y.ws.map wrD).length cw], .slice pl nl cl, .int .i64 (k : Int), .int .i64 a9, .int .i64 b9] w0 fun e w' => ∃ (p9 : Option Addr) (n9 c9 : Nat), e = .returned (.tuple #[.agg #[.int .i64 y.vo, .int .i64 (k : Int), .int .i64 (cnY y k : Int), .int .i64 y.sz, .int .i64 (m : Int), .int .i64 (min y.fl (m : Int)), .slice p9 n9 c9], .bool true]) ∧ MemOk X w0 [(3, .dat (.slice pw (y.ws.map wrD).length cw) (.l 2 (y.ws.map wrD))), (4, .dat (.slice pl nl cl) (.l 7 (L.map (ckD y)))), (9, .dat (.slice p9 n9 c9) (.l 1 ((chN y (fnY y k) (cnY y k) m).map hD)))] w' := by
 obtain rfl : nl = L.length := nnOf (m0.rd (i := 4) rfl)
 exact erpick_one X y n hS hn pp pn pw cp nn9 cn9 cw L pl cl k m a9 b9 w0 hL hLo hk hf m0
theorem erfull_n (X : Cx) (y : VolV) (n : Nat) (hS : VolS n y) (hn : n ≤ 1000) (pp pn pw : Option Addr) (cp nn9 cn9 cw : Nat) (L : List (Nat × Nat)) (pl : Option Addr) (nl cl : Nat) (t9 : Int) (w0 : World) (hL : L.length ≤ 1000000) (hLo : ∀ x ∈ L, x.1 < y.place.length ∧ x.2 ≤ y.ws.length) (m0 : MemOk X w0 [(3, .dat (.slice pw (y.ws.map wrD).length cw) (.l 2 (y.ws.map wrD))), (4, .dat (.slice pl nl cl) (.l 7 (L.map (ckD y))))] w0) :
   Calls Tryz.prog 15 #[.agg #[.int .i64 y.vo, .int .i64 y.bl, .int .i64 y.sz, .int .i64 y.pe, .slice pp y.place.length cp, .int .i64 y.to, .int .i64 y.ne, .bool y.hi, .int .i64 y.fl, .slice pn nn9 cn9, .slice pw (y.ws.map wrD).length cw], .slice pl nl cl, .int .i64 t9] w0 fun e w' => ∃ (T : (Int × Int × Int × Int × Int × List (Int × List Int))) (p9 : Option Addr) (c9 : Nat), FullG y L t9 T ∧ e = .returned (.tuple #[.agg #[.int .i64 T.2.1, .int .i64 T.2.2.1, .int .i64 T.2.2.2.1, .int .i64 T.2.2.2.2.1, .slice p9 (T.2.2.2.2.2.map itD).length c9], .int .i64 T.1]) ∧ MemOk X w0 [(3, .dat (.slice pw (y.ws.map wrD).length cw) (.l 2 (y.ws.map wrD))), (4, .dat (.slice pl nl cl) (.l 7 (L.map (ckD y)))), (9, .dat (.slice p9 (T.2.2.2.2.2.map itD).length c9) (.l 2 (T.2.2.2.2.2.map itD)))] w' := by
 obtain rfl : nl = L.length := nnOf (m0.rd (i := 4) rfl)
 exact erfull_x X y n hS hn pp pn pw cp nn9 cn9 cw L pl cl t9 w0 hL hLo m0
theorem ersince_n (X : Cx) (y : VolV) (n : Nat) (hS : VolS n y) (hn : n ≤ 1000) (pp pn pw : Option Addr) (cp nn9 cn9 cw : Nat) (L : List (Nat × Nat)) (pl : Option Addr) (nl cl : Nat) (fr t9 : Int) (w0 : World) (hL : L.length ≤ 1000000) (hLo : ∀ x ∈ L, x.1 < y.place.length ∧ x.2 ≤ y.ws.length) (m0 : MemOk X w0 [(3, .dat (.slice pw (y.ws.map wrD).length cw) (.l 2 (y.ws.map wrD))), (4, .dat (.slice pl nl cl) (.l 7 (L.map (ckD y))))] w0) :
   Calls Tryz.prog 18 #[.agg #[.int .i64 y.vo, .int .i64 y.bl, .int .i64 y.sz, .int .i64 y.pe, .slice pp y.place.length cp, .int .i64 y.to, .int .i64 y.ne, .bool y.hi, .int .i64 y.fl, .slice pn nn9 cn9, .slice pw (y.ws.map wrD).length cw], .slice pl nl cl, .int .i64 fr, .int .i64 t9] w0 fun e w' => ∃ (T : (Int × Int × Int × Int × Int × List (Int × List Int))) (p9 : Option Addr) (c9 : Nat), SinceG y L fr t9 T ∧ e = .returned (.tuple #[.agg #[.int .i64 T.2.1, .int .i64 T.2.2.1, .int .i64 T.2.2.2.1, .int .i64 T.2.2.2.2.1, .slice p9 (T.2.2.2.2.2.map itD).length c9], .int .i64 T.1]) ∧ MemOk X w0 [(3, .dat (.slice pw (y.ws.map wrD).length cw) (.l 2 (y.ws.map wrD))), (4, .dat (.slice pl nl cl) (.l 7 (L.map (ckD y)))), (9, .dat (.slice p9 (T.2.2.2.2.2.map itD).length c9) (.l 2 (T.2.2.2.2.2.map itD)))] w' := by
 obtain rfl : nl = L.length := nnOf (m0.rd (i := 4) rfl)
 exact ersince_x X y n hS hn pp pn pw cp nn9 cn9 cw L pl cl fr t9 w0 hL hLo m0
end
end Go.Proofs.YtamjnimaeecmoaaGreat.K
