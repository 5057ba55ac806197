/- General laws of walks. -/
import Derived.Test.YtkehgingagggaaaGreatG17
namespace Go.Proofs.YtkehgingagggaaaGreat.K
open Go.ChangeShapes Go.WideShapes Go.ChangeAt Go.RowKit
set_option linter.unusedVariables false
set_option linter.unusedSimpArgs false
section
set_option maxRecDepth 100000
set_option maxHeartbeats 4000000
theorem pfail_x (X : Cx) (B : Nat) (v : Value) (er cd : Int) (w0 : World) (m0 : MemOk X w0 [(1, .box B 148 [v, .int .i64 er])] w0) :
   Calls Tryz.prog 107 #[.pointer (some ⟨B, 0, none⟩), .int .i64 cd] w0 fun e w' => e = .returned (.tuple #[]) ∧ MemOk X w0 [(1, .box B 148 [.slice none 0 0, .int .i64 cd])] w' := by
 refine ent2 Tryz.func107 rfl Tryz.ntmps107 fun Az Hz => ?_
 refine wp_region_lit ?_
 refine goCh Hz (.move rfl <| .move rfl <| .move rfl <| .nilCheck rfl <| .fa 0 rfl U146 .nil) fun Az Hz => ?_
 refine plz (st1 Hz m0 1 fct2 fun w6 m6 _ => ?_)
 refine goCh Hz (.nilCheck rfl <| .fa 1 rfl U146 .nil) fun Az Hz => ?_
 refine plz (st1 Hz m6 1 fct33 fun w9 m9 _ => ?_)
 refine wpList_nil ?_
 try dsimp only [Exit.then, Exit.inBlock]
 try refine out_here ?_
 refine (ret0 (fn := Tryz.f107) Hz rfl ?_)
 exact ⟨rfl, m9.only [1]⟩
theorem pnumber_ok (X : Cx) (B : Nat) (b : List Int) (er : Int) (p : Option Addr) (c : Nat) (w0 : World) (n j : Nat) (hb : b.length ≤ 1000000) (hbb : BytesL b) (hd : dec 0 0 b = .ok n j) (m0 : MemOk X w0 [(1, .box B 148 [.slice p (b).length c, .int .i64 er]), (2, .dat (.slice p (b).length c) (.ns .u8 (b)))] w0) :
   Calls Tryz.prog 106 #[.pointer (some ⟨B, 0, none⟩)] w0 fun e w' => ∃ (p' : Option Addr) (c' : Nat), e = .returned (.tuple #[.int .u64 (n : Int), .int .i64 0]) ∧ MemOk X w0 [(1, .box B 148 [.slice p' (b.drop j).length c', .int .i64 er]), (2, .dat (.slice p' (b.drop j).length c') (.ns .u8 (b.drop j)))] w' := by
 refine ent1 Tryz.func106 rfl Tryz.ntmps106 fun Az Hz => ?_
 refine regS Hz (.assign rfl <| .assign rfl .nil) fun Az Hz => ?_
 refine regS Hz (.assign rfl .nil) fun Az Hz => ?_
 refine wsk fun K0 hK0 => ?_
 refine regS Hz (.move rfl <| .nilCheck rfl <| .fa 0 rfl U146 <| .lb m0 1 U22 rfl rfl rfl <| .len rfl U22 <| .move rfl .nil) fun Az Hz => ?_
 refine wp_block ?_
 refine wp_loop_ghost (fun g a w => ∃ (k u : Nat), k ≤ b.length ∧ k ≤ 9 ∧ g = b.length - k ∧ u < 2 ^ (7 * k) ∧ dec u k (b.drop k) = dec 0 0 b ∧ Has 53 [(0, .pointer (some ⟨B, 0, none⟩)), (4, .int .u64 (u : Int)), (10, .slice p b.length c), (11, .int .i64 b.length), (12, .int .i64 k)] a ∧ MemOk X w0 [(1, .box B 148 [.slice p (b).length c, .int .i64 er]), (2, .dat (.slice p (b).length c) (.ns .u8 (b)))] w) (b.length) ?_ ?_
 · exact ⟨0, 0, Nat.zero_le _, Nat.zero_le _, rfl, by decide, rfl, Hz.only [0, 4, 10, 11, 12], m0.only [1, 2]⟩
 clear Hz m0
 rintro g Az w10 ⟨k, u, hkl, hk9, hg, hu, hD0, Hz, m10⟩
 refine regS Hz (.lss rfl rfl .nil) fun Az Hz => ?_
 refine wsk fun K1 hK1 => ?_
 refine bc Hz 13 ?_ ?_
 ·
  intro hb12 Hz; try simp only [QQ, Qax] at hb12
  have hk : k < b.length := by omega
  have hxb := getD_bd hbb hk
  have hD := hD0
  rw [dec_at hk] at hD
  refine wct Hz ?_
  refine zss (hK1 _ _ ?_)
  refine wsk fun K2 hK2 => ?_
  refine wp_block ?_
  refine zsr fun K3 hK3 => ?_
  refine goCh Hz (.move rfl .nil) fun Az Hz => ?_
  obtain ⟨b16, o16, hp16, m16⟩ := m10.openN (i := 2) rfl (k) hk 100 rfl
  revert Hz
  cases hp16
  intro Hz
  refine gz hK3 Hz (.c rfl (fun _ h_ => y_idx h_ rfl rfl U22 fct23 (k) rfl hk) <| .loadC0 m16 (i := 100) rfl rfl U5 rfl <| .assign rfl <| .assign rfl <| .nil) fun Az Hz => ?_
  refine wsk fun K4 hK4 => ?_
  refine zsr fun K5 hK5 => ?_
  refine goCh Hz (.move rfl <| .eql rfl rfl <| .move rfl .nil) fun Az Hz => ?_
  refine bc Hz 19 ?_ ?_
  ·
   intro hb27 Hz; try simp only [QQ, Qax] at hb27
   refine goCh Hz (.moveZ rfl <| .gtrZ rfl rfl <| .pickT rfl rfl <| .move rfl .nil) fun Az Hz => ?_
   refine bc Hz 23 ?_ ?_
   ·
    intro hb32 Hz; try simp only [QQ, Qax] at hb32
    have hE : dec 0 0 b = .err 20 := by rw [← hD, if_pos (by omega)]
    refine goCh Hz (.sk <| .sk <| .sk .nil) fun Az Hz => ?_
    refine st_skipU Hz rfl rfl rfl rfl fun Az Hz => ?_
    refine st_skipU Hz rfl rfl rfl rfl fun Az Hz => ?_
    refine gz hK5 Hz (.sk <| .pickT rfl rfl <| .nil) fun Az Hz => ?_
    refine wct Hz ?_
    replace Hz := Hz.oz [0, 4, 10, 11, 12, 5, 6, 19, 23, 26, 30]
    refine regS Hz (.assign rfl <| .assign rfl .nil) fun Az Hz => ?_
    refine rt2 Hz ?_
    rw [hE] at hd; cases hd
   intro hb32 Hz; try simp only [QQ, Qax] at hb32
   refine goCh Hz (.moveZ rfl <| .gtrZ rfl rfl <| .moveZ rfl .nil) fun Az Hz => ?_
   refine bc Hz 26 ?_ ?_
   ·
    intro hb46 Hz; try simp only [QQ, Qax] at hb46
    refine gz hK5 Hz (.moveZ rfl <| .eqlZ rfl rfl <| .pickTZ rfl rfl <| .pickF rfl rfl <| .nil) fun Az Hz => ?_
    refine bc Hz 30 ?_ ?_
    ·
     intro hb51 Hz; try simp only [QQ, Qax] at hb51
     have hE : dec 0 0 b = .err 20 := by rw [← hD, if_pos (by omega)]
     refine wct Hz ?_
     replace Hz := Hz.oz [0, 4, 10, 11, 12, 5, 6, 19, 23, 26, 30]
     refine regS Hz (.assign rfl <| .assign rfl .nil) fun Az Hz => ?_
     refine rt2 Hz ?_
     rw [hE] at hd; cases hd
    intro hb51 Hz; try simp only [QQ, Qax] at hb51
    have hno : ¬ ((k = 9 ∧ 1 < (b.getD k 0)) ∨ (0 < k ∧ (b.getD k 0) = 0)) := by omega
    have h9 : k = 9 → (b.getD k 0) ≤ 1 := by omega
    obtain ⟨v, hv⟩ : ∃ v, u + ((b.getD k 0) % 128).toNat * 2 ^ (7 * k) = v := ⟨_, rfl⟩
    refine wcf Hz ?_
    refine zss (hK4 _ _ ?_)
    replace Hz := Hz.oz [0, 4, 10, 11, 12, 5, 6, 19, 23, 26, 30]
    refine regS Hz (.move rfl <| .move rfl <| .c rfl (fun _ h_ => y_andNot h_ rfl rfl (r := (b.getD k 0) % 128) (andNot128 _ hxb.1 hxb.2)) <| .conv rfl U5 U108 (r := (b.getD k 0) % 128) (IntWalk.u64_in _ (by omega)) <| .move rfl <| .mul rfl rfl (r := 7 * (k : Int)) (IntWalk.i64_in _ (by omega)) <| .shl rfl rfl (by omega) (r := IntKind.u64.wrap ((b.getD k 0) % 128 * 2 ^ (7 * k))) (by rw [shx hk9]) <| .or rfl rfl (r := (v : Int)) (by rw [← hv]; exact or_shift u k (b.getD k 0) hu hk9 hxb.1 hxb.2 h9) <| .assign rfl .nil) fun Az Hz => ?_
    replace Hz := Hz.oz [0, 4, 10, 11, 12, 5, 6, 19, 23, 26, 30]
    refine regS Hz (.move rfl <| .lss rfl rfl .nil) fun Az Hz => ?_
    refine bc Hz 40 ?_ ?_
    ·
     intro hb68 Hz; try simp only [QQ, Qax] at hb68
     have hO : dec 0 0 b = .ok v (k + 1) := by rw [← hD, if_neg hno, if_pos (by omega), hv]
     refine wct Hz ?_
     refine zsr fun K6 hK6 => ?_
     refine goCh Hz (.move rfl <| .move rfl <| .nilCheck rfl <| .fa 0 rfl U146 <| .lb m16 1 U22 rfl rfl rfl <| .move rfl <| .inc (k + 1) .nil) fun Az Hz => ?_
     have m84 := m16.dropN (i := 2) rfl (k + 1) (show k + 1 ≤ b.length by omega) 101 rfl
     refine goCh Hz (.c rfl (fun _ h_ => y_sliceLn h_ (k + 1) rfl rfl U22 fct23 rfl (show k + 1 ≤ b.length by omega)) <| .nilCheck rfl <| .fa 0 rfl U146 .nil) fun Az Hz => ?_
     refine plz (st1 Hz m84 1 fct2 fun w88 m88 _ => ?_)
     refine znl (hK6 _ _ ?_)
     replace Hz := Hz.oz [0, 4, 10, 11, 12, 19, 23, 26, 30, 40]
     refine regS Hz (.move rfl <| .assign rfl <| .assign rfl .nil) fun Az Hz => ?_
     refine rt2 Hz ?_
     have hl9 : b.length - (k + 1) = (b.drop (k + 1)).length := by rw [List.length_drop]
     rw [hl9] at m88
     obtain ⟨rfl, rfl⟩ : n = v ∧ j = k + 1 := by rw [hO] at hd; injection hd with q1 q2; exact ⟨q1.symm, q2.symm⟩
     exact ⟨_, _, rfl, m88.ren [(1, 1), (2, 101)] (by decide)⟩
    intro hb68 Hz; try simp only [QQ, Qax] at hb68
    refine wcf Hz ?_
    refine zss (hK2 _ _ ?_)
    refine wp_region_lit ?_
    refine goCh Hz (.inc (k + 1) <| .move rfl .nil) fun Az Hz => ?_
    refine wpList_nil ?_
    show ∃ n', n' < _ ∧ _
    exact ⟨b.length - (k + 1), by omega, k + 1, v, by omega, by omega, rfl, by rw [← hv]; exact acc_bound u k (b.getD k 0) hu, by rw [← hD, if_neg hno, if_neg (by omega), hv], Hz.only [0, 4, 10, 11, 12], m16.only [1, 2]⟩
   intro hb46 Hz; try simp only [QQ, Qax] at hb46
   have hno : ¬ ((k = 9 ∧ 1 < (b.getD k 0)) ∨ (0 < k ∧ (b.getD k 0) = 0)) := by omega
   have h9 : k = 9 → (b.getD k 0) ≤ 1 := by omega
   obtain ⟨v, hv⟩ : ∃ v, u + ((b.getD k 0) % 128).toNat * 2 ^ (7 * k) = v := ⟨_, rfl⟩
   refine gz hK5 Hz (.sk <| .sk <| .pickFZ rfl rfl <| .pickF rfl rfl <| .nil) fun Az Hz => ?_
   refine wcf Hz ?_
   refine zss (hK4 _ _ ?_)
   replace Hz := Hz.oz [0, 4, 10, 11, 12, 5, 6, 19, 23, 26, 30]
   refine regS Hz (.move rfl <| .move rfl <| .c rfl (fun _ h_ => y_andNot h_ rfl rfl (r := (b.getD k 0) % 128) (andNot128 _ hxb.1 hxb.2)) <| .conv rfl U5 U108 (r := (b.getD k 0) % 128) (IntWalk.u64_in _ (by omega)) <| .move rfl <| .mul rfl rfl (r := 7 * (k : Int)) (IntWalk.i64_in _ (by omega)) <| .shl rfl rfl (by omega) (r := IntKind.u64.wrap ((b.getD k 0) % 128 * 2 ^ (7 * k))) (by rw [shx hk9]) <| .or rfl rfl (r := (v : Int)) (by rw [← hv]; exact or_shift u k (b.getD k 0) hu hk9 hxb.1 hxb.2 h9) <| .assign rfl .nil) fun Az Hz => ?_
   replace Hz := Hz.oz [0, 4, 10, 11, 12, 5, 6, 19, 23, 26, 30]
   refine regS Hz (.move rfl <| .lss rfl rfl .nil) fun Az Hz => ?_
   refine bc Hz 40 ?_ ?_
   ·
    intro hb112 Hz; try simp only [QQ, Qax] at hb112
    have hO : dec 0 0 b = .ok v (k + 1) := by rw [← hD, if_neg hno, if_pos (by omega), hv]
    refine wct Hz ?_
    refine zsr fun K7 hK7 => ?_
    refine goCh Hz (.move rfl <| .move rfl <| .nilCheck rfl <| .fa 0 rfl U146 <| .lb m16 1 U22 rfl rfl rfl <| .move rfl <| .inc (k + 1) .nil) fun Az Hz => ?_
    have m128 := m16.dropN (i := 2) rfl (k + 1) (show k + 1 ≤ b.length by omega) 101 rfl
    refine goCh Hz (.c rfl (fun _ h_ => y_sliceLn h_ (k + 1) rfl rfl U22 fct23 rfl (show k + 1 ≤ b.length by omega)) <| .nilCheck rfl <| .fa 0 rfl U146 .nil) fun Az Hz => ?_
    refine plz (st1 Hz m128 1 fct2 fun w132 m132 _ => ?_)
    refine znl (hK7 _ _ ?_)
    replace Hz := Hz.oz [0, 4, 10, 11, 12, 19, 23, 26, 30, 40]
    refine regS Hz (.move rfl <| .assign rfl <| .assign rfl .nil) fun Az Hz => ?_
    refine rt2 Hz ?_
    have hl9 : b.length - (k + 1) = (b.drop (k + 1)).length := by rw [List.length_drop]
    rw [hl9] at m132
    obtain ⟨rfl, rfl⟩ : n = v ∧ j = k + 1 := by rw [hO] at hd; injection hd with q1 q2; exact ⟨q1.symm, q2.symm⟩
    exact ⟨_, _, rfl, m132.ren [(1, 1), (2, 101)] (by decide)⟩
   intro hb112 Hz; try simp only [QQ, Qax] at hb112
   refine wcf Hz ?_
   refine zss (hK2 _ _ ?_)
   refine wp_region_lit ?_
   refine goCh Hz (.inc (k + 1) <| .move rfl .nil) fun Az Hz => ?_
   refine wpList_nil ?_
   show ∃ n', n' < _ ∧ _
   exact ⟨b.length - (k + 1), by omega, k + 1, v, by omega, by omega, rfl, by rw [← hv]; exact acc_bound u k (b.getD k 0) hu, by rw [← hD, if_neg hno, if_neg (by omega), hv], Hz.only [0, 4, 10, 11, 12], m16.only [1, 2]⟩
  intro hb27 Hz; try simp only [QQ, Qax] at hb27
  refine goCh Hz (.sk <| .sk <| .pickF rfl rfl <| .move rfl <| .moveZ rfl <| .gtrZ rfl rfl <| .moveZ rfl .nil) fun Az Hz => ?_
  refine bc Hz 26 ?_ ?_
  ·
   intro hb146 Hz; try simp only [QQ, Qax] at hb146
   refine gz hK5 Hz (.moveZ rfl <| .eqlZ rfl rfl <| .pickTZ rfl rfl <| .pickF rfl rfl <| .nil) fun Az Hz => ?_
   refine bc Hz 30 ?_ ?_
   ·
    intro hb151 Hz; try simp only [QQ, Qax] at hb151
    have hE : dec 0 0 b = .err 20 := by rw [← hD, if_pos (by omega)]
    refine wct Hz ?_
    replace Hz := Hz.oz [0, 4, 10, 11, 12, 5, 6, 19, 23, 26, 30]
    refine regS Hz (.assign rfl <| .assign rfl .nil) fun Az Hz => ?_
    refine rt2 Hz ?_
    rw [hE] at hd; cases hd
   intro hb151 Hz; try simp only [QQ, Qax] at hb151
   have hno : ¬ ((k = 9 ∧ 1 < (b.getD k 0)) ∨ (0 < k ∧ (b.getD k 0) = 0)) := by omega
   have h9 : k = 9 → (b.getD k 0) ≤ 1 := by omega
   obtain ⟨v, hv⟩ : ∃ v, u + ((b.getD k 0) % 128).toNat * 2 ^ (7 * k) = v := ⟨_, rfl⟩
   refine wcf Hz ?_
   refine zss (hK4 _ _ ?_)
   replace Hz := Hz.oz [0, 4, 10, 11, 12, 5, 6, 19, 23, 26, 30]
   refine regS Hz (.move rfl <| .move rfl <| .c rfl (fun _ h_ => y_andNot h_ rfl rfl (r := (b.getD k 0) % 128) (andNot128 _ hxb.1 hxb.2)) <| .conv rfl U5 U108 (r := (b.getD k 0) % 128) (IntWalk.u64_in _ (by omega)) <| .move rfl <| .mul rfl rfl (r := 7 * (k : Int)) (IntWalk.i64_in _ (by omega)) <| .shl rfl rfl (by omega) (r := IntKind.u64.wrap ((b.getD k 0) % 128 * 2 ^ (7 * k))) (by rw [shx hk9]) <| .or rfl rfl (r := (v : Int)) (by rw [← hv]; exact or_shift u k (b.getD k 0) hu hk9 hxb.1 hxb.2 h9) <| .assign rfl .nil) fun Az Hz => ?_
   replace Hz := Hz.oz [0, 4, 10, 11, 12, 5, 6, 19, 23, 26, 30]
   refine regS Hz (.move rfl <| .lss rfl rfl .nil) fun Az Hz => ?_
   refine bc Hz 40 ?_ ?_
   ·
    intro hb168 Hz; try simp only [QQ, Qax] at hb168
    have hO : dec 0 0 b = .ok v (k + 1) := by rw [← hD, if_neg hno, if_pos (by omega), hv]
    refine wct Hz ?_
    refine zsr fun K8 hK8 => ?_
    refine goCh Hz (.move rfl <| .move rfl <| .nilCheck rfl <| .fa 0 rfl U146 <| .lb m16 1 U22 rfl rfl rfl <| .move rfl <| .inc (k + 1) .nil) fun Az Hz => ?_
    have m184 := m16.dropN (i := 2) rfl (k + 1) (show k + 1 ≤ b.length by omega) 101 rfl
    refine goCh Hz (.c rfl (fun _ h_ => y_sliceLn h_ (k + 1) rfl rfl U22 fct23 rfl (show k + 1 ≤ b.length by omega)) <| .nilCheck rfl <| .fa 0 rfl U146 .nil) fun Az Hz => ?_
    refine plz (st1 Hz m184 1 fct2 fun w188 m188 _ => ?_)
    refine znl (hK8 _ _ ?_)
    replace Hz := Hz.oz [0, 4, 10, 11, 12, 19, 23, 26, 30, 40]
    refine regS Hz (.move rfl <| .assign rfl <| .assign rfl .nil) fun Az Hz => ?_
    refine rt2 Hz ?_
    have hl9 : b.length - (k + 1) = (b.drop (k + 1)).length := by rw [List.length_drop]
    rw [hl9] at m188
    obtain ⟨rfl, rfl⟩ : n = v ∧ j = k + 1 := by rw [hO] at hd; injection hd with q1 q2; exact ⟨q1.symm, q2.symm⟩
    exact ⟨_, _, rfl, m188.ren [(1, 1), (2, 101)] (by decide)⟩
   intro hb168 Hz; try simp only [QQ, Qax] at hb168
   refine wcf Hz ?_
   refine zss (hK2 _ _ ?_)
   refine wp_region_lit ?_
   refine goCh Hz (.inc (k + 1) <| .move rfl .nil) fun Az Hz => ?_
   refine wpList_nil ?_
   show ∃ n', n' < _ ∧ _
   exact ⟨b.length - (k + 1), by omega, k + 1, v, by omega, by omega, rfl, by rw [← hv]; exact acc_bound u k (b.getD k 0) hu, by rw [← hD, if_neg hno, if_neg (by omega), hv], Hz.only [0, 4, 10, 11, 12], m16.only [1, 2]⟩
  intro hb146 Hz; try simp only [QQ, Qax] at hb146
  have hno : ¬ ((k = 9 ∧ 1 < (b.getD k 0)) ∨ (0 < k ∧ (b.getD k 0) = 0)) := by omega
  have h9 : k = 9 → (b.getD k 0) ≤ 1 := by omega
  obtain ⟨v, hv⟩ : ∃ v, u + ((b.getD k 0) % 128).toNat * 2 ^ (7 * k) = v := ⟨_, rfl⟩
  refine gz hK5 Hz (.sk <| .sk <| .pickFZ rfl rfl <| .pickF rfl rfl <| .nil) fun Az Hz => ?_
  refine wcf Hz ?_
  refine zss (hK4 _ _ ?_)
  replace Hz := Hz.oz [0, 4, 10, 11, 12, 5, 6, 19, 23, 26, 30]
  refine regS Hz (.move rfl <| .move rfl <| .c rfl (fun _ h_ => y_andNot h_ rfl rfl (r := (b.getD k 0) % 128) (andNot128 _ hxb.1 hxb.2)) <| .conv rfl U5 U108 (r := (b.getD k 0) % 128) (IntWalk.u64_in _ (by omega)) <| .move rfl <| .mul rfl rfl (r := 7 * (k : Int)) (IntWalk.i64_in _ (by omega)) <| .shl rfl rfl (by omega) (r := IntKind.u64.wrap ((b.getD k 0) % 128 * 2 ^ (7 * k))) (by rw [shx hk9]) <| .or rfl rfl (r := (v : Int)) (by rw [← hv]; exact or_shift u k (b.getD k 0) hu hk9 hxb.1 hxb.2 h9) <| .assign rfl .nil) fun Az Hz => ?_
  replace Hz := Hz.oz [0, 4, 10, 11, 12, 5, 6, 19, 23, 26, 30]
  refine regS Hz (.move rfl <| .lss rfl rfl .nil) fun Az Hz => ?_
  refine bc Hz 40 ?_ ?_
  ·
   intro hb212 Hz; try simp only [QQ, Qax] at hb212
   have hO : dec 0 0 b = .ok v (k + 1) := by rw [← hD, if_neg hno, if_pos (by omega), hv]
   refine wct Hz ?_
   refine zsr fun K9 hK9 => ?_
   refine goCh Hz (.move rfl <| .move rfl <| .nilCheck rfl <| .fa 0 rfl U146 <| .lb m16 1 U22 rfl rfl rfl <| .move rfl <| .inc (k + 1) .nil) fun Az Hz => ?_
   have m228 := m16.dropN (i := 2) rfl (k + 1) (show k + 1 ≤ b.length by omega) 101 rfl
   refine goCh Hz (.c rfl (fun _ h_ => y_sliceLn h_ (k + 1) rfl rfl U22 fct23 rfl (show k + 1 ≤ b.length by omega)) <| .nilCheck rfl <| .fa 0 rfl U146 .nil) fun Az Hz => ?_
   refine plz (st1 Hz m228 1 fct2 fun w232 m232 _ => ?_)
   refine znl (hK9 _ _ ?_)
   replace Hz := Hz.oz [0, 4, 10, 11, 12, 19, 23, 26, 30, 40]
   refine regS Hz (.move rfl <| .assign rfl <| .assign rfl .nil) fun Az Hz => ?_
   refine rt2 Hz ?_
   have hl9 : b.length - (k + 1) = (b.drop (k + 1)).length := by rw [List.length_drop]
   rw [hl9] at m232
   obtain ⟨rfl, rfl⟩ : n = v ∧ j = k + 1 := by rw [hO] at hd; injection hd with q1 q2; exact ⟨q1.symm, q2.symm⟩
   exact ⟨_, _, rfl, m232.ren [(1, 1), (2, 101)] (by decide)⟩
  intro hb212 Hz; try simp only [QQ, Qax] at hb212
  refine wcf Hz ?_
  refine zss (hK2 _ _ ?_)
  refine wp_region_lit ?_
  refine goCh Hz (.inc (k + 1) <| .move rfl .nil) fun Az Hz => ?_
  refine wpList_nil ?_
  show ∃ n', n' < _ ∧ _
  exact ⟨b.length - (k + 1), by omega, k + 1, v, by omega, by omega, rfl, by rw [← hv]; exact acc_bound u k (b.getD k 0) hu, by rw [← hD, if_neg hno, if_neg (by omega), hv], Hz.only [0, 4, 10, 11, 12], m16.only [1, 2]⟩
 intro hb12 Hz; try simp only [QQ, Qax] at hb12
 revert Hz
 obtain rfl : k = b.length := by omega
 intro Hz
 have hE : dec 0 0 b = .err 21 := by rw [← hD0, List.drop_length]; rfl
 refine wcf Hz ?_
 refine wp_exit ?_
 refine hK0 _ _ ?_
 refine regS Hz (.assign rfl <| .assign rfl .nil) fun Az Hz => ?_
 refine rt2 Hz ?_
 rw [hE] at hd; cases hd
theorem pnumber_err (X : Cx) (B : Nat) (b : List Int) (er : Int) (p : Option Addr) (c : Nat) (w0 : World) (er1 : Int) (hb : b.length ≤ 1000000) (hbb : BytesL b) (hd : dec 0 0 b = .err er1) (m0 : MemOk X w0 [(1, .box B 148 [.slice p (b).length c, .int .i64 er]), (2, .dat (.slice p (b).length c) (.ns .u8 (b)))] w0) :
   Calls Tryz.prog 106 #[.pointer (some ⟨B, 0, none⟩)] w0 fun e w' => e = .returned (.tuple #[.int .u64 0, .int .i64 er1]) ∧ MemOk X w0 [(1, .box B 148 [.slice p (b).length c, .int .i64 er]), (2, .dat (.slice p (b).length c) (.ns .u8 (b)))] w' := by
 refine ent1 Tryz.func106 rfl Tryz.ntmps106 fun Az Hz => ?_
 refine regS Hz (.assign rfl <| .assign rfl .nil) fun Az Hz => ?_
 refine regS Hz (.assign rfl .nil) fun Az Hz => ?_
 refine wsk fun K0 hK0 => ?_
 refine regS Hz (.move rfl <| .nilCheck rfl <| .fa 0 rfl U146 <| .lb m0 1 U22 rfl rfl rfl <| .len rfl U22 <| .move rfl .nil) fun Az Hz => ?_
 refine wp_block ?_
 refine wp_loop_ghost (fun g a w => ∃ (k u : Nat), k ≤ b.length ∧ k ≤ 9 ∧ g = b.length - k ∧ u < 2 ^ (7 * k) ∧ dec u k (b.drop k) = dec 0 0 b ∧ Has 53 [(0, .pointer (some ⟨B, 0, none⟩)), (4, .int .u64 (u : Int)), (10, .slice p b.length c), (11, .int .i64 b.length), (12, .int .i64 k)] a ∧ MemOk X w0 [(1, .box B 148 [.slice p (b).length c, .int .i64 er]), (2, .dat (.slice p (b).length c) (.ns .u8 (b)))] w) (b.length) ?_ ?_
 · exact ⟨0, 0, Nat.zero_le _, Nat.zero_le _, rfl, by decide, rfl, Hz.only [0, 4, 10, 11, 12], m0.only [1, 2]⟩
 clear Hz m0
 rintro g Az w10 ⟨k, u, hkl, hk9, hg, hu, hD0, Hz, m10⟩
 refine regS Hz (.lss rfl rfl .nil) fun Az Hz => ?_
 refine wsk fun K1 hK1 => ?_
 refine bc Hz 13 ?_ ?_
 ·
  intro hb12 Hz; try simp only [QQ, Qax] at hb12
  have hk : k < b.length := by omega
  have hxb := getD_bd hbb hk
  have hD := hD0
  rw [dec_at hk] at hD
  refine wct Hz ?_
  refine zss (hK1 _ _ ?_)
  refine wsk fun K2 hK2 => ?_
  refine wp_block ?_
  refine zsr fun K3 hK3 => ?_
  refine goCh Hz (.move rfl .nil) fun Az Hz => ?_
  obtain ⟨b16, o16, hp16, m16⟩ := m10.openN (i := 2) rfl (k) hk 100 rfl
  revert Hz
  cases hp16
  intro Hz
  refine gz hK3 Hz (.c rfl (fun _ h_ => y_idx h_ rfl rfl U22 fct23 (k) rfl hk) <| .loadC0 m16 (i := 100) rfl rfl U5 rfl <| .assign rfl <| .assign rfl <| .nil) fun Az Hz => ?_
  refine wsk fun K4 hK4 => ?_
  refine zsr fun K5 hK5 => ?_
  refine goCh Hz (.move rfl <| .eql rfl rfl <| .move rfl .nil) fun Az Hz => ?_
  refine bc Hz 19 ?_ ?_
  ·
   intro hb27 Hz; try simp only [QQ, Qax] at hb27
   refine goCh Hz (.moveZ rfl <| .gtrZ rfl rfl <| .pickT rfl rfl <| .move rfl .nil) fun Az Hz => ?_
   refine bc Hz 23 ?_ ?_
   ·
    intro hb32 Hz; try simp only [QQ, Qax] at hb32
    have hE : dec 0 0 b = .err 20 := by rw [← hD, if_pos (by omega)]
    refine goCh Hz (.sk <| .sk <| .sk .nil) fun Az Hz => ?_
    refine st_skipU Hz rfl rfl rfl rfl fun Az Hz => ?_
    refine st_skipU Hz rfl rfl rfl rfl fun Az Hz => ?_
    refine gz hK5 Hz (.sk <| .pickT rfl rfl <| .nil) fun Az Hz => ?_
    refine wct Hz ?_
    replace Hz := Hz.oz [0, 4, 10, 11, 12, 5, 6, 19, 23, 26, 30]
    refine regS Hz (.assign rfl <| .assign rfl .nil) fun Az Hz => ?_
    refine rt2 Hz ?_
    rw [hE] at hd
    injection hd with hd
    revert Hz
    subst hd
    intro Hz
    exact ⟨rfl, m16.ren [(1, 1), (2, 2)] (by decide)⟩
   intro hb32 Hz; try simp only [QQ, Qax] at hb32
   refine goCh Hz (.moveZ rfl <| .gtrZ rfl rfl <| .moveZ rfl .nil) fun Az Hz => ?_
   refine bc Hz 26 ?_ ?_
   ·
    intro hb46 Hz; try simp only [QQ, Qax] at hb46
    refine gz hK5 Hz (.moveZ rfl <| .eqlZ rfl rfl <| .pickTZ rfl rfl <| .pickF rfl rfl <| .nil) fun Az Hz => ?_
    refine bc Hz 30 ?_ ?_
    ·
     intro hb51 Hz; try simp only [QQ, Qax] at hb51
     have hE : dec 0 0 b = .err 20 := by rw [← hD, if_pos (by omega)]
     refine wct Hz ?_
     replace Hz := Hz.oz [0, 4, 10, 11, 12, 5, 6, 19, 23, 26, 30]
     refine regS Hz (.assign rfl <| .assign rfl .nil) fun Az Hz => ?_
     refine rt2 Hz ?_
     rw [hE] at hd
     injection hd with hd
     revert Hz
     subst hd
     intro Hz
     exact ⟨rfl, m16.ren [(1, 1), (2, 2)] (by decide)⟩
    intro hb51 Hz; try simp only [QQ, Qax] at hb51
    have hno : ¬ ((k = 9 ∧ 1 < (b.getD k 0)) ∨ (0 < k ∧ (b.getD k 0) = 0)) := by omega
    have h9 : k = 9 → (b.getD k 0) ≤ 1 := by omega
    obtain ⟨v, hv⟩ : ∃ v, u + ((b.getD k 0) % 128).toNat * 2 ^ (7 * k) = v := ⟨_, rfl⟩
    refine wcf Hz ?_
    refine zss (hK4 _ _ ?_)
    replace Hz := Hz.oz [0, 4, 10, 11, 12, 5, 6, 19, 23, 26, 30]
    refine regS Hz (.move rfl <| .move rfl <| .c rfl (fun _ h_ => y_andNot h_ rfl rfl (r := (b.getD k 0) % 128) (andNot128 _ hxb.1 hxb.2)) <| .conv rfl U5 U108 (r := (b.getD k 0) % 128) (IntWalk.u64_in _ (by omega)) <| .move rfl <| .mul rfl rfl (r := 7 * (k : Int)) (IntWalk.i64_in _ (by omega)) <| .shl rfl rfl (by omega) (r := IntKind.u64.wrap ((b.getD k 0) % 128 * 2 ^ (7 * k))) (by rw [shx hk9]) <| .or rfl rfl (r := (v : Int)) (by rw [← hv]; exact or_shift u k (b.getD k 0) hu hk9 hxb.1 hxb.2 h9) <| .assign rfl .nil) fun Az Hz => ?_
    replace Hz := Hz.oz [0, 4, 10, 11, 12, 5, 6, 19, 23, 26, 30]
    refine regS Hz (.move rfl <| .lss rfl rfl .nil) fun Az Hz => ?_
    refine bc Hz 40 ?_ ?_
    ·
     intro hb68 Hz; try simp only [QQ, Qax] at hb68
     have hO : dec 0 0 b = .ok v (k + 1) := by rw [← hD, if_neg hno, if_pos (by omega), hv]
     refine wct Hz ?_
     refine zsr fun K6 hK6 => ?_
     refine goCh Hz (.move rfl <| .move rfl <| .nilCheck rfl <| .fa 0 rfl U146 <| .lb m16 1 U22 rfl rfl rfl <| .move rfl <| .inc (k + 1) .nil) fun Az Hz => ?_
     have m84 := m16.dropN (i := 2) rfl (k + 1) (show k + 1 ≤ b.length by omega) 101 rfl
     refine goCh Hz (.c rfl (fun _ h_ => y_sliceLn h_ (k + 1) rfl rfl U22 fct23 rfl (show k + 1 ≤ b.length by omega)) <| .nilCheck rfl <| .fa 0 rfl U146 .nil) fun Az Hz => ?_
     refine plz (st1 Hz m84 1 fct2 fun w88 m88 _ => ?_)
     refine znl (hK6 _ _ ?_)
     replace Hz := Hz.oz [0, 4, 10, 11, 12, 19, 23, 26, 30, 40]
     refine regS Hz (.move rfl <| .assign rfl <| .assign rfl .nil) fun Az Hz => ?_
     refine rt2 Hz ?_
     rw [hO] at hd; cases hd
    intro hb68 Hz; try simp only [QQ, Qax] at hb68
    refine wcf Hz ?_
    refine zss (hK2 _ _ ?_)
    refine wp_region_lit ?_
    refine goCh Hz (.inc (k + 1) <| .move rfl .nil) fun Az Hz => ?_
    refine wpList_nil ?_
    show ∃ n', n' < _ ∧ _
    exact ⟨b.length - (k + 1), by omega, k + 1, v, by omega, by omega, rfl, by rw [← hv]; exact acc_bound u k (b.getD k 0) hu, by rw [← hD, if_neg hno, if_neg (by omega), hv], Hz.only [0, 4, 10, 11, 12], m16.only [1, 2]⟩
   intro hb46 Hz; try simp only [QQ, Qax] at hb46
   have hno : ¬ ((k = 9 ∧ 1 < (b.getD k 0)) ∨ (0 < k ∧ (b.getD k 0) = 0)) := by omega
   have h9 : k = 9 → (b.getD k 0) ≤ 1 := by omega
   obtain ⟨v, hv⟩ : ∃ v, u + ((b.getD k 0) % 128).toNat * 2 ^ (7 * k) = v := ⟨_, rfl⟩
   refine gz hK5 Hz (.sk <| .sk <| .pickFZ rfl rfl <| .pickF rfl rfl <| .nil) fun Az Hz => ?_
   refine wcf Hz ?_
   refine zss (hK4 _ _ ?_)
   replace Hz := Hz.oz [0, 4, 10, 11, 12, 5, 6, 19, 23, 26, 30]
   refine regS Hz (.move rfl <| .move rfl <| .c rfl (fun _ h_ => y_andNot h_ rfl rfl (r := (b.getD k 0) % 128) (andNot128 _ hxb.1 hxb.2)) <| .conv rfl U5 U108 (r := (b.getD k 0) % 128) (IntWalk.u64_in _ (by omega)) <| .move rfl <| .mul rfl rfl (r := 7 * (k : Int)) (IntWalk.i64_in _ (by omega)) <| .shl rfl rfl (by omega) (r := IntKind.u64.wrap ((b.getD k 0) % 128 * 2 ^ (7 * k))) (by rw [shx hk9]) <| .or rfl rfl (r := (v : Int)) (by rw [← hv]; exact or_shift u k (b.getD k 0) hu hk9 hxb.1 hxb.2 h9) <| .assign rfl .nil) fun Az Hz => ?_
   replace Hz := Hz.oz [0, 4, 10, 11, 12, 5, 6, 19, 23, 26, 30]
   refine regS Hz (.move rfl <| .lss rfl rfl .nil) fun Az Hz => ?_
   refine bc Hz 40 ?_ ?_
   ·
    intro hb112 Hz; try simp only [QQ, Qax] at hb112
    have hO : dec 0 0 b = .ok v (k + 1) := by rw [← hD, if_neg hno, if_pos (by omega), hv]
    refine wct Hz ?_
    refine zsr fun K7 hK7 => ?_
    refine goCh Hz (.move rfl <| .move rfl <| .nilCheck rfl <| .fa 0 rfl U146 <| .lb m16 1 U22 rfl rfl rfl <| .move rfl <| .inc (k + 1) .nil) fun Az Hz => ?_
    have m128 := m16.dropN (i := 2) rfl (k + 1) (show k + 1 ≤ b.length by omega) 101 rfl
    refine goCh Hz (.c rfl (fun _ h_ => y_sliceLn h_ (k + 1) rfl rfl U22 fct23 rfl (show k + 1 ≤ b.length by omega)) <| .nilCheck rfl <| .fa 0 rfl U146 .nil) fun Az Hz => ?_
    refine plz (st1 Hz m128 1 fct2 fun w132 m132 _ => ?_)
    refine znl (hK7 _ _ ?_)
    replace Hz := Hz.oz [0, 4, 10, 11, 12, 19, 23, 26, 30, 40]
    refine regS Hz (.move rfl <| .assign rfl <| .assign rfl .nil) fun Az Hz => ?_
    refine rt2 Hz ?_
    rw [hO] at hd; cases hd
   intro hb112 Hz; try simp only [QQ, Qax] at hb112
   refine wcf Hz ?_
   refine zss (hK2 _ _ ?_)
   refine wp_region_lit ?_
   refine goCh Hz (.inc (k + 1) <| .move rfl .nil) fun Az Hz => ?_
   refine wpList_nil ?_
   show ∃ n', n' < _ ∧ _
   exact ⟨b.length - (k + 1), by omega, k + 1, v, by omega, by omega, rfl, by rw [← hv]; exact acc_bound u k (b.getD k 0) hu, by rw [← hD, if_neg hno, if_neg (by omega), hv], Hz.only [0, 4, 10, 11, 12], m16.only [1, 2]⟩
  intro hb27 Hz; try simp only [QQ, Qax] at hb27
  refine goCh Hz (.sk <| .sk <| .pickF rfl rfl <| .move rfl <| .moveZ rfl <| .gtrZ rfl rfl <| .moveZ rfl .nil) fun Az Hz => ?_
  refine bc Hz 26 ?_ ?_
  ·
   intro hb146 Hz; try simp only [QQ, Qax] at hb146
   refine gz hK5 Hz (.moveZ rfl <| .eqlZ rfl rfl <| .pickTZ rfl rfl <| .pickF rfl rfl <| .nil) fun Az Hz => ?_
   refine bc Hz 30 ?_ ?_
   ·
    intro hb151 Hz; try simp only [QQ, Qax] at hb151
    have hE : dec 0 0 b = .err 20 := by rw [← hD, if_pos (by omega)]
    refine wct Hz ?_
    replace Hz := Hz.oz [0, 4, 10, 11, 12, 5, 6, 19, 23, 26, 30]
    refine regS Hz (.assign rfl <| .assign rfl .nil) fun Az Hz => ?_
    refine rt2 Hz ?_
    rw [hE] at hd
    injection hd with hd
    revert Hz
    subst hd
    intro Hz
    exact ⟨rfl, m16.ren [(1, 1), (2, 2)] (by decide)⟩
   intro hb151 Hz; try simp only [QQ, Qax] at hb151
   have hno : ¬ ((k = 9 ∧ 1 < (b.getD k 0)) ∨ (0 < k ∧ (b.getD k 0) = 0)) := by omega
   have h9 : k = 9 → (b.getD k 0) ≤ 1 := by omega
   obtain ⟨v, hv⟩ : ∃ v, u + ((b.getD k 0) % 128).toNat * 2 ^ (7 * k) = v := ⟨_, rfl⟩
   refine wcf Hz ?_
   refine zss (hK4 _ _ ?_)
   replace Hz := Hz.oz [0, 4, 10, 11, 12, 5, 6, 19, 23, 26, 30]
   refine regS Hz (.move rfl <| .move rfl <| .c rfl (fun _ h_ => y_andNot h_ rfl rfl (r := (b.getD k 0) % 128) (andNot128 _ hxb.1 hxb.2)) <| .conv rfl U5 U108 (r := (b.getD k 0) % 128) (IntWalk.u64_in _ (by omega)) <| .move rfl <| .mul rfl rfl (r := 7 * (k : Int)) (IntWalk.i64_in _ (by omega)) <| .shl rfl rfl (by omega) (r := IntKind.u64.wrap ((b.getD k 0) % 128 * 2 ^ (7 * k))) (by rw [shx hk9]) <| .or rfl rfl (r := (v : Int)) (by rw [← hv]; exact or_shift u k (b.getD k 0) hu hk9 hxb.1 hxb.2 h9) <| .assign rfl .nil) fun Az Hz => ?_
   replace Hz := Hz.oz [0, 4, 10, 11, 12, 5, 6, 19, 23, 26, 30]
   refine regS Hz (.move rfl <| .lss rfl rfl .nil) fun Az Hz => ?_
   refine bc Hz 40 ?_ ?_
   ·
    intro hb168 Hz; try simp only [QQ, Qax] at hb168
    have hO : dec 0 0 b = .ok v (k + 1) := by rw [← hD, if_neg hno, if_pos (by omega), hv]
    refine wct Hz ?_
    refine zsr fun K8 hK8 => ?_
    refine goCh Hz (.move rfl <| .move rfl <| .nilCheck rfl <| .fa 0 rfl U146 <| .lb m16 1 U22 rfl rfl rfl <| .move rfl <| .inc (k + 1) .nil) fun Az Hz => ?_
    have m184 := m16.dropN (i := 2) rfl (k + 1) (show k + 1 ≤ b.length by omega) 101 rfl
    refine goCh Hz (.c rfl (fun _ h_ => y_sliceLn h_ (k + 1) rfl rfl U22 fct23 rfl (show k + 1 ≤ b.length by omega)) <| .nilCheck rfl <| .fa 0 rfl U146 .nil) fun Az Hz => ?_
    refine plz (st1 Hz m184 1 fct2 fun w188 m188 _ => ?_)
    refine znl (hK8 _ _ ?_)
    replace Hz := Hz.oz [0, 4, 10, 11, 12, 19, 23, 26, 30, 40]
    refine regS Hz (.move rfl <| .assign rfl <| .assign rfl .nil) fun Az Hz => ?_
    refine rt2 Hz ?_
    rw [hO] at hd; cases hd
   intro hb168 Hz; try simp only [QQ, Qax] at hb168
   refine wcf Hz ?_
   refine zss (hK2 _ _ ?_)
   refine wp_region_lit ?_
   refine goCh Hz (.inc (k + 1) <| .move rfl .nil) fun Az Hz => ?_
   refine wpList_nil ?_
   show ∃ n', n' < _ ∧ _
   exact ⟨b.length - (k + 1), by omega, k + 1, v, by omega, by omega, rfl, by rw [← hv]; exact acc_bound u k (b.getD k 0) hu, by rw [← hD, if_neg hno, if_neg (by omega), hv], Hz.only [0, 4, 10, 11, 12], m16.only [1, 2]⟩
  intro hb146 Hz; try simp only [QQ, Qax] at hb146
  have hno : ¬ ((k = 9 ∧ 1 < (b.getD k 0)) ∨ (0 < k ∧ (b.getD k 0) = 0)) := by omega
  have h9 : k = 9 → (b.getD k 0) ≤ 1 := by omega
  obtain ⟨v, hv⟩ : ∃ v, u + ((b.getD k 0) % 128).toNat * 2 ^ (7 * k) = v := ⟨_, rfl⟩
  refine gz hK5 Hz (.sk <| .sk <| .pickFZ rfl rfl <| .pickF rfl rfl <| .nil) fun Az Hz => ?_
  refine wcf Hz ?_
  refine zss (hK4 _ _ ?_)
  replace Hz := Hz.oz [0, 4, 10, 11, 12, 5, 6, 19, 23, 26, 30]
  refine regS Hz (.move rfl <| .move rfl <| .c rfl (fun _ h_ => y_andNot h_ rfl rfl (r := (b.getD k 0) % 128) (andNot128 _ hxb.1 hxb.2)) <| .conv rfl U5 U108 (r := (b.getD k 0) % 128) (IntWalk.u64_in _ (by omega)) <| .move rfl <| .mul rfl rfl (r := 7 * (k : Int)) (IntWalk.i64_in _ (by omega)) <| .shl rfl rfl (by omega) (r := IntKind.u64.wrap ((b.getD k 0) % 128 * 2 ^ (7 * k))) (by rw [shx hk9]) <| .or rfl rfl (r := (v : Int)) (by rw [← hv]; exact or_shift u k (b.getD k 0) hu hk9 hxb.1 hxb.2 h9) <| .assign rfl .nil) fun Az Hz => ?_
  replace Hz := Hz.oz [0, 4, 10, 11, 12, 5, 6, 19, 23, 26, 30]
  refine regS Hz (.move rfl <| .lss rfl rfl .nil) fun Az Hz => ?_
  refine bc Hz 40 ?_ ?_
  ·
   intro hb212 Hz; try simp only [QQ, Qax] at hb212
   have hO : dec 0 0 b = .ok v (k + 1) := by rw [← hD, if_neg hno, if_pos (by omega), hv]
   refine wct Hz ?_
   refine zsr fun K9 hK9 => ?_
   refine goCh Hz (.move rfl <| .move rfl <| .nilCheck rfl <| .fa 0 rfl U146 <| .lb m16 1 U22 rfl rfl rfl <| .move rfl <| .inc (k + 1) .nil) fun Az Hz => ?_
   have m228 := m16.dropN (i := 2) rfl (k + 1) (show k + 1 ≤ b.length by omega) 101 rfl
   refine goCh Hz (.c rfl (fun _ h_ => y_sliceLn h_ (k + 1) rfl rfl U22 fct23 rfl (show k + 1 ≤ b.length by omega)) <| .nilCheck rfl <| .fa 0 rfl U146 .nil) fun Az Hz => ?_
   refine plz (st1 Hz m228 1 fct2 fun w232 m232 _ => ?_)
   refine znl (hK9 _ _ ?_)
   replace Hz := Hz.oz [0, 4, 10, 11, 12, 19, 23, 26, 30, 40]
   refine regS Hz (.move rfl <| .assign rfl <| .assign rfl .nil) fun Az Hz => ?_
   refine rt2 Hz ?_
   rw [hO] at hd; cases hd
  intro hb212 Hz; try simp only [QQ, Qax] at hb212
  refine wcf Hz ?_
  refine zss (hK2 _ _ ?_)
  refine wp_region_lit ?_
  refine goCh Hz (.inc (k + 1) <| .move rfl .nil) fun Az Hz => ?_
  refine wpList_nil ?_
  show ∃ n', n' < _ ∧ _
  exact ⟨b.length - (k + 1), by omega, k + 1, v, by omega, by omega, rfl, by rw [← hv]; exact acc_bound u k (b.getD k 0) hu, by rw [← hD, if_neg hno, if_neg (by omega), hv], Hz.only [0, 4, 10, 11, 12], m16.only [1, 2]⟩
 intro hb12 Hz; try simp only [QQ, Qax] at hb12
 revert Hz
 obtain rfl : k = b.length := by omega
 intro Hz
 have hE : dec 0 0 b = .err 21 := by rw [← hD0, List.drop_length]; rfl
 refine wcf Hz ?_
 refine wp_exit ?_
 refine hK0 _ _ ?_
 refine regS Hz (.assign rfl <| .assign rfl .nil) fun Az Hz => ?_
 refine rt2 Hz ?_
 rw [hE] at hd
 injection hd with hd
 revert Hz
 subst hd
 intro Hz
 exact ⟨rfl, m10.ren [(1, 1), (2, 2)] (by decide)⟩
theorem pnum_bad (X : Cx) (B : Nat) (b : List Int) (er mx : Int) (p : Option Addr) (c : Nat) (w0 : World) (hb : b.length ≤ 1000000) (hbb : BytesL b) (he : er ≠ 0) (m0 : MemOk X w0 [(1, .box B 148 [.slice p (b).length c, .int .i64 er]), (2, .dat (.slice p (b).length c) (.ns .u8 (b)))] w0) :
   Calls Tryz.prog 60 #[.pointer (some ⟨B, 0, none⟩), .int .u64 mx] w0 fun e w' => ∃ (p' : Option Addr) (c' : Nat), e = .returned (.int .u64 (numR b er mx).1) ∧ MemOk X w0 [(1, .box B 148 [.slice p' ((numR b er mx).2.1).length c', .int .i64 (numR b er mx).2.2]), (2, .dat (.slice p' ((numR b er mx).2.1).length c') (.ns .u8 ((numR b er mx).2.1)))] w' := by
 have hN : numR b er mx = (0, b, er) := numR_bad b er mx he
 refine ent2 Tryz.func60 rfl Tryz.ntmps60 fun Az Hz => ?_
 refine regS Hz (.assign rfl .nil) fun Az Hz => ?_
 refine wsk fun K0 hK0 => ?_
 refine regS Hz (.move rfl <| .nilCheck rfl <| .fieldAddr (off := 0) rfl U148 rfl (s := 1) (by kernel_rfl) rfl <| .fa 1 rfl U146 <| .lb m0 1 U42 rfl rfl rfl <| .neq rfl rfl .nil) fun Az Hz => ?_
 refine bc Hz 12 ?_ ?_
 rotate_left
 · intro hb _; exact absurd hb (by simp; omega)
 clear Hz; intro _ Hz
 refine wct Hz ?_
 replace Hz := Hz.oz [0, 1, 4]
 refine regS Hz (.assign rfl .nil) fun Az Hz => ?_
 refine rt1 Hz ?_
 rw [hN]
 exact ⟨_, _, rfl, m0.ren [(1, 1), (2, 2)] (by decide)⟩
theorem pnum_err (X : Cx) (B : Nat) (b : List Int) (mx : Int) (p : Option Addr) (c : Nat) (w0 : World) (hb : b.length ≤ 1000000) (hbb : BytesL b) (er1 : Int) (hd : dec 0 0 b = .err er1) (m0 : MemOk X w0 [(1, .box B 148 [.slice p (b).length c, .int .i64 0]), (2, .dat (.slice p (b).length c) (.ns .u8 (b)))] w0) :
   Calls Tryz.prog 60 #[.pointer (some ⟨B, 0, none⟩), .int .u64 mx] w0 fun e w' => ∃ (p' : Option Addr) (c' : Nat), e = .returned (.int .u64 (numR b 0 mx).1) ∧ MemOk X w0 [(1, .box B 148 [.slice p' ((numR b 0 mx).2.1).length c', .int .i64 (numR b 0 mx).2.2]), (2, .dat (.slice p' ((numR b 0 mx).2.1).length c') (.ns .u8 ((numR b 0 mx).2.1)))] w' := by
 have hN : numR b 0 mx = (0, [], er1) := numR_err mx hd
 have he1 : er1 = 20 ∨ er1 = 21 := dec_err b 0 0 er1 hd
 refine ent2 Tryz.func60 rfl Tryz.ntmps60 fun Az Hz => ?_
 refine regS Hz (.assign rfl .nil) fun Az Hz => ?_
 refine wsk fun K0 hK0 => ?_
 refine regS Hz (.move rfl <| .nilCheck rfl <| .fieldAddr (off := 0) rfl U148 rfl (s := 1) (by kernel_rfl) rfl <| .fa 1 rfl U146 <| .lb m0 1 U42 rfl rfl rfl <| .neq rfl rfl .nil) fun Az Hz => ?_
 refine bc Hz 12 ?_ ?_
 · intro hb _; exact absurd hb (by simp)
 clear Hz; intro _ Hz
 refine wcf Hz ?_
 refine zss (hK0 _ _ ?_)
 replace Hz := Hz.oz [0, 1, 4]
 refine zsr fun K1 hK1 => ?_
 refine goCh Hz (.move rfl <| .nilCheck rfl <| .fieldAddr (off := 0) rfl U148 rfl (s := 1) (by kernel_rfl) rfl .nil) fun Az Hz => ?_
 refine plz (ecl Hz Tryz.func106 rfl (pnumber_err _ _ _ _ _ _ _ _ hb hbb hd (m0.into [(1, 1), (2, 2)] (by decide) rfl)) ?_)
 rintro e w16 ⟨rfl, hm16⟩
 have mx16 := m0.back hm16 [(1, 1), (2, 2)] (by decide); clear hm16 m0
 have m16 := mx16.oz [1, 2]
 refine ⟨_, rfl, ?_⟩; intro Az Hz
 refine gz hK1 Hz (.move rfl <| .extract rfl rfl <| .extract rfl rfl <| .assign rfl <| .assign rfl <| .nil) fun Az Hz => ?_
 refine wsk fun K2 hK2 => ?_
 replace Hz := Hz.oz [0, 1, 4, 5, 6]
 refine zsr fun K3 hK3 => ?_
 refine goCh Hz (.move rfl <| .eql rfl rfl <| .move rfl .nil) fun Az Hz => ?_
 refine bc Hz 22 ?_ ?_
 · intro hb _; exact absurd hb (by simp; omega)
 clear Hz; intro _ Hz
 refine gz hK3 Hz (.sk <| .sk <| .sk <| .pickF rfl rfl <| .nil) fun Az Hz => ?_
 refine wcf Hz ?_
 refine zss (hK2 _ _ ?_)
 refine wsk fun K4 hK4 => ?_
 replace Hz := Hz.oz [0, 4, 5, 6]
 refine regS Hz (.move rfl <| .neq rfl rfl .nil) fun Az Hz => ?_
 refine bc Hz 28 ?_ ?_
 rotate_left
 · intro hb _; exact absurd hb (by simp; omega)
 clear Hz; intro _ Hz
 refine wct Hz ?_
 refine zsr fun K5 hK5 => ?_
 refine goCh Hz (.move rfl <| .nilCheck rfl <| .fieldAddr (off := 0) rfl U148 rfl (s := 1) (by kernel_rfl) rfl <| .move rfl .nil) fun Az Hz => ?_
 refine plz (ecl Hz Tryz.func107 rfl (pfail_x _ _ _ _ _ _ (m16.into [(1, 1)] (by decide) rfl)) ?_)
 rintro e w47 ⟨rfl, hm47⟩
 have mx47 := m16.back hm47 [(1, 1)] (by decide); clear hm47 m16
 have m47 := mx47.oz [1, 2]
 refine ⟨_, rfl, ?_⟩; intro Az Hz
 refine znl (hK5 _ _ ?_)
 replace Hz := Hz.oz [4, 5]
 refine regS Hz (.assign rfl .nil) fun Az Hz => ?_
 refine rt1 Hz ?_
 have m51 := m47.dat 90 rfl (Rd.nilN _ _ .u8 none)
 rw [hN]
 exact ⟨_, _, rfl, m51.ren [(1, 1), (2, 90)] (by decide)⟩
theorem pnum_long (X : Cx) (B : Nat) (b : List Int) (mx : Int) (p : Option Addr) (c : Nat) (w0 : World) (hb : b.length ≤ 1000000) (hbb : BytesL b) (n j : Nat) (hd : dec 0 0 b = .ok n j) (hl : mx < n) (m0 : MemOk X w0 [(1, .box B 148 [.slice p (b).length c, .int .i64 0]), (2, .dat (.slice p (b).length c) (.ns .u8 (b)))] w0) :
   Calls Tryz.prog 60 #[.pointer (some ⟨B, 0, none⟩), .int .u64 mx] w0 fun e w' => ∃ (p' : Option Addr) (c' : Nat), e = .returned (.int .u64 (numR b 0 mx).1) ∧ MemOk X w0 [(1, .box B 148 [.slice p' ((numR b 0 mx).2.1).length c', .int .i64 (numR b 0 mx).2.2]), (2, .dat (.slice p' ((numR b 0 mx).2.1).length c') (.ns .u8 ((numR b 0 mx).2.1)))] w' := by
 have hN : numR b 0 mx = (0, [], 22) := by rw [numR_val mx hd, if_pos hl]
 refine ent2 Tryz.func60 rfl Tryz.ntmps60 fun Az Hz => ?_
 refine regS Hz (.assign rfl .nil) fun Az Hz => ?_
 refine wsk fun K0 hK0 => ?_
 refine regS Hz (.move rfl <| .nilCheck rfl <| .fieldAddr (off := 0) rfl U148 rfl (s := 1) (by kernel_rfl) rfl <| .fa 1 rfl U146 <| .lb m0 1 U42 rfl rfl rfl <| .neq rfl rfl .nil) fun Az Hz => ?_
 refine bc Hz 12 ?_ ?_
 · intro hb _; exact absurd hb (by simp)
 clear Hz; intro _ Hz
 refine wcf Hz ?_
 refine zss (hK0 _ _ ?_)
 replace Hz := Hz.oz [0, 1, 4]
 refine zsr fun K1 hK1 => ?_
 refine goCh Hz (.move rfl <| .nilCheck rfl <| .fieldAddr (off := 0) rfl U148 rfl (s := 1) (by kernel_rfl) rfl .nil) fun Az Hz => ?_
 refine plz (ecl Hz Tryz.func106 rfl (pnumber_ok _ _ _ _ _ _ _ _ _ hb hbb hd (m0.into [(1, 1), (2, 2)] (by decide) rfl)) ?_)
 rintro e w16 ⟨p16, c16, rfl, hm16⟩
 have mx16 := m0.back hm16 [(1, 1), (2, 2)] (by decide); clear hm16 m0
 have m16 := mx16.oz [1, 2]
 refine ⟨_, rfl, ?_⟩; intro Az Hz
 refine gz hK1 Hz (.move rfl <| .extract rfl rfl <| .extract rfl rfl <| .assign rfl <| .assign rfl <| .nil) fun Az Hz => ?_
 refine wsk fun K2 hK2 => ?_
 replace Hz := Hz.oz [0, 1, 4, 5, 6]
 refine zsr fun K3 hK3 => ?_
 refine goCh Hz (.move rfl <| .eql rfl rfl <| .move rfl .nil) fun Az Hz => ?_
 refine bc Hz 22 ?_ ?_
 rotate_left
 · intro hb _; exact absurd hb (by simp)
 clear Hz; intro _ Hz
 refine gz hK3 Hz (.moveZ rfl <| .moveZ rfl <| .gtrZ rfl rfl <| .pickT rfl rfl <| .nil) fun Az Hz => ?_
 refine bc Hz 26 ?_ ?_
 rotate_left
 · intro hb _; exact absurd hb (by simp; omega)
 clear Hz; intro _ Hz
 refine wct Hz ?_
 replace Hz := Hz.oz [0, 4, 5, 6]
 refine wp_region_lit ?_
 refine gz hK2 Hz (.assign rfl .nil) fun Az Hz => ?_
 refine wsk fun K4 hK4 => ?_
 refine regS Hz (.move rfl <| .neq rfl rfl .nil) fun Az Hz => ?_
 refine bc Hz 28 ?_ ?_
 rotate_left
 · intro hb _; exact absurd hb (by simp)
 clear Hz; intro _ Hz
 refine wct Hz ?_
 refine zsr fun K5 hK5 => ?_
 refine goCh Hz (.move rfl <| .nilCheck rfl <| .fieldAddr (off := 0) rfl U148 rfl (s := 1) (by kernel_rfl) rfl <| .move rfl .nil) fun Az Hz => ?_
 refine plz (ecl Hz Tryz.func107 rfl (pfail_x _ _ _ _ _ _ (m16.into [(1, 1)] (by decide) rfl)) ?_)
 rintro e w49 ⟨rfl, hm49⟩
 have mx49 := m16.back hm49 [(1, 1)] (by decide); clear hm49 m16
 have m49 := mx49.oz [1, 2]
 refine ⟨_, rfl, ?_⟩; intro Az Hz
 refine znl (hK5 _ _ ?_)
 replace Hz := Hz.oz [4, 5]
 refine regS Hz (.assign rfl .nil) fun Az Hz => ?_
 refine rt1 Hz ?_
 have m53 := m49.dat 90 rfl (Rd.nilN _ _ .u8 none)
 rw [hN]
 exact ⟨_, _, rfl, m53.ren [(1, 1), (2, 90)] (by decide)⟩
theorem pnum_in (X : Cx) (B : Nat) (b : List Int) (mx : Int) (p : Option Addr) (c : Nat) (w0 : World) (hb : b.length ≤ 1000000) (hbb : BytesL b) (n j : Nat) (hd : dec 0 0 b = .ok n j) (hl : (n : Int) ≤ mx) (m0 : MemOk X w0 [(1, .box B 148 [.slice p (b).length c, .int .i64 0]), (2, .dat (.slice p (b).length c) (.ns .u8 (b)))] w0) :
   Calls Tryz.prog 60 #[.pointer (some ⟨B, 0, none⟩), .int .u64 mx] w0 fun e w' => ∃ (p' : Option Addr) (c' : Nat), e = .returned (.int .u64 (numR b 0 mx).1) ∧ MemOk X w0 [(1, .box B 148 [.slice p' ((numR b 0 mx).2.1).length c', .int .i64 (numR b 0 mx).2.2]), (2, .dat (.slice p' ((numR b 0 mx).2.1).length c') (.ns .u8 ((numR b 0 mx).2.1)))] w' := by
 have hN : numR b 0 mx = ((n : Int), b.drop j, 0) := by rw [numR_val mx hd, if_neg (by omega)]
 refine ent2 Tryz.func60 rfl Tryz.ntmps60 fun Az Hz => ?_
 refine regS Hz (.assign rfl .nil) fun Az Hz => ?_
 refine wsk fun K0 hK0 => ?_
 refine regS Hz (.move rfl <| .nilCheck rfl <| .fieldAddr (off := 0) rfl U148 rfl (s := 1) (by kernel_rfl) rfl <| .fa 1 rfl U146 <| .lb m0 1 U42 rfl rfl rfl <| .neq rfl rfl .nil) fun Az Hz => ?_
 refine bc Hz 12 ?_ ?_
 · intro hb _; exact absurd hb (by simp)
 clear Hz; intro _ Hz
 refine wcf Hz ?_
 refine zss (hK0 _ _ ?_)
 replace Hz := Hz.oz [0, 1, 4]
 refine zsr fun K1 hK1 => ?_
 refine goCh Hz (.move rfl <| .nilCheck rfl <| .fieldAddr (off := 0) rfl U148 rfl (s := 1) (by kernel_rfl) rfl .nil) fun Az Hz => ?_
 refine plz (ecl Hz Tryz.func106 rfl (pnumber_ok _ _ _ _ _ _ _ _ _ hb hbb hd (m0.into [(1, 1), (2, 2)] (by decide) rfl)) ?_)
 rintro e w16 ⟨p16, c16, rfl, hm16⟩
 have mx16 := m0.back hm16 [(1, 1), (2, 2)] (by decide); clear hm16 m0
 have m16 := mx16.oz [1, 2]
 refine ⟨_, rfl, ?_⟩; intro Az Hz
 refine gz hK1 Hz (.move rfl <| .extract rfl rfl <| .extract rfl rfl <| .assign rfl <| .assign rfl <| .nil) fun Az Hz => ?_
 refine wsk fun K2 hK2 => ?_
 replace Hz := Hz.oz [0, 1, 4, 5, 6]
 refine zsr fun K3 hK3 => ?_
 refine goCh Hz (.move rfl <| .eql rfl rfl <| .move rfl .nil) fun Az Hz => ?_
 refine bc Hz 22 ?_ ?_
 rotate_left
 · intro hb _; exact absurd hb (by simp)
 clear Hz; intro _ Hz
 refine gz hK3 Hz (.moveZ rfl <| .moveZ rfl <| .gtrZ rfl rfl <| .pickT rfl rfl <| .nil) fun Az Hz => ?_
 refine bc Hz 26 ?_ ?_
 · intro hb _; exact absurd hb (by simp; omega)
 clear Hz; intro _ Hz
 refine wcf Hz ?_
 refine zss (hK2 _ _ ?_)
 refine wsk fun K4 hK4 => ?_
 replace Hz := Hz.oz [0, 4, 5, 6]
 refine regS Hz (.move rfl <| .neq rfl rfl .nil) fun Az Hz => ?_
 refine bc Hz 28 ?_ ?_
 · intro hb _; exact absurd hb (by simp)
 clear Hz; intro _ Hz
 refine wcf Hz ?_
 refine zss (hK4 _ _ ?_)
 refine regS Hz (.move rfl <| .assign rfl .nil) fun Az Hz => ?_
 refine rt1 Hz ?_
 rw [hN]
 exact ⟨_, _, rfl, m16.ren [(1, 1), (2, 2)] (by decide)⟩
theorem pnum_x (X : Cx) (B : Nat) (b : List Int) (er mx : Int) (p : Option Addr) (c : Nat) (w0 : World) (hb : b.length ≤ 1000000) (hbb : BytesL b) (m0 : MemOk X w0 [(1, .box B 148 [.slice p (b).length c, .int .i64 er]), (2, .dat (.slice p (b).length c) (.ns .u8 (b)))] w0) :
   Calls Tryz.prog 60 #[.pointer (some ⟨B, 0, none⟩), .int .u64 mx] w0 fun e w' => ∃ (p' : Option Addr) (c' : Nat), e = .returned (.int .u64 (numR b er mx).1) ∧ MemOk X w0 [(1, .box B 148 [.slice p' ((numR b er mx).2.1).length c', .int .i64 (numR b er mx).2.2]), (2, .dat (.slice p' ((numR b er mx).2.1).length c') (.ns .u8 ((numR b er mx).2.1)))] w' := by
 by_cases he : er = 0
 · subst he
   cases hd : dec 0 0 b with
   | err er1 => exact pnum_err X B b mx p c w0 hb hbb er1 hd m0
   | ok n j =>
     by_cases hl : mx < n
     · exact pnum_long X B b mx p c w0 hb hbb n j hd hl m0
     exact pnum_in X B b mx p c w0 hb hbb n j hd (by omega) m0
 exact pnum_bad X B b er mx p c w0 hb hbb he m0
end
end Go.Proofs.YtkehgingagggaaaGreat.K
