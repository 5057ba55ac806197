/- General laws of walks. -/
import Derived.Test.YtkehgingagggaaaGreatG10
namespace Go.Proofs.YtkehgingagggaaaGreat.K
open Go.ChangeShapes Go.WideShapes Go.ChangeAt Go.RowKit
set_option linter.unusedVariables false
set_option linter.unusedSimpArgs false
section
theorem wrapu (z : Int) : 0 ≤ IntKind.u64.wrap z := by
 have e : IntKind.u64.wrap z = z % 18446744073709551616 := by simp [IntKind.wrap, IntKind.signed, IntKind.bits]
 rw [e]; omega
set_option maxRecDepth 100000
set_option maxHeartbeats 4000000
theorem rfail (X : Cx) (B : Nat) (v : Value) (er cd : Int) (w0 : World) (m0 : MemOk X w0 [(1, .box B 115 [v, .int .i64 er])] w0) :
   Calls Tryz.prog 114 #[.pointer (some ⟨B, 0, none⟩), .int .i64 cd] w0 fun e w' => e = .returned (.tuple #[]) ∧ MemOk X w0 [(1, .box B 115 [.slice none 0 0, .int .i64 cd])] w' := by
 refine ent2 Tryz.func114 rfl Tryz.ntmps114 fun Az Hz => ?_
 refine wp_region_lit ?_
 refine goCh Hz (.move rfl <| .move rfl <| .move rfl <| .nilCheck rfl <| .fa 0 rfl U115 .nil) fun Az Hz => ?_
 refine plz (st1 Hz m0 1 fct2 fun w6 m6 _ => ?_)
 refine goCh Hz (.nilCheck rfl <| .fa 1 rfl U115 .nil) fun Az Hz => ?_
 refine plz (st1 Hz m6 1 fct15 fun w9 m9 _ => ?_)
 refine wpList_nil ?_
 try dsimp only [Exit.then, Exit.inBlock]
 try refine out_here ?_
 refine (ret0 (fn := Tryz.f114) Hz rfl ?_)
 exact ⟨rfl, m9.only [1]⟩
theorem rnum (X : Cx) (B : Nat) (b : List Int) (er mx : Int) (p : Option Addr) (c : Nat) (w0 : World) (hb : b.length ≤ 1000000) (hbb : BytesL b) (hmx : 0 ≤ mx) (m0 : MemOk X w0 [(1, .box B 115 [.slice p b.length c, .int .i64 er]), (2, .dat (.slice p b.length c) (.ns .u8 b))] w0) :
   Calls Tryz.prog 65 #[.pointer (some ⟨B, 0, none⟩), .int .u64 mx] w0 fun e w' => ∃ (u : Int) (b' : List Int) (p' : Option Addr) (c' : Nat) (er' : Int), e = .returned (.int .u64 u) ∧ (0 ≤ u ∧ u ≤ mx) ∧ b'.length ≤ b.length ∧ BytesL b' ∧ MemOk X w0 [(1, .box B 115 [.slice p' b'.length c', .int .i64 er']), (2, .dat (.slice p' b'.length c') (.ns .u8 b'))] w' := by
 refine ent2 Tryz.func65 rfl Tryz.ntmps65 fun Az Hz => ?_
 refine regS Hz (.assign rfl .nil) fun Az Hz => ?_
 refine wsk fun K0 hK0 => ?_
 refine regS Hz (.move rfl <| .nilCheck rfl <| .fa 1 rfl U115 <| .lb m0 1 U3 rfl rfl rfl <| .neq rfl rfl .nil) fun Az Hz => ?_
 refine bc Hz 12 ?_ ?_
 ·
  intro hb7 Hz; try simp only [QQ, Qax] at hb7
  refine wct Hz ?_
  refine regS Hz (.assign rfl .nil) fun Az Hz => ?_
  refine rt1 Hz ?_
  exact ⟨0, b, _, _, _, rfl, ⟨by omega, by omega⟩, by omega, hbb, m0.ren [(1, 1), (2, 2)] (by decide)⟩
 intro hb7 Hz; try simp only [QQ, Qax] at hb7
 refine wcf Hz ?_
 refine zss (hK0 _ _ ?_)
 refine regS Hz (.assign rfl .nil) fun Az Hz => ?_
 refine wsk fun K1 hK1 => ?_
 refine regS Hz (.assign rfl .nil) fun Az Hz => ?_
 refine wp_block ?_
 refine wp_loop_ghost (fun g a w => ∃ (k : Nat) (u : Int), k ≤ b.length ∧ g = b.length - k ∧ 0 ≤ u ∧ Has 73 [(0, .pointer (some ⟨B, 0, none⟩)), (1, .int .u64 mx), (5, .int .u64 u), (6, .int .i64 k)] a ∧ MemOk X w0 [(1, .box B 115 [.slice p b.length c, .int .i64 er]), (2, .dat (.slice p b.length c) (.ns .u8 b))] w) (b.length) ?_ ?_
 · exact ⟨0, 0, Nat.zero_le _, rfl, Int.le_refl _, Hz.only [0, 1, 5, 6], m0.only [1, 2]⟩
 clear Hz m0
 rintro g Az w11 ⟨k, u, hkl, hg, hu, Hz, m11⟩
 refine wsk fun K2 hK2 => ?_
 refine regS Hz (.move rfl <| .move rfl <| .nilCheck rfl <| .fa 0 rfl U115 <| .lb m11 1 U22 rfl rfl rfl <| .len rfl U22 <| .lss rfl rfl .nil) fun Az Hz => ?_
 refine bc Hz 19 ?_ ?_
 ·
  intro hb19 Hz; try simp only [QQ, Qax] at hb19
  have hk : k < b.length := by omega
  refine wct Hz ?_
  refine zss (hK2 _ _ ?_)
  refine wsk fun K3 hK3 => ?_
  refine wp_block ?_
  replace Hz := Hz.oz [0, 1, 5, 6]
  refine zsr fun K4 hK4 => ?_
  refine goCh Hz (.move rfl <| .nilCheck rfl <| .fa 0 rfl U115 <| .lb m11 1 U22 rfl rfl rfl <| .move rfl .nil) fun Az Hz => ?_
  obtain ⟨b32, o32, hp32, m32⟩ := m11.openN (i := 2) rfl (k) hk 100 rfl
  revert Hz
  cases hp32
  intro Hz
  refine gz hK4 Hz (.c rfl (fun _ h_ => y_idx h_ rfl rfl U22 fct18 (k) rfl hk) <| .loadC0 m32 (i := 100) rfl rfl U5 rfl <| .assign rfl <| .nil) fun Az Hz => ?_
  refine wsk fun K5 hK5 => ?_
  replace Hz := Hz.oz [0, 1, 5, 6, 7]
  refine zsr fun K6 hK6 => ?_
  refine goCh Hz (.move rfl <| .eql rfl rfl <| .move rfl .nil) fun Az Hz => ?_
  refine bc Hz 31 ?_ ?_
  ·
   intro hb43 Hz; try simp only [QQ, Qax] at hb43
   refine gz hK6 Hz (.moveZ rfl <| .gtrZ rfl rfl <| .pickT rfl rfl <| .nil) fun Az Hz => ?_
   refine bc Hz 34 ?_ ?_
   ·
    intro hb47 Hz; try simp only [QQ, Qax] at hb47
    refine wct Hz ?_
    replace Hz := Hz.oz [0, 1, 5, 6, 7]
    refine zsr fun K7 hK7 => ?_
    refine goCh Hz (.move rfl .nil) fun Az Hz => ?_
    refine plz (ecl Hz Tryz.func114 rfl (rfail _ _ _ _ _ _ (m32.into [(1, 1)] (by decide) rfl)) ?_)
    rintro e w51 ⟨rfl, hm51⟩
    have mx51 := m32.back hm51 [(1, 1)] (by decide); clear hm51 m32
    have m51 := mx51.oz [1, 2, 100]
    refine ⟨_, rfl, ?_⟩; intro Az Hz
    refine znl (hK7 _ _ ?_)
    refine regS Hz (.assign rfl .nil) fun Az Hz => ?_
    refine rt1 Hz ?_
    have m54 := m51.dat 90 rfl (Rd.nilN _ _ .u8 none)
    exact ⟨0, [], _, _, _, rfl, ⟨by omega, by omega⟩, by simp, (fun _ h => by cases h), m54.ren [(1, 1), (2, 90)] (by decide)⟩
   intro hb47 Hz; try simp only [QQ, Qax] at hb47
   refine wcf Hz ?_
   refine zss (hK5 _ _ ?_)
   replace Hz := Hz.oz [0, 1, 5, 6, 7]
   refine regS Hz (.move rfl <| .move rfl <| .and rfl rfl rfl <| .conv rfl U5 U108 rfl <| .move rfl <| .mul rfl rfl (r := 7 * (k : Int)) (IntWalk.i64_in _ (by omega)) <| .shl rfl rfl (by omega) rfl <| .or rfl rfl rfl <| .assign rfl .nil) fun Az Hz => ?_
   replace Hz := Hz.oz [0, 1, 5, 6, 7]
   refine regS Hz (.move rfl <| .lss rfl rfl .nil) fun Az Hz => ?_
   refine bc Hz 46 ?_ ?_
   ·
    intro hb68 Hz; try simp only [QQ, Qax] at hb68
    refine wct Hz ?_
    refine wsk fun K8 hK8 => ?_
    refine zsr fun K9 hK9 => ?_
    refine goCh Hz (.move rfl <| .gtr rfl rfl <| .move rfl .nil) fun Az Hz => ?_
    refine bc Hz 49 ?_ ?_
    ·
     intro hb75 Hz; try simp only [QQ, Qax] at hb75
     refine gz hK9 Hz (.moveZ rfl <| .eqlZ rfl rfl <| .pickT rfl rfl <| .nil) fun Az Hz => ?_
     refine bc Hz 52 ?_ ?_
     ·
      intro hb79 Hz; try simp only [QQ, Qax] at hb79
      refine wct Hz ?_
      replace Hz := Hz.oz [0, 1, 5, 6]
      refine zsr fun K10 hK10 => ?_
      refine goCh Hz (.move rfl .nil) fun Az Hz => ?_
      refine plz (ecl Hz Tryz.func114 rfl (rfail _ _ _ _ _ _ (m32.into [(1, 1)] (by decide) rfl)) ?_)
      rintro e w83 ⟨rfl, hm83⟩
      have mx83 := m32.back hm83 [(1, 1)] (by decide); clear hm83 m32
      have m83 := mx83.oz [1, 2, 100]
      refine ⟨_, rfl, ?_⟩; intro Az Hz
      refine znl (hK10 _ _ ?_)
      refine regS Hz (.assign rfl .nil) fun Az Hz => ?_
      refine rt1 Hz ?_
      have m86 := m83.dat 90 rfl (Rd.nilN _ _ .u8 none)
      exact ⟨0, [], _, _, _, rfl, ⟨by omega, by omega⟩, by simp, (fun _ h => by cases h), m86.ren [(1, 1), (2, 90)] (by decide)⟩
     intro hb79 Hz; try simp only [QQ, Qax] at hb79
     refine wcf Hz ?_
     refine zss (hK8 _ _ ?_)
     refine wsk fun K11 hK11 => ?_
     replace Hz := Hz.oz [0, 1, 5, 6]
     refine regS Hz (.move rfl <| .move rfl <| .gtr rfl rfl .nil) fun Az Hz => ?_
     refine bc Hz 57 ?_ ?_
     ·
      intro hb91 Hz; try simp only [QQ, Qax] at hb91
      refine wct Hz ?_
      refine zsr fun K12 hK12 => ?_
      refine goCh Hz (.move rfl .nil) fun Az Hz => ?_
      refine plz (ecl Hz Tryz.func114 rfl (rfail _ _ _ _ _ _ (m32.into [(1, 1)] (by decide) rfl)) ?_)
      rintro e w94 ⟨rfl, hm94⟩
      have mx94 := m32.back hm94 [(1, 1)] (by decide); clear hm94 m32
      have m94 := mx94.oz [1, 2, 100]
      refine ⟨_, rfl, ?_⟩; intro Az Hz
      refine znl (hK12 _ _ ?_)
      refine regS Hz (.assign rfl .nil) fun Az Hz => ?_
      refine rt1 Hz ?_
      have m97 := m94.dat 90 rfl (Rd.nilN _ _ .u8 none)
      exact ⟨0, [], _, _, _, rfl, ⟨by omega, by omega⟩, by simp, (fun _ h => by cases h), m97.ren [(1, 1), (2, 90)] (by decide)⟩
     intro hb91 Hz; try simp only [QQ, Qax] at hb91
     refine wcf Hz ?_
     refine zss (hK11 _ _ ?_)
     refine zsr fun K13 hK13 => ?_
     refine goCh Hz (.move rfl <| .move rfl <| .nilCheck rfl <| .fa 0 rfl U115 <| .lb m32 1 U22 rfl rfl rfl <| .move rfl <| .inc (k + 1) .nil) fun Az Hz => ?_
     have m113 := m32.dropN (i := 2) rfl (k + 1) (show k + 1 ≤ b.length by omega) 101 rfl
     refine goCh Hz (.c rfl (fun _ h_ => y_sliceLn h_ (k + 1) rfl rfl U22 fct18 rfl (show k + 1 ≤ b.length by omega)) <| .nilCheck rfl <| .fa 0 rfl U115 .nil) fun Az Hz => ?_
     refine plz (st1 Hz m113 1 fct2 fun w117 m117 _ => ?_)
     refine znl (hK13 _ _ ?_)
     replace Hz := Hz.oz [0, 1, 5, 6, 57]
     refine regS Hz (.move rfl <| .assign rfl .nil) fun Az Hz => ?_
     refine rt1 Hz ?_
     have hl9 : b.length - (k + 1) = (b.drop (k + 1)).length := by rw [List.length_drop]
     rw [hl9] at m117
     exact ⟨_, b.drop (k + 1), _, _, _, rfl, ⟨wrapu _, by omega⟩, by rw [List.length_drop]; omega, (fun x hx => hbb x (List.mem_of_mem_drop hx)), m117.ren [(1, 1), (2, 101)] (by decide)⟩
    intro hb75 Hz; try simp only [QQ, Qax] at hb75
    refine gz hK9 Hz (.sk <| .sk <| .pickF rfl rfl <| .nil) fun Az Hz => ?_
    refine wcf Hz ?_
    refine zss (hK8 _ _ ?_)
    refine wsk fun K14 hK14 => ?_
    replace Hz := Hz.oz [0, 1, 5, 6]
    refine regS Hz (.move rfl <| .move rfl <| .gtr rfl rfl .nil) fun Az Hz => ?_
    refine bc Hz 57 ?_ ?_
    ·
     intro hb128 Hz; try simp only [QQ, Qax] at hb128
     refine wct Hz ?_
     refine zsr fun K15 hK15 => ?_
     refine goCh Hz (.move rfl .nil) fun Az Hz => ?_
     refine plz (ecl Hz Tryz.func114 rfl (rfail _ _ _ _ _ _ (m32.into [(1, 1)] (by decide) rfl)) ?_)
     rintro e w131 ⟨rfl, hm131⟩
     have mx131 := m32.back hm131 [(1, 1)] (by decide); clear hm131 m32
     have m131 := mx131.oz [1, 2, 100]
     refine ⟨_, rfl, ?_⟩; intro Az Hz
     refine znl (hK15 _ _ ?_)
     refine regS Hz (.assign rfl .nil) fun Az Hz => ?_
     refine rt1 Hz ?_
     have m134 := m131.dat 90 rfl (Rd.nilN _ _ .u8 none)
     exact ⟨0, [], _, _, _, rfl, ⟨by omega, by omega⟩, by simp, (fun _ h => by cases h), m134.ren [(1, 1), (2, 90)] (by decide)⟩
    intro hb128 Hz; try simp only [QQ, Qax] at hb128
    refine wcf Hz ?_
    refine zss (hK14 _ _ ?_)
    refine zsr fun K16 hK16 => ?_
    refine goCh Hz (.move rfl <| .move rfl <| .nilCheck rfl <| .fa 0 rfl U115 <| .lb m32 1 U22 rfl rfl rfl <| .move rfl <| .inc (k + 1) .nil) fun Az Hz => ?_
    have m150 := m32.dropN (i := 2) rfl (k + 1) (show k + 1 ≤ b.length by omega) 101 rfl
    refine goCh Hz (.c rfl (fun _ h_ => y_sliceLn h_ (k + 1) rfl rfl U22 fct18 rfl (show k + 1 ≤ b.length by omega)) <| .nilCheck rfl <| .fa 0 rfl U115 .nil) fun Az Hz => ?_
    refine plz (st1 Hz m150 1 fct2 fun w154 m154 _ => ?_)
    refine znl (hK16 _ _ ?_)
    replace Hz := Hz.oz [0, 1, 5, 6, 57]
    refine regS Hz (.move rfl <| .assign rfl .nil) fun Az Hz => ?_
    refine rt1 Hz ?_
    have hl9 : b.length - (k + 1) = (b.drop (k + 1)).length := by rw [List.length_drop]
    rw [hl9] at m154
    exact ⟨_, b.drop (k + 1), _, _, _, rfl, ⟨wrapu _, by omega⟩, by rw [List.length_drop]; omega, (fun x hx => hbb x (List.mem_of_mem_drop hx)), m154.ren [(1, 1), (2, 101)] (by decide)⟩
   intro hb68 Hz; try simp only [QQ, Qax] at hb68
   refine wcf Hz ?_
   refine zss (hK3 _ _ ?_)
   refine wp_region_lit ?_
   refine goCh Hz (.move rfl <| .inc (k + 1) <| .assign rfl .nil) fun Az Hz => ?_
   refine wpList_nil ?_
   show ∃ n', n' < _ ∧ _
   exact ⟨b.length - (k + 1), by omega, k + 1, _, by omega, rfl, wrapu _, Hz.only [0, 1, 5, 6], m32.only [1, 2]⟩
  intro hb43 Hz; try simp only [QQ, Qax] at hb43
  refine gz hK6 Hz (.sk <| .sk <| .pickF rfl rfl <| .nil) fun Az Hz => ?_
  refine wcf Hz ?_
  refine zss (hK5 _ _ ?_)
  replace Hz := Hz.oz [0, 1, 5, 6, 7]
  refine regS Hz (.move rfl <| .move rfl <| .and rfl rfl rfl <| .conv rfl U5 U108 rfl <| .move rfl <| .mul rfl rfl (r := 7 * (k : Int)) (IntWalk.i64_in _ (by omega)) <| .shl rfl rfl (by omega) rfl <| .or rfl rfl rfl <| .assign rfl .nil) fun Az Hz => ?_
  replace Hz := Hz.oz [0, 1, 5, 6, 7]
  refine regS Hz (.move rfl <| .lss rfl rfl .nil) fun Az Hz => ?_
  refine bc Hz 46 ?_ ?_
  ·
   intro hb177 Hz; try simp only [QQ, Qax] at hb177
   refine wct Hz ?_
   refine wsk fun K17 hK17 => ?_
   refine zsr fun K18 hK18 => ?_
   refine goCh Hz (.move rfl <| .gtr rfl rfl <| .move rfl .nil) fun Az Hz => ?_
   refine bc Hz 49 ?_ ?_
   ·
    intro hb184 Hz; try simp only [QQ, Qax] at hb184
    refine gz hK18 Hz (.moveZ rfl <| .eqlZ rfl rfl <| .pickT rfl rfl <| .nil) fun Az Hz => ?_
    refine bc Hz 52 ?_ ?_
    ·
     intro hb188 Hz; try simp only [QQ, Qax] at hb188
     refine wct Hz ?_
     replace Hz := Hz.oz [0, 1, 5, 6]
     refine zsr fun K19 hK19 => ?_
     refine goCh Hz (.move rfl .nil) fun Az Hz => ?_
     refine plz (ecl Hz Tryz.func114 rfl (rfail _ _ _ _ _ _ (m32.into [(1, 1)] (by decide) rfl)) ?_)
     rintro e w192 ⟨rfl, hm192⟩
     have mx192 := m32.back hm192 [(1, 1)] (by decide); clear hm192 m32
     have m192 := mx192.oz [1, 2, 100]
     refine ⟨_, rfl, ?_⟩; intro Az Hz
     refine znl (hK19 _ _ ?_)
     refine regS Hz (.assign rfl .nil) fun Az Hz => ?_
     refine rt1 Hz ?_
     have m195 := m192.dat 90 rfl (Rd.nilN _ _ .u8 none)
     exact ⟨0, [], _, _, _, rfl, ⟨by omega, by omega⟩, by simp, (fun _ h => by cases h), m195.ren [(1, 1), (2, 90)] (by decide)⟩
    intro hb188 Hz; try simp only [QQ, Qax] at hb188
    refine wcf Hz ?_
    refine zss (hK17 _ _ ?_)
    refine wsk fun K20 hK20 => ?_
    replace Hz := Hz.oz [0, 1, 5, 6]
    refine regS Hz (.move rfl <| .move rfl <| .gtr rfl rfl .nil) fun Az Hz => ?_
    refine bc Hz 57 ?_ ?_
    ·
     intro hb200 Hz; try simp only [QQ, Qax] at hb200
     refine wct Hz ?_
     refine zsr fun K21 hK21 => ?_
     refine goCh Hz (.move rfl .nil) fun Az Hz => ?_
     refine plz (ecl Hz Tryz.func114 rfl (rfail _ _ _ _ _ _ (m32.into [(1, 1)] (by decide) rfl)) ?_)
     rintro e w203 ⟨rfl, hm203⟩
     have mx203 := m32.back hm203 [(1, 1)] (by decide); clear hm203 m32
     have m203 := mx203.oz [1, 2, 100]
     refine ⟨_, rfl, ?_⟩; intro Az Hz
     refine znl (hK21 _ _ ?_)
     refine regS Hz (.assign rfl .nil) fun Az Hz => ?_
     refine rt1 Hz ?_
     have m206 := m203.dat 90 rfl (Rd.nilN _ _ .u8 none)
     exact ⟨0, [], _, _, _, rfl, ⟨by omega, by omega⟩, by simp, (fun _ h => by cases h), m206.ren [(1, 1), (2, 90)] (by decide)⟩
    intro hb200 Hz; try simp only [QQ, Qax] at hb200
    refine wcf Hz ?_
    refine zss (hK20 _ _ ?_)
    refine zsr fun K22 hK22 => ?_
    refine goCh Hz (.move rfl <| .move rfl <| .nilCheck rfl <| .fa 0 rfl U115 <| .lb m32 1 U22 rfl rfl rfl <| .move rfl <| .inc (k + 1) .nil) fun Az Hz => ?_
    have m222 := m32.dropN (i := 2) rfl (k + 1) (show k + 1 ≤ b.length by omega) 101 rfl
    refine goCh Hz (.c rfl (fun _ h_ => y_sliceLn h_ (k + 1) rfl rfl U22 fct18 rfl (show k + 1 ≤ b.length by omega)) <| .nilCheck rfl <| .fa 0 rfl U115 .nil) fun Az Hz => ?_
    refine plz (st1 Hz m222 1 fct2 fun w226 m226 _ => ?_)
    refine znl (hK22 _ _ ?_)
    replace Hz := Hz.oz [0, 1, 5, 6, 57]
    refine regS Hz (.move rfl <| .assign rfl .nil) fun Az Hz => ?_
    refine rt1 Hz ?_
    have hl9 : b.length - (k + 1) = (b.drop (k + 1)).length := by rw [List.length_drop]
    rw [hl9] at m226
    exact ⟨_, b.drop (k + 1), _, _, _, rfl, ⟨wrapu _, by omega⟩, by rw [List.length_drop]; omega, (fun x hx => hbb x (List.mem_of_mem_drop hx)), m226.ren [(1, 1), (2, 101)] (by decide)⟩
   intro hb184 Hz; try simp only [QQ, Qax] at hb184
   refine gz hK18 Hz (.sk <| .sk <| .pickF rfl rfl <| .nil) fun Az Hz => ?_
   refine wcf Hz ?_
   refine zss (hK17 _ _ ?_)
   refine wsk fun K23 hK23 => ?_
   replace Hz := Hz.oz [0, 1, 5, 6]
   refine regS Hz (.move rfl <| .move rfl <| .gtr rfl rfl .nil) fun Az Hz => ?_
   refine bc Hz 57 ?_ ?_
   ·
    intro hb237 Hz; try simp only [QQ, Qax] at hb237
    refine wct Hz ?_
    refine zsr fun K24 hK24 => ?_
    refine goCh Hz (.move rfl .nil) fun Az Hz => ?_
    refine plz (ecl Hz Tryz.func114 rfl (rfail _ _ _ _ _ _ (m32.into [(1, 1)] (by decide) rfl)) ?_)
    rintro e w240 ⟨rfl, hm240⟩
    have mx240 := m32.back hm240 [(1, 1)] (by decide); clear hm240 m32
    have m240 := mx240.oz [1, 2, 100]
    refine ⟨_, rfl, ?_⟩; intro Az Hz
    refine znl (hK24 _ _ ?_)
    refine regS Hz (.assign rfl .nil) fun Az Hz => ?_
    refine rt1 Hz ?_
    have m243 := m240.dat 90 rfl (Rd.nilN _ _ .u8 none)
    exact ⟨0, [], _, _, _, rfl, ⟨by omega, by omega⟩, by simp, (fun _ h => by cases h), m243.ren [(1, 1), (2, 90)] (by decide)⟩
   intro hb237 Hz; try simp only [QQ, Qax] at hb237
   refine wcf Hz ?_
   refine zss (hK23 _ _ ?_)
   refine zsr fun K25 hK25 => ?_
   refine goCh Hz (.move rfl <| .move rfl <| .nilCheck rfl <| .fa 0 rfl U115 <| .lb m32 1 U22 rfl rfl rfl <| .move rfl <| .inc (k + 1) .nil) fun Az Hz => ?_
   have m259 := m32.dropN (i := 2) rfl (k + 1) (show k + 1 ≤ b.length by omega) 101 rfl
   refine goCh Hz (.c rfl (fun _ h_ => y_sliceLn h_ (k + 1) rfl rfl U22 fct18 rfl (show k + 1 ≤ b.length by omega)) <| .nilCheck rfl <| .fa 0 rfl U115 .nil) fun Az Hz => ?_
   refine plz (st1 Hz m259 1 fct2 fun w263 m263 _ => ?_)
   refine znl (hK25 _ _ ?_)
   replace Hz := Hz.oz [0, 1, 5, 6, 57]
   refine regS Hz (.move rfl <| .assign rfl .nil) fun Az Hz => ?_
   refine rt1 Hz ?_
   have hl9 : b.length - (k + 1) = (b.drop (k + 1)).length := by rw [List.length_drop]
   rw [hl9] at m263
   exact ⟨_, b.drop (k + 1), _, _, _, rfl, ⟨wrapu _, by omega⟩, by rw [List.length_drop]; omega, (fun x hx => hbb x (List.mem_of_mem_drop hx)), m263.ren [(1, 1), (2, 101)] (by decide)⟩
  intro hb177 Hz; try simp only [QQ, Qax] at hb177
  refine wcf Hz ?_
  refine zss (hK3 _ _ ?_)
  refine wp_region_lit ?_
  refine goCh Hz (.move rfl <| .inc (k + 1) <| .assign rfl .nil) fun Az Hz => ?_
  refine wpList_nil ?_
  show ∃ n', n' < _ ∧ _
  exact ⟨b.length - (k + 1), by omega, k + 1, _, by omega, rfl, wrapu _, Hz.only [0, 1, 5, 6], m32.only [1, 2]⟩
 intro hb19 Hz; try simp only [QQ, Qax] at hb19
 refine wcf Hz ?_
 refine wp_exit ?_
 refine hK1 _ _ ?_
 replace Hz := Hz.oz [0, 1, 5, 6]
 refine zsr fun K26 hK26 => ?_
 refine goCh Hz (.move rfl .nil) fun Az Hz => ?_
 refine plz (ecl Hz Tryz.func114 rfl (rfail _ _ _ _ _ _ (m11.into [(1, 1)] (by decide) rfl)) ?_)
 rintro e w273 ⟨rfl, hm273⟩
 have mx273 := m11.back hm273 [(1, 1)] (by decide); clear hm273 m11
 have m273 := mx273.oz [1, 2]
 refine ⟨_, rfl, ?_⟩; intro Az Hz
 refine znl (hK26 _ _ ?_)
 refine regS Hz (.assign rfl .nil) fun Az Hz => ?_
 refine rt1 Hz ?_
 have m276 := m273.dat 90 rfl (Rd.nilN _ _ .u8 none)
 exact ⟨0, [], _, _, _, rfl, ⟨by omega, by omega⟩, by simp, (fun _ h => by cases h), m276.ren [(1, 1), (2, 90)] (by decide)⟩
end
section
set_option maxRecDepth 100000
set_option maxHeartbeats 4000000
theorem rtakePlace (X : Cx) (B : Nat) (b : List Int) (er : Int) (p : Option Addr) (c : Nat) (w0 : World) (hb : b.length ≤ 1000000) (hbb : BytesL b) (m0 : MemOk X w0 [(1, .box B 115 [.slice p b.length c, .int .i64 er]), (2, .dat (.slice p b.length c) (.ns .u8 b))] w0) :
   Calls Tryz.prog 77 #[.pointer (some ⟨B, 0, none⟩)] w0 fun e w' => ∃ (pl b' : List Int) (p' : Option Addr) (c' : Nat) (er' : Int) (p3 : Option Addr) (c3 : Nat), e = .returned (.slice p3 pl.length c3) ∧ pl.length ≤ 256 ∧ b'.length ≤ b.length ∧ BytesL b' ∧ MemOk X w0 [(1, .box B 115 [.slice p' b'.length c', .int .i64 er']), (2, .dat (.slice p' b'.length c') (.ns .u8 b')), (3, .dat (.slice p3 pl.length c3) (.ns .i64 pl))] w' := by
 refine ent1 Tryz.func77 rfl Tryz.ntmps77 fun Az Hz => ?_
 refine regS Hz (.assign rfl .nil) fun Az Hz => ?_
 refine regS Hz (.assign rfl .nil) fun Az Hz => ?_
 refine zsr fun K0 hK0 => ?_
 refine goCh Hz (.move rfl .nil) fun Az Hz => ?_
 refine plz (ecl Hz Tryz.func65 rfl (rnum _ _ b _ 256 _ _ _ (by omega) hbb (by decide) (m0.into [(1, 1), (2, 2)] (by decide) rfl)) ?_)
 rintro e w5 ⟨un, b2, p5, c5, er5, rfl, huun, hbl2, hbb2, hm5⟩
 have mx5 := m0.back hm5 [(1, 1), (2, 2)] (by decide); clear hm5 m0
 have m5 := mx5.oz [1, 2]
 refine ⟨_, rfl, ?_⟩; intro Az Hz
 refine gz hK0 Hz (.assign rfl .nil) fun Az Hz => ?_
 refine wsk fun K1 hK1 => ?_
 refine regS Hz (.assign rfl .nil) fun Az Hz => ?_
 refine wp_block ?_
 refine wp_loop_ghost (fun g a w => ∃ (k : Nat) (pl b1 : List Int) (p1 : Option Addr) (c1 : Nat) (er1 : Int) (p3 : Option Addr) (c3 : Nat), (k : Int) ≤ un ∧ g = un.toNat - k ∧ pl.length ≤ k ∧ b1.length ≤ b.length ∧ BytesL b1 ∧ Has 27 [(0, .pointer (some ⟨B, 0, none⟩)), (3, .slice p3 pl.length c3), (4, .int .u64 un), (5, .int .u64 (k : Int))] a ∧ MemOk X w0 [(1, .box B 115 [.slice p1 b1.length c1, .int .i64 er1]), (2, .dat (.slice p1 b1.length c1) (.ns .u8 b1)), (9, .num (.slice p3 pl.length c3) 3 .i64 pl)] w) (un.toNat) ?_ ?_
 · have mz := m5.nilN 9 3 .i64
   exact ⟨0, [], b2, _, _, _, _, _, by omega, rfl, Nat.le_refl _, hbl2, hbb2, Hz.only [0, 3, 4, 5], mz.only [1, 2, 9]⟩
 clear Hz m5
 rintro g Az w9 ⟨k, pl, b1, p1, c1, er1, p3, c3, hku, hg, hpl, hbl1, hbb1, Hz, m9⟩
 refine wsk fun K2 hK2 => ?_
 refine zsr fun K3 hK3 => ?_
 refine goCh Hz (.move rfl <| .move rfl <| .lss rfl rfl <| .move rfl .nil) fun Az Hz => ?_
 refine bc Hz 11 ?_ ?_
 ·
  intro hb18 Hz; try simp only [QQ, Qax] at hb18
  refine gz hK3 Hz (.moveZ rfl <| .nilCheckZ rfl <| .faZ 1 rfl U115 <| .loadB1Z m9 (i := 1) rfl rfl rfl U3 rfl <| .eqlZ rfl rfl <| .pickT rfl rfl <| .nil) fun Az Hz => ?_
  refine bc Hz 17 ?_ ?_
  ·
   intro hb25 Hz; try simp only [QQ, Qax] at hb25
   refine wct Hz ?_
   refine zss (hK2 _ _ ?_)
   refine wsk fun K4 hK4 => ?_
   refine wp_block ?_
   replace Hz := Hz.oz [0, 3, 4, 5]
   refine wp_region_lit ?_
   refine goCh Hz (.move rfl <| .move rfl .nil) fun Az Hz => ?_
   refine plz (ecl Hz Tryz.func65 rfl (rnum _ _ b1 _ 8 _ _ _ (by omega) hbb1 (by decide) (m9.into [(1, 1), (2, 2)] (by decide) rfl)) ?_)
   rintro e w29 ⟨uv, b2, p29, c29, er29, rfl, huuv, hbl2, hbb2, hm29⟩
   have mx29 := m9.back hm29 [(1, 1), (2, 2)] (by decide); clear hm29 m9
   have m29 := mx29.oz [1, 2, 9]
   refine ⟨_, rfl, ?_⟩; intro Az Hz
   refine goCh Hz (.conv rfl U108 U3 (r := uv) (IntWalk.i64_in _ (by omega)) .nil) fun Az Hz => ?_
   refine plz (e_litN Hz m29 100 (k := .i64) rfl rfl U35 fct17 rfl rfl rfl rfl fun g32 Az w33 Hz m33 => ?_)
   refine plz (e_appN Hz m33 9 rfl rfl rfl (m33.numsO (i := 100) rfl) U35 fct17 (by decide) (by simp; omega) rfl fun p34 c34 Az w35 Hz m35 => ?_)
   refine gz hK4 Hz (.assign rfl .nil) fun Az Hz => ?_
   replace Hz := Hz.oz [0, 3, 4, 5]
   refine wp_region_lit ?_
   refine goCh Hz (.move rfl <| .add rfl rfl (r := ((k + 1 : Nat) : Int)) (by rw [IntWalk.u64_in _ (by omega)]; omega) <| .assign rfl .nil) fun Az Hz => ?_
   refine wpList_nil ?_
   show ∃ n', n' < _ ∧ _
   exact ⟨un.toNat - (k + 1), by omega, k + 1, _, b2, _, _, _, _, _, by omega, rfl, by simp; omega, by omega, hbb2, Hz.only [0, 3, 4, 5], m35.only [1, 2, 9]⟩
  intro hb25 Hz; try simp only [QQ, Qax] at hb25
  refine wcf Hz ?_
  refine wp_exit ?_
  refine hK1 _ _ ?_
  replace Hz := Hz.oz [0, 3, 4, 5]
  refine regS Hz (.move rfl <| .assign rfl .nil) fun Az Hz => ?_
  refine rt1 Hz ?_
  have m44 := m9.freezeN 9 rfl
  exact ⟨pl, b1, _, _, _, _, _, rfl, by omega, hbl1, hbb1, m44.ren [(1, 1), (2, 2), (3, 9)] (by decide)⟩
 intro hb18 Hz; try simp only [QQ, Qax] at hb18
 refine gz hK3 Hz (.sk <| .sk <| .sk <| .sk <| .sk <| .pickF rfl rfl <| .nil) fun Az Hz => ?_
 refine wcf Hz ?_
 refine wp_exit ?_
 refine hK1 _ _ ?_
 replace Hz := Hz.oz [0, 3, 4, 5]
 refine regS Hz (.move rfl <| .assign rfl .nil) fun Az Hz => ?_
 refine rt1 Hz ?_
 have m54 := m9.freezeN 9 rfl
 exact ⟨pl, b1, _, _, _, _, _, rfl, by omega, hbl1, hbb1, m54.ren [(1, 1), (2, 2), (3, 9)] (by decide)⟩
end
section
set_option maxRecDepth 100000
set_option maxHeartbeats 4000000
theorem rlumpR (X : Cx) (B : Nat) (b : List Int) (er mx : Int) (p : Option Addr) (c : Nat) (w0 : World) (hb : b.length ≤ 1000000) (hbb : BytesL b) (hmx : 0 ≤ mx ∧ mx ≤ 1000000) (m0 : MemOk X w0 [(1, .box B 115 [.slice p b.length c, .int .i64 er]), (2, .dat (.slice p b.length c) (.ns .u8 b))] w0) :
   Calls Tryz.prog 120 #[.pointer (some ⟨B, 0, none⟩), .int .i64 mx] w0 fun e w' => ∃ (d b' : List Int) (p' : Option Addr) (c' : Nat) (er' : Int) (p3 : Option Addr) (c3 : Nat), e = .returned (.slice p3 d.length c3) ∧ (d.length : Int) ≤ mx ∧ BytesL d ∧ b'.length ≤ b.length ∧ BytesL b' ∧ MemOk X w0 [(1, .box B 115 [.slice p' b'.length c', .int .i64 er']), (2, .dat (.slice p' b'.length c') (.ns .u8 b')), (3, .dat (.slice p3 d.length c3) (.ns .u8 d))] w' := by
 refine ent2 Tryz.func120 rfl Tryz.ntmps120 fun Az Hz => ?_
 refine regS Hz (.assign rfl .nil) fun Az Hz => ?_
 refine zsr fun K0 hK0 => ?_
 refine goCh Hz (.move rfl <| .move rfl <| .c rfl (fun _ h_ => y_max h_ rfl rfl (r := mx) (by omega)) <| .conv rfl U3 U108 (r := mx) (IntWalk.u64_in _ (by omega)) .nil) fun Az Hz => ?_
 refine plz (ecl Hz Tryz.func65 rfl (rnum _ _ b _ mx _ _ _ hb hbb hmx.1 (m0.into [(1, 1), (2, 2)] (by decide) rfl)) ?_)
 rintro e w10 ⟨u, b2, p10, c10, er10, rfl, hu, hbl2, hbb2, hm10⟩
 have mx10 := m0.back hm10 [(1, 1), (2, 2)] (by decide); clear hm10 m0
 have m10 := mx10.oz [1, 2]
 refine ⟨_, rfl, ?_⟩; intro Az Hz
 refine gz hK0 Hz (.assign rfl .nil) fun Az Hz => ?_
 refine wsk fun K1 hK1 => ?_
 replace Hz := Hz.oz [0, 4, 5]
 refine regS Hz (.move rfl <| .nilCheck rfl <| .fa 1 rfl U115 <| .lb m10 1 U3 rfl rfl rfl <| .neq rfl rfl .nil) fun Az Hz => ?_
 refine bc Hz 16 ?_ ?_
 ·
  intro hb19 Hz; try simp only [QQ, Qax] at hb19
  refine wct Hz ?_
  refine regS Hz (.assign rfl .nil) fun Az Hz => ?_
  refine rt1 Hz ?_
  have m21 := m10.dat 20 rfl (Rd.nilN _ _ .u8 none)
  exact ⟨[], b2, _, _, _, _, _, rfl, by simpa using hmx.1, (fun _ h => by cases h), hbl2, hbb2, m21.ren [(1, 1), (2, 2), (3, 20)] (by decide)⟩
 intro hb19 Hz; try simp only [QQ, Qax] at hb19
 refine wcf Hz ?_
 refine zss (hK1 _ _ ?_)
 refine wsk fun K2 hK2 => ?_
 refine regS Hz (.move rfl <| .move rfl <| .nilCheck rfl <| .fa 0 rfl U115 <| .lb m10 1 U22 rfl rfl rfl <| .len rfl U22 <| .conv rfl U3 U108 (r := (b2.length : Int)) (IntWalk.u64_in _ (by omega)) <| .gtr rfl rfl .nil) fun Az Hz => ?_
 refine bc Hz 24 ?_ ?_
 ·
  intro hb30 Hz; try simp only [QQ, Qax] at hb30
  refine wct Hz ?_
  replace Hz := Hz.oz [0, 4, 5]
  refine zsr fun K3 hK3 => ?_
  refine goCh Hz (.move rfl .nil) fun Az Hz => ?_
  refine plz (ecl Hz Tryz.func114 rfl (rfail _ _ _ _ _ _ (m10.into [(1, 1)] (by decide) rfl)) ?_)
  rintro e w34 ⟨rfl, hm34⟩
  have mx34 := m10.back hm34 [(1, 1)] (by decide); clear hm34 m10
  have m34 := mx34.oz [1, 2]
  refine ⟨_, rfl, ?_⟩; intro Az Hz
  refine znl (hK3 _ _ ?_)
  refine regS Hz (.assign rfl .nil) fun Az Hz => ?_
  refine rt1 Hz ?_
  have m37 := m34.dat 20 rfl (Rd.nilN _ _ .u8 none)
  have m38 := m37.dat 21 rfl (Rd.nilN _ _ .u8 none)
  exact ⟨[], [], _, _, _, _, _, rfl, by simpa using hmx.1, (fun _ h => by cases h), by simp, (fun _ h => by cases h), m38.ren [(1, 1), (2, 21), (3, 20)] (by decide)⟩
 intro hb30 Hz; try simp only [QQ, Qax] at hb30
 obtain ⟨un, hune⟩ : ∃ n : Nat, u = (n : Int) := ⟨u.toNat, by omega⟩
 have hun : un ≤ b2.length := by omega
 refine wcf Hz ?_
 refine zss (hK2 _ _ ?_)
 replace Hz := Hz.oz [0, 4, 5]
 refine zsr fun K4 hK4 => ?_
 refine goCh Hz (.move rfl <| .nilCheck rfl <| .fa 0 rfl U115 <| .lb m10 1 U22 rfl rfl rfl <| .move rfl .nil) fun Az Hz => ?_
 have hcap51 := (m10.rd (i := 2) rfl).ns_out.cap
 have m51 := m10.takeN (i := 2) rfl un hun 20 rfl
 refine gz hK4 Hz (.c rfl (fun _ h_ => y_sliceHn h_ un rfl rfl U22 fct18 hune (Nat.le_trans hun hcap51.1)) <| .assign rfl <| .nil) fun Az Hz => ?_
 replace Hz := Hz.oz [0, 4, 5, 6]
 refine zsr fun K5 hK5 => ?_
 refine goCh Hz (.move rfl <| .move rfl <| .nilCheck rfl <| .fa 0 rfl U115 <| .lb m51 1 U22 rfl rfl rfl <| .move rfl .nil) fun Az Hz => ?_
 have m68 := m51.dropN (i := 2) rfl un hun 21 rfl
 refine goCh Hz (.c rfl (fun _ h_ => y_sliceLn h_ un rfl rfl U22 fct18 hune hun) <| .nilCheck rfl <| .fa 0 rfl U115 .nil) fun Az Hz => ?_
 refine plz (st1 Hz m68 1 fct2 fun w72 m72 _ => ?_)
 refine znl (hK5 _ _ ?_)
 replace Hz := Hz.oz [4, 6]
 refine regS Hz (.move rfl <| .assign rfl .nil) fun Az Hz => ?_
 refine rt1 Hz ?_
 have hl8 : un = (b2.take un).length := by rw [List.length_take]; omega
 have hl9 : b2.length - un = (b2.drop un).length := by rw [List.length_drop]
 exact ⟨b2.take un, b2.drop un, _, _, _, _, _, by rw [← hl8], by rw [← hl8]; omega, (fun x hx => hbb2 x (List.mem_of_mem_take hx)), by rw [← hl9]; omega, (fun x hx => hbb2 x (List.mem_of_mem_drop hx)), by rw [← hl8, ← hl9]; exact m72.ren [(1, 1), (2, 21), (3, 20)] (by decide)⟩
end
section
theorem bytes_app {a b : List Int} (ha : BytesL a) (hb : BytesL b) : BytesL (a ++ b) := fun x hx => (List.mem_append.1 hx).elim (ha x) (hb x)
theorem wrap1 (x : Int) : ∀ k, k < [IntKind.u64.wrap x].length → 0 ≤ [IntKind.u64.wrap x].getD k 0 ∧ [IntKind.u64.wrap x].getD k 0 < 2 ^ 64 := fun k hk => by
 obtain rfl : k = 0 := by simpa using hk
 have e : IntKind.u64.wrap x = x % 18446744073709551616 := by simp [IntKind.wrap, IntKind.signed, IntKind.bits]
 simp [e]; omega
set_option maxRecDepth 100000
set_option maxHeartbeats 4000000
theorem rput_own (xs : List Int) (q : Option Addr) (cq : Nat) (w0 : World) (h0 : Rd (fun _ => True) w0 (.slice q xs.length cq) (.ns .u64 xs)) (hl : xs.length ≤ 1000000) (hxb : ∀ k, k < xs.length → 0 ≤ xs.getD k 0 ∧ xs.getD k 0 < 2 ^ 64) :
   Calls Tryz.prog 92 #[.slice q xs.length cq] w0 fun e w' => ∃ (b : List Int) (p : Option Addr) (c : Nat), e = .returned (.slice p b.length c) ∧ b.length ≤ 10 * xs.length ∧ BytesL b ∧ w'.ownsRow w0.heap.size 5 1 (.slice p b.length c) b.length (b.map (Value.int .u8)) ∧ Below w0.heap.size w0 w' := by
 refine ent1 Tryz.func92 rfl Tryz.ntmps92 fun Az Hz => ?_
 have m0 := MemOk.start (fun _ => False) w0
 refine regS Hz (.assign rfl .nil) fun Az Hz => ?_
 refine regS Hz (.assign rfl .nil) fun Az Hz => ?_
 refine wsk fun K0 hK0 => ?_
 refine regS Hz (.assign rfl .nil) fun Az Hz => ?_
 refine wp_block ?_
 refine wp_loop_ghost (fun g a w => ∃ (k : Nat) (b : List Int) (p : Option Addr) (c : Nat), k ≤ xs.length ∧ g = xs.length - k ∧ b.length ≤ 10 * k ∧ BytesL b ∧ Has 32 [(0, .slice q xs.length cq), (3, .slice p b.length c), (4, .int .i64 k)] a ∧ MemOk (cn w0) w0 [(9, .num (.slice p b.length c) 5 .u8 b)] w) (xs.length) ?_ ?_
 · have mz := m0.nilN 9 5 .u8
   exact ⟨0, [], _, _, Nat.zero_le _, rfl, by simp, (fun _ h => by cases h), Hz.only [0, 3, 4], mz.only [9]⟩
 clear Hz m0
 rintro g Az w4 ⟨k, b, p, c, hkl, hg, hbl, hbb, Hz, m4⟩
 refine wsk fun K1 hK1 => ?_
 refine regS Hz (.move rfl <| .move rfl <| .len rfl U168 <| .lss rfl rfl .nil) fun Az Hz => ?_
 refine bc Hz 9 ?_ ?_
 ·
  intro hb9 Hz; try simp only [QQ, Qax] at hb9
  have hk : k < xs.length := by omega
  have hxk := hxb k hk
  refine wct Hz ?_
  refine zss (hK1 _ _ ?_)
  refine wsk fun K2 hK2 => ?_
  refine wp_block ?_
  refine zsr fun K3 hK3 => ?_
  refine goCh Hz (.move rfl <| .move rfl .nil) fun Az Hz => ?_
  obtain ⟨gx15, ox15, hp15, hl15, hrg15⟩ := h0.extN (k) hk
  revert Hz
  cases hp15
  intro Hz
  refine gz hK3 Hz (.c rfl (fun _ h_ => y_idx h_ rfl rfl U168 fct31 (k) rfl hk) <| .loadAt1 (hrg15 m4 rfl) (q := 0) rfl rfl rfl U108 rfl <| .assign rfl <| .nil) fun Az Hz => ?_
  refine wsk fun K4 hK4 => ?_
  refine wp_block ?_
  refine wp_loop_ghost (fun g a w => ∃ (j : Nat) (u : Int) (b : List Int) (p : Option Addr) (c : Nat), j ≤ 9 ∧ 0 ≤ u ∧ u < 2 ^ (64 - 7 * j) ∧ g = u.toNat ∧ b.length ≤ 10 * k + j ∧ BytesL b ∧ Has 32 [(0, .slice (some ⟨gx15, ox15, none⟩) xs.length cq), (3, .slice p b.length c), (4, .int .i64 k), (5, .int .u64 u)] a ∧ MemOk (cn w0) w0 [(9, .num (.slice p b.length c) 5 .u8 b)] w) ((xs.getD k 0).toNat) ?_ ?_
  · exact ⟨0, xs.getD k 0, b, _, _, by omega, by omega, by simpa using hxk.2, rfl, by omega, hbb, Hz.only [0, 3, 4, 5], m4.only [9]⟩
  clear Hz m4
  rintro g Az w19 ⟨j, u, b, p, c, hj9, hu0, hu1, hg2, hbl2, hbb2, Hz, m19⟩
  refine wsk fun K5 hK5 => ?_
  refine regS Hz (.move rfl <| .geq rfl rfl .nil) fun Az Hz => ?_
  refine bc Hz 17 ?_ ?_
  ·
   intro hb22 Hz; try simp only [QQ, Qax] at hb22
   obtain ⟨z, hz, hzb⟩ : ∃ z, IntKind.u8.wrap ((BitVec.ofInt IntKind.u8.bits (IntKind.u8.wrap u) ||| BitVec.ofInt IntKind.u8.bits 128).toNat) = z ∧ 0 ≤ z ∧ z ≤ 255 := ⟨_, rfl, wrap_u8 _⟩
   obtain ⟨hj8, hu2⟩ := leb_step hj9 hu1 (by omega)
   refine wct Hz ?_
   refine zss (hK5 _ _ ?_)
   refine wp_block ?_
   refine zsr fun K6 hK6 => ?_
   refine goCh Hz (.move rfl <| .move rfl <| .conv rfl U108 U5 rfl <| .or rfl rfl (r := z) hz .nil) fun Az Hz => ?_
   refine plz (e_litN Hz m19 200 (k := .u8) rfl rfl U22 fct0 rfl rfl rfl rfl fun g31 Az w32 Hz m32 => ?_)
   refine plz (e_appN Hz m32 9 rfl rfl rfl (m32.numsO (i := 200) rfl) U22 fct0 (by decide) (by simp; omega) rfl fun p33 c33 Az w34 Hz m34 => ?_)
   refine gz hK6 Hz (.assign rfl .nil) fun Az Hz => ?_
   replace Hz := Hz.oz [0, 3, 4, 5]
   refine wp_region_lit ?_
   refine goCh Hz (.move rfl <| .shr rfl rfl (by decide) (r := u / 128) (by rw [show (2 : Int) ^ min (7 : Int).toNat IntKind.u64.bits = 128 from by decide]; exact Int.fdiv_eq_ediv_of_nonneg _ (by decide)) <| .assign rfl .nil) fun Az Hz => ?_
   refine wpList_nil ?_
   show ∃ n', n' < _ ∧ _
   exact ⟨(u / 128).toNat, by omega, j + 1, u / 128, _, _, _, hj8, by omega, hu2, rfl, by simp; omega, bytes_snoc hbb2 hzb, Hz.only [0, 3, 4, 5], m34.only [9]⟩
  intro hb22 Hz; try simp only [QQ, Qax] at hb22
  refine wcf Hz ?_
  refine wp_exit ?_
  refine hK4 _ _ ?_
  refine wp_region_lit ?_
  refine goCh Hz (.move rfl <| .move rfl <| .conv rfl U108 U5 rfl .nil) fun Az Hz => ?_
  refine plz (e_litN Hz m19 200 (k := .u8) rfl rfl U22 fct0 rfl rfl rfl rfl fun g43 Az w44 Hz m44 => ?_)
  refine plz (e_appN Hz m44 9 rfl rfl rfl (m44.numsO (i := 200) rfl) U22 fct0 (by decide) (by simp; omega) rfl fun p45 c45 Az w46 Hz m46 => ?_)
  refine gz hK2 Hz (.assign rfl .nil) fun Az Hz => ?_
  replace Hz := Hz.oz [0, 3, 4, 5]
  refine wp_region_lit ?_
  refine goCh Hz (.move rfl <| .inc (k + 1) <| .assign rfl .nil) fun Az Hz => ?_
  refine wpList_nil ?_
  show ∃ n', n' < _ ∧ _
  exact ⟨xs.length - (k + 1), by omega, k + 1, _, _, _, by omega, rfl, by simp; omega, bytes_snoc hbb2 (wrap_u8 _), Hz.only [0, 3, 4], m46.only [9]⟩
 intro hb9 Hz; try simp only [QQ, Qax] at hb9
 revert Hz
 obtain rfl : k = xs.length := by omega
 intro Hz
 refine wcf Hz ?_
 refine wp_exit ?_
 refine hK0 _ _ ?_
 refine regS Hz (.move rfl <| .assign rfl .nil) fun Az Hz => ?_
 refine rt1 Hz ?_
 exact ⟨_, _, _, rfl, hbl, hbb, m4.ok 9 _ rfl, m4.below⟩
theorem rnums16 (xs : List Int) (q : Option Addr) (cq : Nat) (w0 : World) (h0 : Rd (fun _ => True) w0 (.slice q xs.length cq) (.ns .i64 xs)) (hl : xs.length ≤ 1000000) :
   Calls Tryz.prog 44 #[.slice q xs.length cq] w0 fun e w' => ∃ (b : List Int) (p : Option Addr) (c : Nat), e = .returned (.slice p b.length c) ∧ b.length ≤ 10 * xs.length ∧ BytesL b ∧ w'.ownsRow w0.heap.size 5 1 (.slice p b.length c) b.length (b.map (Value.int .u8)) ∧ Below w0.heap.size w0 w' := by
 refine ent1 Tryz.func44 rfl Tryz.ntmps44 fun Az Hz => ?_
 have m0 := MemOk.start (fun _ => False) w0
 refine regS Hz (.assign rfl .nil) fun Az Hz => ?_
 refine regS Hz (.assign rfl .nil) fun Az Hz => ?_
 refine wsk fun K0 hK0 => ?_
 refine regS Hz (.assign rfl .nil) fun Az Hz => ?_
 refine wp_block ?_
 refine wp_loop_ghost (fun g a w => ∃ (k : Nat) (b : List Int) (p : Option Addr) (c : Nat), k ≤ xs.length ∧ g = xs.length - k ∧ b.length ≤ 10 * k ∧ BytesL b ∧ Has 21 [(0, .slice q xs.length cq), (3, .slice p b.length c), (4, .int .i64 k)] a ∧ MemOk (cn w0) w0 [(9, .num (.slice p b.length c) 5 .u8 b)] w) (xs.length) ?_ ?_
 · have mz := m0.nilN 9 5 .u8
   exact ⟨0, [], _, _, Nat.zero_le _, rfl, by simp, (fun _ h => by cases h), Hz.only [0, 3, 4], mz.only [9]⟩
 clear Hz m0
 rintro g Az w4 ⟨k, b, p, c, hkl, hg, hbl, hbb, Hz, m4⟩
 refine wsk fun K1 hK1 => ?_
 refine regS Hz (.move rfl <| .move rfl <| .len rfl U48 <| .lss rfl rfl .nil) fun Az Hz => ?_
 refine bc Hz 8 ?_ ?_
 ·
  intro hb9 Hz; try simp only [QQ, Qax] at hb9
  have hk : k < xs.length := by omega
  refine wct Hz ?_
  refine zss (hK1 _ _ ?_)
  refine wsk fun K2 hK2 => ?_
  refine wp_block ?_
  refine wp_region_lit ?_
  refine goCh Hz (.move rfl <| .move rfl <| .move rfl .nil) fun Az Hz => ?_
  obtain ⟨gx13, ox13, hp13, hl13, hrg13⟩ := h0.extN (k) hk
  revert Hz
  cases hp13
  intro Hz
  refine goCh Hz (.c rfl (fun _ h_ => y_idx h_ rfl rfl U48 fct19 (k) rfl hk) <| .loadAt1 (hrg13 m4 rfl) (q := 0) rfl rfl rfl U2 rfl <| .conv rfl U2 U108 rfl .nil) fun Az Hz => ?_
  refine plz (e_litN Hz m4 100 (k := .u64) rfl rfl U168 fct32 rfl rfl rfl rfl fun g17 Az w18 Hz m18 => ?_)
  have m19 := m18.freezeN 100 rfl
  refine plz (ecl Hz Tryz.func92 rfl (rput_own [IntKind.u64.wrap (xs.getD k 0)] _ _ _ ((m19.rd (i := 100) rfl).any) (by simp) (wrap1 _)) ?_)
  rintro e w20 ⟨d1, p20, c20, rfl, hld1, hbd1, ho20, hb20⟩
  have m21 := m19.newN 101 hb20 ho20
  refine ⟨_, rfl, ?_⟩; intro Az Hz
  refine plz (e_appN Hz m21 9 rfl rfl rfl (m21.numsO (i := 101) rfl) U22 fct0 (by decide) (by simp at hld1 ⊢; omega) rfl fun p23 c23 Az w24 Hz m24 => ?_)
  refine gz hK2 Hz (.assign rfl .nil) fun Az Hz => ?_
  replace Hz := Hz.oz [0, 3, 4]
  refine wp_region_lit ?_
  refine goCh Hz (.move rfl <| .inc (k + 1) <| .assign rfl .nil) fun Az Hz => ?_
  refine wpList_nil ?_
  show ∃ n', n' < _ ∧ _
  exact ⟨xs.length - (k + 1), by omega, k + 1, _, _, _, by omega, rfl, by simp at hld1 ⊢; omega, bytes_app hbb hbd1, Hz.only [0, 3, 4], m24.only [9]⟩
 intro hb9 Hz; try simp only [QQ, Qax] at hb9
 revert Hz
 obtain rfl : k = xs.length := by omega
 intro Hz
 refine wcf Hz ?_
 refine wp_exit ?_
 refine hK0 _ _ ?_
 refine regS Hz (.move rfl <| .assign rfl .nil) fun Az Hz => ?_
 refine rt1 Hz ?_
 exact ⟨_, _, _, rfl, hbl, hbb, m4.ok 9 _ rfl, m4.below⟩
theorem rnums13 (xs : List Int) (q : Option Addr) (cq : Nat) (w0 : World) (h0 : Rd (fun _ => True) w0 (.slice q xs.length cq) (.ns .i64 xs)) (hl : xs.length ≤ 1000000) :
   Calls Tryz.prog 93 #[.slice q xs.length cq] w0 fun e w' => ∃ (b : List Int) (p : Option Addr) (c : Nat), e = .returned (.slice p b.length c) ∧ b.length ≤ 10 * xs.length ∧ BytesL b ∧ w'.ownsRow w0.heap.size 5 1 (.slice p b.length c) b.length (b.map (Value.int .u8)) ∧ Below w0.heap.size w0 w' := by
 refine ent1 Tryz.func93 rfl Tryz.ntmps93 fun Az Hz => ?_
 have m0 := MemOk.start (fun _ => False) w0
 refine regS Hz (.assign rfl .nil) fun Az Hz => ?_
 refine regS Hz (.assign rfl .nil) fun Az Hz => ?_
 refine wsk fun K0 hK0 => ?_
 refine regS Hz (.assign rfl .nil) fun Az Hz => ?_
 refine wp_block ?_
 refine wp_loop_ghost (fun g a w => ∃ (k : Nat) (b : List Int) (p : Option Addr) (c : Nat), k ≤ xs.length ∧ g = xs.length - k ∧ b.length ≤ 10 * k ∧ BytesL b ∧ Has 21 [(0, .slice q xs.length cq), (3, .slice p b.length c), (4, .int .i64 k)] a ∧ MemOk (cn w0) w0 [(9, .num (.slice p b.length c) 5 .u8 b)] w) (xs.length) ?_ ?_
 · have mz := m0.nilN 9 5 .u8
   exact ⟨0, [], _, _, Nat.zero_le _, rfl, by simp, (fun _ h => by cases h), Hz.only [0, 3, 4], mz.only [9]⟩
 clear Hz m0
 rintro g Az w4 ⟨k, b, p, c, hkl, hg, hbl, hbb, Hz, m4⟩
 refine wsk fun K1 hK1 => ?_
 refine regS Hz (.move rfl <| .move rfl <| .len rfl U48 <| .lss rfl rfl .nil) fun Az Hz => ?_
 refine bc Hz 8 ?_ ?_
 ·
  intro hb9 Hz; try simp only [QQ, Qax] at hb9
  have hk : k < xs.length := by omega
  refine wct Hz ?_
  refine zss (hK1 _ _ ?_)
  refine wsk fun K2 hK2 => ?_
  refine wp_block ?_
  refine wp_region_lit ?_
  refine goCh Hz (.move rfl <| .move rfl <| .move rfl .nil) fun Az Hz => ?_
  obtain ⟨gx13, ox13, hp13, hl13, hrg13⟩ := h0.extN (k) hk
  revert Hz
  cases hp13
  intro Hz
  refine goCh Hz (.c rfl (fun _ h_ => y_idx h_ rfl rfl U48 fct19 (k) rfl hk) <| .loadAt1 (hrg13 m4 rfl) (q := 0) rfl rfl rfl U2 rfl <| .conv rfl U2 U108 rfl .nil) fun Az Hz => ?_
  refine plz (e_litN Hz m4 100 (k := .u64) rfl rfl U168 fct32 rfl rfl rfl rfl fun g17 Az w18 Hz m18 => ?_)
  have m19 := m18.freezeN 100 rfl
  refine plz (ecl Hz Tryz.func92 rfl (rput_own [IntKind.u64.wrap (xs.getD k 0)] _ _ _ ((m19.rd (i := 100) rfl).any) (by simp) (wrap1 _)) ?_)
  rintro e w20 ⟨d1, p20, c20, rfl, hld1, hbd1, ho20, hb20⟩
  have m21 := m19.newN 101 hb20 ho20
  refine ⟨_, rfl, ?_⟩; intro Az Hz
  refine plz (e_appN Hz m21 9 rfl rfl rfl (m21.numsO (i := 101) rfl) U22 fct0 (by decide) (by simp at hld1 ⊢; omega) rfl fun p23 c23 Az w24 Hz m24 => ?_)
  refine gz hK2 Hz (.assign rfl .nil) fun Az Hz => ?_
  replace Hz := Hz.oz [0, 3, 4]
  refine wp_region_lit ?_
  refine goCh Hz (.move rfl <| .inc (k + 1) <| .assign rfl .nil) fun Az Hz => ?_
  refine wpList_nil ?_
  show ∃ n', n' < _ ∧ _
  exact ⟨xs.length - (k + 1), by omega, k + 1, _, _, _, by omega, rfl, by simp at hld1 ⊢; omega, bytes_app hbb hbd1, Hz.only [0, 3, 4], m24.only [9]⟩
 intro hb9 Hz; try simp only [QQ, Qax] at hb9
 revert Hz
 obtain rfl : k = xs.length := by omega
 intro Hz
 refine wcf Hz ?_
 refine wp_exit ?_
 refine hK0 _ _ ?_
 refine regS Hz (.move rfl <| .assign rfl .nil) fun Az Hz => ?_
 refine rt1 Hz ?_
 exact ⟨_, _, _, rfl, hbl, hbb, m4.ok 9 _ rfl, m4.below⟩
theorem rlump (xs : List Int) (q : Option Addr) (cq : Nat) (w0 : World) (h0 : Rd (fun _ => True) w0 (.slice q xs.length cq) (.ns .u8 xs)) (hl : xs.length ≤ 1000000) (hxb : BytesL xs) :
   Calls Tryz.prog 94 #[.slice q xs.length cq] w0 fun e w' => ∃ (b : List Int) (p : Option Addr) (c : Nat), e = .returned (.slice p b.length c) ∧ b.length ≤ 10 + xs.length ∧ BytesL b ∧ w'.ownsRow w0.heap.size 5 1 (.slice p b.length c) b.length (b.map (Value.int .u8)) ∧ Below w0.heap.size w0 w' := by
 refine ent1 Tryz.func94 rfl Tryz.ntmps94 fun Az Hz => ?_
 have m0 := MemOk.start (fun _ => False) w0
 refine regS Hz (.assign rfl .nil) fun Az Hz => ?_
 refine zsr fun K0 hK0 => ?_
 refine goCh Hz (.move rfl <| .len rfl U22 <| .conv rfl U3 U108 rfl .nil) fun Az Hz => ?_
 refine plz (e_litN Hz m0 20 (k := .u64) rfl rfl U168 fct32 rfl rfl rfl rfl fun g8 Az w9 Hz m9 => ?_)
 have m10 := m9.freezeN 20 rfl
 refine plz (ecl Hz Tryz.func92 rfl (rput_own [IntKind.u64.wrap ((xs.length : Int))] _ _ _ ((m10.rd (i := 20) rfl).any) (by simp) (wrap1 _)) ?_)
 rintro e w11 ⟨d1, p11, c11, rfl, hld1, hbd1, ho11, hb11⟩
 have m12 := m10.newN 21 hb11 ho11
 refine ⟨_, rfl, ?_⟩; intro Az Hz
 refine goCh Hz (.move rfl .nil) fun Az Hz => ?_
 refine plz (e_appN Hz m12 21 rfl rfl rfl (h0.now' m12 rfl).ns_out.nums U22 fct0 (by decide) (by simp at hld1 ⊢; omega) rfl fun p15 c15 Az w16 Hz m16 => ?_)
 refine gz hK0 Hz (.assign rfl .nil) fun Az Hz => ?_
 refine rt1 Hz ?_
 exact ⟨_, _, _, rfl, (by simp at hld1 ⊢; omega), bytes_app hbd1 hxb, m16.ok 21 _ rfl, m16.below⟩
end
section
def ItsS (es : List (Int × List Int)) : Prop := ∀ e ∈ es, e.2.length ≤ 1000 ∧ BytesL e.2
set_option maxRecDepth 100000
set_option maxHeartbeats 4000000
theorem rplace (xs : List Int) (q : Option Addr) (cq : Nat) (w0 : World) (h0 : Rd (fun _ => True) w0 (.slice q xs.length cq) (.ns .i64 xs)) (hl : xs.length ≤ 1000000) :
   Calls Tryz.prog 45 #[.slice q xs.length cq] w0 fun e w' => ∃ (b : List Int) (p : Option Addr) (c : Nat), e = .returned (.slice p b.length c) ∧ b.length ≤ 10 + 10 * xs.length ∧ BytesL b ∧ w'.ownsRow w0.heap.size 5 1 (.slice p b.length c) b.length (b.map (Value.int .u8)) ∧ Below w0.heap.size w0 w' := by
 refine ent1 Tryz.func45 rfl Tryz.ntmps45 fun Az Hz => ?_
 have m0 := MemOk.start (fun _ => False) w0
 refine regS Hz (.assign rfl .nil) fun Az Hz => ?_
 refine zsr fun K0 hK0 => ?_
 refine goCh Hz (.move rfl <| .len rfl U35 .nil) fun Az Hz => ?_
 refine plz (e_litN Hz m0 20 (k := .i64) rfl rfl U48 fct1 rfl rfl rfl rfl fun g6 Az w7 Hz m7 => ?_)
 have m8 := m7.freezeN 20 rfl
 refine plz (ecl Hz Tryz.func44 rfl (rnums16 [(xs.length : Int)] _ _ _ ((m8.rd (i := 20) rfl).any) (by simp)) ?_)
 rintro e w9 ⟨d0, p9, c9, rfl, hld0, hbd0, ho9, hb9⟩
 have m10 := m8.newN 21 hb9 ho9
 refine ⟨_, rfl, ?_⟩; intro Az Hz
 refine gz hK0 Hz (.assign rfl .nil) fun Az Hz => ?_
 refine wsk fun K1 hK1 => ?_
 refine regS Hz (.assign rfl .nil) fun Az Hz => ?_
 refine wp_block ?_
 refine wp_loop_ghost (fun g a w => ∃ (k : Nat) (b : List Int) (p : Option Addr) (c : Nat), k ≤ xs.length ∧ g = xs.length - k ∧ b.length ≤ 10 + 10 * k ∧ BytesL b ∧ Has 24 [(0, .slice q xs.length cq), (3, .slice p b.length c), (4, .int .i64 k)] a ∧ MemOk (cn w0) w0 [(9, .num (.slice p b.length c) 5 .u8 b)] w) (xs.length) ?_ ?_
 · exact ⟨0, d0, _, _, Nat.zero_le _, rfl, by simpa using hld0, hbd0, Hz.only [0, 3, 4], m10.ren [(9, 21)] (by decide)⟩
 clear Hz m10
 rintro g Az w14 ⟨k, b, p, c, hkl, hg, hbl, hbb, Hz, m14⟩
 refine wsk fun K2 hK2 => ?_
 refine regS Hz (.move rfl <| .move rfl <| .len rfl U35 <| .lss rfl rfl .nil) fun Az Hz => ?_
 refine bc Hz 12 ?_ ?_
 ·
  intro hb19 Hz; try simp only [QQ, Qax] at hb19
  have hk : k < xs.length := by omega
  refine wct Hz ?_
  refine zss (hK2 _ _ ?_)
  refine wsk fun K3 hK3 => ?_
  refine wp_block ?_
  refine wp_region_lit ?_
  refine goCh Hz (.move rfl <| .move rfl <| .move rfl .nil) fun Az Hz => ?_
  obtain ⟨gx23, ox23, hp23, hl23, hrg23⟩ := h0.extN (k) hk
  revert Hz
  cases hp23
  intro Hz
  refine goCh Hz (.c rfl (fun _ h_ => y_idx h_ rfl rfl U35 fct15 (k) rfl hk) <| .loadAt1 (hrg23 m14 rfl) (q := 0) rfl rfl rfl U3 rfl .nil) fun Az Hz => ?_
  refine plz (e_litN Hz m14 100 (k := .i64) rfl rfl U48 fct1 rfl rfl rfl rfl fun g26 Az w27 Hz m27 => ?_)
  have m28 := m27.freezeN 100 rfl
  refine plz (ecl Hz Tryz.func44 rfl (rnums16 [xs.getD k 0] _ _ _ ((m28.rd (i := 100) rfl).any) (by simp)) ?_)
  rintro e w29 ⟨d1, p29, c29, rfl, hld1, hbd1, ho29, hb29⟩
  have m30 := m28.newN 101 hb29 ho29
  refine ⟨_, rfl, ?_⟩; intro Az Hz
  refine plz (e_appN Hz m30 9 rfl rfl rfl (m30.numsO (i := 101) rfl) U22 fct0 (by decide) (by simp at hld1 ⊢; omega) rfl fun p32 c32 Az w33 Hz m33 => ?_)
  refine gz hK3 Hz (.assign rfl .nil) fun Az Hz => ?_
  replace Hz := Hz.oz [0, 3, 4]
  refine wp_region_lit ?_
  refine goCh Hz (.move rfl <| .inc (k + 1) <| .assign rfl .nil) fun Az Hz => ?_
  refine wpList_nil ?_
  show ∃ n', n' < _ ∧ _
  exact ⟨xs.length - (k + 1), by omega, k + 1, _, _, _, by omega, rfl, by simp at hld1 ⊢; omega, bytes_app hbb hbd1, Hz.only [0, 3, 4], m33.only [9]⟩
 intro hb19 Hz; try simp only [QQ, Qax] at hb19
 revert Hz
 obtain rfl : k = xs.length := by omega
 intro Hz
 refine wcf Hz ?_
 refine wp_exit ?_
 refine hK1 _ _ ?_
 refine regS Hz (.move rfl <| .assign rfl .nil) fun Az Hz => ?_
 refine rt1 Hz ?_
 exact ⟨_, _, _, rfl, hbl, hbb, m14.ok 9 _ rfl, m14.below⟩
theorem rputItems (es : List (Int × List Int)) (q : Option Addr) (nn cq : Nat) (w0 : World) (h0 : Rd (fun _ => True) w0 (.slice q nn cq) (.l 2 (es.map itD))) (hl : es.length ≤ 10000) (hok : ItsS es) :
   Calls Tryz.prog 46 #[.slice q nn cq] w0 fun e w' => ∃ (b : List Int) (p : Option Addr) (c : Nat), e = .returned (.slice p b.length c) ∧ b.length ≤ 10 + 1020 * es.length ∧ BytesL b ∧ w'.ownsRow w0.heap.size 5 1 (.slice p b.length c) b.length (b.map (Value.int .u8)) ∧ Below w0.heap.size w0 w' := by
 obtain rfl : nn = es.length := by obtain ⟨pq, c9, hv, _⟩ := h0.l_shape; injection hv with _ e2 _; rw [List.length_map] at e2; exact e2
 refine ent1 Tryz.func46 rfl Tryz.ntmps46 fun Az Hz => ?_
 have m0 := MemOk.start (fun _ => False) w0
 refine regS Hz (.assign rfl .nil) fun Az Hz => ?_
 refine zsr fun K0 hK0 => ?_
 refine goCh Hz (.move rfl <| .len rfl U36 .nil) fun Az Hz => ?_
 refine plz (e_litN Hz m0 20 (k := .i64) rfl rfl U48 fct1 rfl rfl rfl rfl fun g6 Az w7 Hz m7 => ?_)
 have m8 := m7.freezeN 20 rfl
 refine plz (ecl Hz Tryz.func93 rfl (rnums13 [(es.length : Int)] _ _ _ ((m8.rd (i := 20) rfl).any) (by simp)) ?_)
 rintro e w9 ⟨d0, p9, c9, rfl, hld0, hbd0, ho9, hb9⟩
 have m10 := m8.newN 21 hb9 ho9
 refine ⟨_, rfl, ?_⟩; intro Az Hz
 refine gz hK0 Hz (.assign rfl .nil) fun Az Hz => ?_
 refine wsk fun K1 hK1 => ?_
 refine regS Hz (.assign rfl .nil) fun Az Hz => ?_
 refine wp_block ?_
 refine wp_loop_ghost (fun g a w => ∃ (k : Nat) (b : List Int) (p : Option Addr) (c : Nat), k ≤ es.length ∧ g = es.length - k ∧ b.length ≤ 10 + 1020 * k ∧ BytesL b ∧ Has 32 [(0, .slice q es.length cq), (3, .slice p b.length c), (4, .int .i64 k)] a ∧ MemOk (cn w0) w0 [(9, .num (.slice p b.length c) 5 .u8 b)] w) (es.length) ?_ ?_
 · exact ⟨0, d0, _, _, Nat.zero_le _, rfl, by simpa using hld0, hbd0, Hz.only [0, 3, 4], m10.ren [(9, 21)] (by decide)⟩
 clear Hz m10
 rintro g Az w14 ⟨k, b, p, c, hkl, hg, hbl, hbb, Hz, m14⟩
 refine wsk fun K2 hK2 => ?_
 refine regS Hz (.move rfl <| .move rfl <| .len rfl U36 <| .lss rfl rfl .nil) fun Az Hz => ?_
 refine bc Hz 12 ?_ ?_
 ·
  intro hb19 Hz; try simp only [QQ, Qax] at hb19
  have hk : k < es.length := by omega
  obtain ⟨⟨xb, xd⟩, hes⟩ : ∃ e, es[k]? = some e := ⟨_, List.getElem?_eq_getElem hk⟩
  have hed := hok _ (List.mem_of_getElem? hes)
  dsimp only at hed
  refine wct Hz ?_
  refine zss (hK2 _ _ ?_)
  refine wsk fun K3 hK3 => ?_
  refine wp_block ?_
  obtain ⟨gx21, ox21, vx21, hp21, hl21, hR21, hrg21⟩ := h0.extA (k) (r := [.v (.int .i64 xb), .ns .u8 xd]) (itD_get hes)
  revert Hz
  cases hp21
  rcases hR21 with _ | ⟨hd21_0, _ | ⟨hd21_1, _ | _⟩⟩
  obtain rfl := hd21_0.v_out
  clear hd21_0
  obtain ⟨p22, c22, hv22, hw22⟩ := hd21_1.ns_shape; subst hv22
  intro Hz
  obtain ⟨gx24, ox24, vx24, hp24, hl24, hR24, hrg24⟩ := h0.extA (k) (r := [.v (.int .i64 xb), .ns .u8 xd]) (itD_get hes)
  revert Hz
  cases hp24
  rcases hR24 with _ | ⟨hd24_0, _ | ⟨hd24_1, _ | _⟩⟩
  obtain rfl := hd24_0.v_out
  clear hd24_0
  obtain ⟨p25, c25, hv25, hw25⟩ := hd24_1.ns_shape; subst hv25
  intro Hz
  have m26 := m14.oz [9]
  refine region_p 17 (B := []) (m26.to trivial) m26 (by kernel_rfl) (fun w27 hP27 m27 => ?_); clear m26
  refine goR hP27 [0, 1, 2, 3, 4, 5, 9, 10, 11, 12, 13] [5, 13] 11 0 15935 Hz (m27.to trivial) (.move rfl <| .move rfl <| .move rfl <| .p (fun _ _ h_ => y_idx h_ rfl rfl U36 fct3 (k) rfl hk) <| .fieldAddrQ 0 rfl U59 rfl (s := 0) (by kernel_rfl) rfl <| .loadAt1 (fun _ h_ => (hrg21 h_ rfl)) (q := 0) rfl rfl rfl U3 rfl <| .move rfl <| .move rfl <| .p (fun _ _ h_ => y_idx h_ rfl rfl U36 fct3 (k) rfl hk) <| .fieldAddrQ 1 rfl U59 rfl (s := 0) (by kernel_rfl) rfl <| .loadAt1 (fun _ h_ => (hrg24 h_ rfl)) (q := 1) rfl rfl rfl U22 rfl .nil) fun Az Hz => ?_
  refine so 6 ?_
  refine e_litN Hz m27 102 (k := .i64) rfl rfl U48 fct1 rfl rfl rfl rfl fun g39 Az w40 Hz m40 => ?_
  refine ⟨m40.to trivial, ?_⟩
  have m41 := m40.freezeN 102 rfl
  refine so 7 ?_
  refine ecl Hz Tryz.func93 rfl (rnums13 [xb] _ _ _ ((m41.rd (i := 102) rfl).any) (by simp)) ?_
  rintro e w42 ⟨d1, p42, c42, rfl, hld1, hbd1, ho42, hb42⟩
  have m43 := m41.newN 103 hb42 ho42
  refine ⟨_, rfl, ?_⟩; intro Az Hz
  refine ⟨m43.to trivial, ?_⟩
  refine so 8 ?_
  refine e_appN Hz m43 9 rfl rfl rfl (m43.numsO (i := 103) rfl) U22 fct0 (by decide) (by simp at hld1 ⊢; omega) rfl fun p45 c45 Az w46 Hz m46 => ?_
  refine ⟨m46.to trivial, ?_⟩
  refine so 14 ?_
  refine ecl Hz Tryz.func94 rfl (rlump xd _ _ _ ((hd24_1.now' m46 rfl).any) (by omega) hed.2) ?_
  rintro e w47 ⟨d2, p47, c47, rfl, hld2, hbd2, ho47, hb47⟩
  have m48 := m46.newN 104 hb47 ho47
  refine ⟨_, rfl, ?_⟩; intro Az Hz
  refine ⟨m48.to trivial, ?_⟩
  refine so 15 ?_
  refine e_appN Hz m48 9 rfl rfl rfl (m48.numsO (i := 104) rfl) U22 fct0 (by decide) (by simp at hld1 ⊢; omega) rfl fun p50 c50 Az w51 Hz m51 => ?_
  refine ⟨m51.to trivial, ?_⟩
  refine goA hP27 [16] 1 65535 131071 Hz (m51.to trivial) (.assign rfl .nil) fun Az Hz => ?_
  refine wpAnyE_done (by kernel_rfl) ?_ _
  refine hK3 _ _ ?_
  replace Hz := Hz.oz [0, 3, 4]
  refine wp_region_lit ?_
  refine goCh Hz (.move rfl <| .inc (k + 1) <| .assign rfl .nil) fun Az Hz => ?_
  refine wpList_nil ?_
  show ∃ n', n' < _ ∧ _
  exact ⟨es.length - (k + 1), by omega, k + 1, _, _, _, by omega, rfl, by simp at hld1 ⊢; omega, bytes_app (bytes_app hbb hbd1) hbd2, Hz.only [0, 3, 4], m51.only [9]⟩
 intro hb19 Hz; try simp only [QQ, Qax] at hb19
 revert Hz
 obtain rfl : k = es.length := by omega
 intro Hz
 refine wcf Hz ?_
 refine wp_exit ?_
 refine hK1 _ _ ?_
 refine regS Hz (.move rfl <| .assign rfl .nil) fun Az Hz => ?_
 refine rt1 Hz ?_
 exact ⟨_, _, _, rfl, hbl, hbb, m14.ok 9 _ rfl, m14.below⟩
end
section
theorem fl59tI : flatS Tryz.prog 59 [.int .i64 0, .slice none 0 0] = true := by kernel_rfl
theorem its_snoc {es : List (Int × List Int)} {x : Int × List Int} (h : (∀ e ∈ es, e.2.length ≤ 32 ∧ BytesL e.2)) (hx : x.2.length ≤ 32 ∧ BytesL x.2) : ∀ e ∈ es ++ [x], e.2.length ≤ 32 ∧ BytesL e.2 := fun e he => by
 rcases List.mem_append.1 he with h1 | h1
 · exact h e h1
 rw [List.mem_singleton.1 h1]; exact hx
set_option maxRecDepth 100000
set_option maxHeartbeats 4000000
theorem rtakeItems (X : Cx) (B : Nat) (b : List Int) (er : Int) (p : Option Addr) (c : Nat) (w0 : World) (hb : b.length ≤ 1000000) (hbb : BytesL b) (m0 : MemOk X w0 [(1, .box B 115 [.slice p b.length c, .int .i64 er]), (2, .dat (.slice p b.length c) (.ns .u8 b))] w0) :
   Calls Tryz.prog 78 #[.pointer (some ⟨B, 0, none⟩)] w0 fun e w' => ∃ (es : List (Int × List Int)) (b' : List Int) (p' : Option Addr) (c' : Nat) (er' : Int) (p3 : Option Addr) (c3 : Nat), e = .returned (.slice p3 (es.map itD).length c3) ∧ es.length ≤ 8 ∧ (∀ e ∈ es, e.2.length ≤ 32 ∧ BytesL e.2) ∧ b'.length ≤ b.length ∧ BytesL b' ∧ MemOk X w0 [(1, .box B 115 [.slice p' b'.length c', .int .i64 er']), (2, .dat (.slice p' b'.length c') (.ns .u8 b')), (3, .dat (.slice p3 (es.map itD).length c3) (.l 2 (es.map itD)))] w' := by
 refine ent1 Tryz.func78 rfl Tryz.ntmps78 fun Az Hz => ?_
 refine regS Hz (.assign rfl .nil) fun Az Hz => ?_
 refine regS Hz (.assign rfl .nil) fun Az Hz => ?_
 refine zsr fun K0 hK0 => ?_
 refine goCh Hz (.move rfl .nil) fun Az Hz => ?_
 refine plz (ecl Hz Tryz.func65 rfl (rnum _ _ b _ 8 _ _ _ (by omega) hbb (by decide) (m0.into [(1, 1), (2, 2)] (by decide) rfl)) ?_)
 rintro e w5 ⟨un, b2, p5, c5, er5, rfl, huun, hbl2, hbb2, hm5⟩
 have mx5 := m0.back hm5 [(1, 1), (2, 2)] (by decide); clear hm5 m0
 have m5 := mx5.oz [1, 2]
 refine ⟨_, rfl, ?_⟩; intro Az Hz
 refine gz hK0 Hz (.assign rfl .nil) fun Az Hz => ?_
 refine wsk fun K1 hK1 => ?_
 refine regS Hz (.assign rfl .nil) fun Az Hz => ?_
 refine wp_block ?_
 refine wp_loop_ghost (fun g a w => ∃ (k : Nat) (es : List (Int × List Int)) (b1 : List Int) (p1 : Option Addr) (c1 : Nat) (er1 : Int) (p3 : Option Addr) (c3 : Nat), (k : Int) ≤ un ∧ g = un.toNat - k ∧ es.length ≤ k ∧ (∀ e ∈ es, e.2.length ≤ 32 ∧ BytesL e.2) ∧ b1.length ≤ b.length ∧ BytesL b1 ∧ Has 33 [(0, .pointer (some ⟨B, 0, none⟩)), (3, .slice p3 (es.map itD).length c3), (4, .int .u64 un), (5, .int .u64 (k : Int))] a ∧ MemOk X w0 [(1, .box B 115 [.slice p1 b1.length c1, .int .i64 er1]), (2, .dat (.slice p1 b1.length c1) (.ns .u8 b1)), (9, .row (.slice p3 (es.map itD).length c3) 59 2 (es.map itD))] w) (un.toNat) ?_ ?_
 · have mz := m5.nilR 9 59 2
   exact ⟨0, [], b2, _, _, _, _, _, by omega, rfl, Nat.le_refl _, (fun e h => by cases h), hbl2, hbb2, Hz.only [0, 3, 4, 5], mz.only [1, 2, 9]⟩
 clear Hz m5
 rintro g Az w9 ⟨k, es, b1, p1, c1, er1, p3, c3, hku, hg, hel, hes, hbl1, hbb1, Hz, m9⟩
 refine wsk fun K2 hK2 => ?_
 refine zsr fun K3 hK3 => ?_
 refine goCh Hz (.move rfl <| .move rfl <| .lss rfl rfl <| .move rfl .nil) fun Az Hz => ?_
 refine bc Hz 12 ?_ ?_
 ·
  intro hb18 Hz; try simp only [QQ, Qax] at hb18
  refine gz hK3 Hz (.moveZ rfl <| .nilCheckZ rfl <| .faZ 1 rfl U115 <| .loadB1Z m9 (i := 1) rfl rfl rfl U3 rfl <| .eqlZ rfl rfl <| .pickT rfl rfl <| .nil) fun Az Hz => ?_
  refine bc Hz 18 ?_ ?_
  ·
   intro hb25 Hz; try simp only [QQ, Qax] at hb25
   refine wct Hz ?_
   refine zss (hK2 _ _ ?_)
   refine wsk fun K4 hK4 => ?_
   refine wp_block ?_
   replace Hz := Hz.oz [0, 3, 4, 5]
   refine zsr fun K5 hK5 => ?_
   refine goCh Hz (.move rfl .nil) fun Az Hz => ?_
   refine plz (ecl Hz Tryz.func65 rfl (rnum _ _ b1 _ 256 _ _ _ (by omega) hbb1 (by decide) (m9.into [(1, 1), (2, 2)] (by decide) rfl)) ?_)
   rintro e w29 ⟨uv, b3, p29, c29, er29, rfl, huuv, hbl3, hbb3, hm29⟩
   have mx29 := m9.back hm29 [(1, 1), (2, 2)] (by decide); clear hm29 m9
   have m29 := mx29.oz [1, 2, 9]
   refine ⟨_, rfl, ?_⟩; intro Az Hz
   refine gz hK5 Hz (.conv rfl U108 U3 (r := uv) (IntWalk.i64_in _ (by omega)) <| .assign rfl <| .nil) fun Az Hz => ?_
   refine wp_region_lit ?_
   refine goCh Hz (.move rfl <| .move rfl <| .move rfl .nil) fun Az Hz => ?_
   refine plz (ecl Hz Tryz.func120 rfl (rlumpR _ _ b3 _ 32 _ _ _ (by omega) hbb3 (by decide) (m29.into [(1, 1), (2, 2)] (by decide) rfl)) ?_)
   rintro e w36 ⟨xd, b4, p36, c36, er36, p336, c336, rfl, hxd, hbxd, hbl4, hbb4, hm36⟩
   have mx36 := m29.back hm36 [(1, 1), (2, 2), (100, 3)] (by decide); clear hm36 m29
   have m36 := mx36.oz [1, 2, 100, 9]
   refine ⟨_, rfl, ?_⟩; intro Az Hz
   refine plz (e_app0N Hz m36 101 rfl rfl (m36.nums (i := 100) rfl) U22 fct0 (by decide) (by omega) rfl fun p38 c38 Az w39 Hz m39 => ?_)
   refine goCh Hz (.build rfl fct4 fl59tI rfl (by dsimp only [setL, List.set] <;> rfl) .nil) fun Az Hz => ?_
   have m42 := m39.freezeN 101 rfl
   refine plz (e_litR Hz m42 102 (mm := 2) rfl (.cons rfl rfl (.cons (.v _) (.cons (m42.rd (i := 101) rfl) .nil)) .nil) U36 fct5 rfl rfl rfl rfl rfl fun g41 Az w43 Hz m43 => ?_)
   have m45 := m43.freezeR 102 rfl
   refine plz (e_appR Hz m45 9 rfl rfl rfl (m45.rd (i := 102) rfl) U36 fct5 rfl rfl (by decide) (by simp; omega) rfl fun p44 c44 Az w46 Hz m46 => ?_)
   refine gz hK4 Hz (.assign rfl .nil) fun Az Hz => ?_
   replace Hz := Hz.oz [0, 3, 4, 5]
   refine wp_region_lit ?_
   refine goCh Hz (.move rfl <| .add rfl rfl (r := ((k + 1 : Nat) : Int)) (by rw [IntWalk.u64_in _ (by omega)]; omega) <| .assign rfl .nil) fun Az Hz => ?_
   refine wpList_nil ?_
   show ∃ n', n' < _ ∧ _
   have hE : es.map itD ++ [[D.v (.int .i64 uv), .ns .u8 xd]] = (es ++ [(uv, xd)]).map itD := by rw [List.map_append]; rfl
   rw [hE] at m46 Hz
   exact ⟨un.toNat - (k + 1), by omega, k + 1, es ++ [(uv, xd)], b4, _, _, _, _, _, by omega, rfl, by simp; omega, its_snoc hes ⟨by have := hxd; simp only; omega, hbxd⟩, by omega, hbb4, Hz.only [0, 3, 4, 5], m46.only [1, 2, 9]⟩
  intro hb25 Hz; try simp only [QQ, Qax] at hb25
  refine wcf Hz ?_
  refine wp_exit ?_
  refine hK1 _ _ ?_
  replace Hz := Hz.oz [0, 3, 4, 5]
  refine regS Hz (.move rfl <| .assign rfl .nil) fun Az Hz => ?_
  refine rt1 Hz ?_
  have m55 := m9.freezeR 9 rfl
  exact ⟨es, b1, _, _, _, _, _, rfl, by omega, hes, hbl1, hbb1, m55.ren [(1, 1), (2, 2), (3, 9)] (by decide)⟩
 intro hb18 Hz; try simp only [QQ, Qax] at hb18
 refine gz hK3 Hz (.sk <| .sk <| .sk <| .sk <| .sk <| .pickF rfl rfl <| .nil) fun Az Hz => ?_
 refine wcf Hz ?_
 refine wp_exit ?_
 refine hK1 _ _ ?_
 replace Hz := Hz.oz [0, 3, 4, 5]
 refine regS Hz (.move rfl <| .assign rfl .nil) fun Az Hz => ?_
 refine rt1 Hz ?_
 have m65 := m9.freezeR 9 rfl
 exact ⟨es, b1, _, _, _, _, _, rfl, by omega, hes, hbl1, hbb1, m65.ren [(1, 1), (2, 2), (3, 9)] (by decide)⟩
end
end Go.Proofs.YtkehgingagggaaaGreat.K
