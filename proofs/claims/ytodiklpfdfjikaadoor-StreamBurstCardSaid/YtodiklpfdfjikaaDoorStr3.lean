/- stream: which may be, of any items. -/
import Derived.Test.YtodiklpfdfjikaaDoorStr2
namespace Go.Proofs.YtodiklpfdfjikaaDoor.K
open Go.ChangeShapes Go.WideShapes Go.ChangeAt Go.RowKit
set_option linter.unusedVariables false
set_option linter.unusedSimpArgs false
def HeadOk (bl sz fr to : Int) : Prop := (1 ≤ bl ∧ bl ≤ 256) ∧ (1 ≤ sz ∧ sz ≤ 32) ∧ -1 ≤ fr ∧ (0 ≤ to ∧ to ≤ 1099511627776) ∧ fr ≤ to
instance (bl sz fr to : Int) : Decidable (HeadOk bl sz fr to) := by unfold HeadOk; infer_instance
theorem StreamOk.head {bl sz fr to : Int} {its : List (Int × List Int)} (h : StreamOk bl sz fr to its) : HeadOk bl sz fr to := ⟨h.b, h.z, h.f, h.t, h.ft⟩
set_option maxRecDepth 100000
set_option maxHeartbeats 4000000
theorem headR_no (bl sz fr to : Int) (w0 : World) (hno : ¬ HeadOk bl sz fr to) :
   Calls Tryd.prog 38 #[.agg #[.int .i64 bl, .int .i64 sz, .int .i64 fr, .int .i64 to]] w0 fun e w' => e = .returned (.bool false) ∧ Below w0.heap.size w0 w' := by
 refine ent1 Tryd.func38 rfl Tryd.ntmps38 fun Az Hz => ?_
 have m0 := MemOk.start (fun _ => False) w0
 refine zsr fun K0 hK0 => ?_
 refine wpList_plain rfl (fun K hK => ?_)
 refine e_box Hz m0 20 (cs := [_, _, _, _]) rfl rfl rfl ?_
 clear Hz Az m0; intro g1 Az w2 Hz m2 hB2 hg2
 clear hB2 hg2
 refine hK _ _ ?_; clear hK
 refine goCh Hz (.assign rfl .nil) ?_
 clear Hz Az; intro Az Hz
 refine znl (hK0 _ _ ?_); clear hK0
 refine zsr fun K1 hK1 => ?_
 refine goCh Hz (.fa 0 rfl U76 <| .lb m2 20 U3 rfl rfl rfl <| .geq rfl rfl <| .move rfl <| .nil) ?_
 clear Hz Az; intro Az Hz
 refine bool_cases Hz (t := 6) rfl ?_ ?_
 ·
  clear Hz; intro hb12 Hz; try simp only [QQ, Qax] at hb12
  refine goCh Hz (.faZ 0 rfl U76 <| .loadB1Z m2 (i := 20) rfl rfl rfl U3 rfl <| .leqZ rfl rfl <| .pickT rfl rfl <| .move rfl <| .nil) ?_
  clear Hz Az; intro Az Hz
  refine bool_cases Hz (t := 11) rfl ?_ ?_
  ·
   clear Hz; intro hb18 Hz; try simp only [QQ, Qax] at hb18
   refine goCh Hz (.faZ 1 rfl U76 <| .loadB1Z m2 (i := 20) rfl rfl rfl U3 rfl <| .geqZ rfl rfl <| .pickT rfl rfl <| .move rfl <| .nil) ?_
   clear Hz Az; intro Az Hz
   refine bool_cases Hz (t := 16) rfl ?_ ?_
   ·
    clear Hz; intro hb24 Hz; try simp only [QQ, Qax] at hb24
    refine goCh Hz (.faZ 1 rfl U76 <| .loadB1Z m2 (i := 20) rfl rfl rfl U3 rfl <| .leqZ rfl rfl <| .pickT rfl rfl <| .move rfl <| .nil) ?_
    clear Hz Az; intro Az Hz
    refine bool_cases Hz (t := 21) rfl ?_ ?_
    ·
     clear Hz; intro hb30 Hz; try simp only [QQ, Qax] at hb30
     refine goCh Hz (.faZ 2 rfl U76 <| .loadB1Z m2 (i := 20) rfl rfl rfl U2 rfl <| .geqZ rfl rfl <| .pickT rfl rfl <| .move rfl <| .nil) ?_
     clear Hz Az; intro Az Hz
     refine bool_cases Hz (t := 26) rfl ?_ ?_
     ·
      clear Hz; intro hb36 Hz; try simp only [QQ, Qax] at hb36
      refine goCh Hz (.faZ 3 rfl U76 <| .loadB1Z m2 (i := 20) rfl rfl rfl U2 rfl <| .geqZ rfl rfl <| .pickT rfl rfl <| .move rfl <| .nil) ?_
      clear Hz Az; intro Az Hz
      refine bool_cases Hz (t := 31) rfl ?_ ?_
      ·
       clear Hz; intro hb42 Hz; try simp only [QQ, Qax] at hb42
       refine goCh Hz (.faZ 3 rfl U76 <| .loadB1Z m2 (i := 20) rfl rfl rfl U2 rfl <| .leqZ rfl rfl <| .pickT rfl rfl <| .move rfl <| .nil) ?_
       clear Hz Az; intro Az Hz
       refine bool_cases Hz (t := 36) rfl ?_ ?_
       ·
        clear Hz; intro hb48 Hz; try simp only [QQ, Qax] at hb48
        refine goCh Hz (.faZ 2 rfl U76 <| .loadB1Z m2 (i := 20) rfl rfl rfl U2 rfl <| .faZ 3 rfl U76 <| .loadB1Z m2 (i := 20) rfl rfl rfl U2 rfl <| .leqZ rfl rfl <| .pickT rfl rfl <| .assign rfl <| .nil) ?_
        clear Hz Az; intro Az Hz
        refine znl (hK1 _ _ ?_); clear hK1
        refine wp_ret ?_
        try dsimp only [Exit.then, Exit.inBlock]
        refine (ret1 (fn := Tryd.f38) Hz rfl rfl ?_)
        exact ⟨by (first | rfl | (simp; unfold HeadOk at hno; omega)), m2.below⟩
       clear Hz; intro hb48 Hz; try simp only [QQ, Qax] at hb48
       refine goCh Hz (.sk <| .sk <| .sk <| .sk <| .sk <| .pickF rfl rfl <| .assign rfl <| .nil) ?_
       clear Hz Az; intro Az Hz
       refine znl (hK1 _ _ ?_); clear hK1
       refine wp_ret ?_
       try dsimp only [Exit.then, Exit.inBlock]
       refine (ret1 (fn := Tryd.f38) Hz rfl rfl ?_)
       exact ⟨by (first | rfl | (simp; unfold HeadOk at hno; omega)), m2.below⟩
      clear Hz; intro hb42 Hz; try simp only [QQ, Qax] at hb42
      refine goCh Hz (.sk <| .sk <| .sk <| .pickF rfl rfl <| .move rfl <| .sk <| .sk <| .sk <| .sk <| .sk <| .pickF rfl rfl <| .assign rfl <| .nil) ?_
      clear Hz Az; intro Az Hz
      refine znl (hK1 _ _ ?_); clear hK1
      refine wp_ret ?_
      try dsimp only [Exit.then, Exit.inBlock]
      refine (ret1 (fn := Tryd.f38) Hz rfl rfl ?_)
      exact ⟨by (first | rfl | (simp; unfold HeadOk at hno; omega)), m2.below⟩
     clear Hz; intro hb36 Hz; try simp only [QQ, Qax] at hb36
     refine goCh Hz (.sk <| .sk <| .sk <| .pickF rfl rfl <| .move rfl <| .sk <| .sk <| .sk <| .pickF rfl rfl <| .move rfl <| .sk <| .sk <| .sk <| .sk <| .sk <| .pickF rfl rfl <| .assign rfl <| .nil) ?_
     clear Hz Az; intro Az Hz
     refine znl (hK1 _ _ ?_); clear hK1
     refine wp_ret ?_
     try dsimp only [Exit.then, Exit.inBlock]
     refine (ret1 (fn := Tryd.f38) Hz rfl rfl ?_)
     exact ⟨by (first | rfl | (simp; unfold HeadOk at hno; omega)), m2.below⟩
    clear Hz; intro hb30 Hz; try simp only [QQ, Qax] at hb30
    refine goCh Hz (.sk <| .sk <| .sk <| .pickF rfl rfl <| .move rfl <| .sk <| .sk <| .sk <| .pickF rfl rfl <| .move rfl <| .sk <| .sk <| .sk <| .pickF rfl rfl <| .move rfl <| .sk <| .sk <| .sk <| .sk <| .sk <| .pickF rfl rfl <| .assign rfl <| .nil) ?_
    clear Hz Az; intro Az Hz
    refine znl (hK1 _ _ ?_); clear hK1
    refine wp_ret ?_
    try dsimp only [Exit.then, Exit.inBlock]
    refine (ret1 (fn := Tryd.f38) Hz rfl rfl ?_)
    exact ⟨by (first | rfl | (simp; unfold HeadOk at hno; omega)), m2.below⟩
   clear Hz; intro hb24 Hz; try simp only [QQ, Qax] at hb24
   refine goCh Hz (.sk <| .sk <| .sk <| .pickF rfl rfl <| .move rfl <| .sk <| .sk <| .sk <| .pickF rfl rfl <| .move rfl <| .sk <| .sk <| .sk <| .pickF rfl rfl <| .move rfl <| .sk <| .sk <| .sk <| .pickF rfl rfl <| .move rfl <| .sk <| .sk <| .sk <| .sk <| .sk <| .pickF rfl rfl <| .assign rfl <| .nil) ?_
   clear Hz Az; intro Az Hz
   refine znl (hK1 _ _ ?_); clear hK1
   refine wp_ret ?_
   try dsimp only [Exit.then, Exit.inBlock]
   refine (ret1 (fn := Tryd.f38) Hz rfl rfl ?_)
   exact ⟨by (first | rfl | (simp; unfold HeadOk at hno; omega)), m2.below⟩
  clear Hz; intro hb18 Hz; try simp only [QQ, Qax] at hb18
  refine goCh Hz (.sk <| .sk <| .sk <| .pickF rfl rfl <| .move rfl <| .sk <| .sk <| .sk <| .pickF rfl rfl <| .move rfl <| .sk <| .sk <| .sk <| .pickF rfl rfl <| .move rfl <| .sk <| .sk <| .sk <| .pickF rfl rfl <| .move rfl <| .sk <| .sk <| .sk <| .pickF rfl rfl <| .move rfl <| .sk <| .sk <| .sk <| .sk <| .sk <| .pickF rfl rfl <| .assign rfl <| .nil) ?_
  clear Hz Az; intro Az Hz
  refine znl (hK1 _ _ ?_); clear hK1
  refine wp_ret ?_
  try dsimp only [Exit.then, Exit.inBlock]
  refine (ret1 (fn := Tryd.f38) Hz rfl rfl ?_)
  exact ⟨by (first | rfl | (simp; unfold HeadOk at hno; omega)), m2.below⟩
 clear Hz; intro hb12 Hz; try simp only [QQ, Qax] at hb12
 refine goCh Hz (.sk <| .sk <| .sk <| .pickF rfl rfl <| .move rfl <| .sk <| .sk <| .sk <| .pickF rfl rfl <| .move rfl <| .sk <| .sk <| .sk <| .pickF rfl rfl <| .move rfl <| .sk <| .sk <| .sk <| .pickF rfl rfl <| .move rfl <| .sk <| .sk <| .sk <| .pickF rfl rfl <| .move rfl <| .sk <| .sk <| .sk <| .pickF rfl rfl <| .move rfl <| .sk <| .sk <| .sk <| .sk <| .sk <| .pickF rfl rfl <| .assign rfl <| .nil) ?_
 clear Hz Az; intro Az Hz
 refine znl (hK1 _ _ ?_); clear hK1
 refine wp_ret ?_
 try dsimp only [Exit.then, Exit.inBlock]
 refine (ret1 (fn := Tryd.f38) Hz rfl rfl ?_)
 exact ⟨by (first | rfl | (simp; unfold HeadOk at hno; omega)), m2.below⟩
theorem sright_hno (bl sz fr to : Int) (pi : Option Addr) (ni ci : Nat) (w0 : World) (hno : ¬ HeadOk bl sz fr to) :
   Calls Tryd.prog 15 #[.agg #[.int .i64 bl, .int .i64 sz, .int .i64 fr, .int .i64 to, .slice pi ni ci]] w0 fun e w' => e = .returned (.bool false) ∧ Below w0.heap.size w0 w' := by
 refine ent1 Tryd.func15 rfl Tryd.ntmps15 fun Az Hz => ?_
 have m0 := MemOk.start (fun _ => False) w0
 refine zsr fun K0 hK0 => ?_
 refine wpList_plain rfl (fun K hK => ?_)
 refine e_box Hz m0 20 (cs := [_, _, _, _, _]) rfl rfl rfl ?_
 clear Hz Az m0; intro g1 Az w2 Hz m2 hB2 hg2
 clear hB2 hg2
 refine hK _ _ ?_; clear hK
 refine goCh Hz (.assign rfl .nil) ?_
 clear Hz Az; intro Az Hz
 refine znl (hK0 _ _ ?_); clear hK0
 refine wp_seq_k (fun K1 hK1 => ?_)
 refine zsr fun K2 hK2 => ?_
 refine goCh Hz (.loadBR m2 (i := 20) rfl rfl U29 rfl fct27 (by simp) (by dsimp only [List.drop, List.take] <;> rfl) .nil) ?_
 clear Hz Az; intro Az Hz
 refine wpList_plain rfl (fun K hK => ?_)
 refine e_call Hz Tryd.func36 rfl rfl rfl rfl (headOf_any _ _ _ _ _ _ _ _) ?_
 rintro e w6 ⟨rfl, hb6⟩
 have m7 := m2.later hb6
 clear m2
 clear hb6
 refine ⟨_, rfl, ?_⟩; clear Hz Az; intro Az Hz
 refine hK _ _ ?_; clear hK
 refine wpList_plain rfl (fun K hK => ?_)
 refine e_call Hz Tryd.func38 rfl rfl rfl rfl (headR_no _ _ _ _ _ hno) ?_
 rintro e w9 ⟨rfl, hb9⟩
 have m10 := m7.later hb9
 clear m7
 clear hb9
 refine ⟨_, rfl, ?_⟩; clear Hz Az; intro Az Hz
 refine hK _ _ ?_; clear hK
 refine goCh Hz (.not rfl <| .move rfl <| .sk <| .sk <| .sk <| .sk <| .nil) ?_
 clear Hz Az; intro Az Hz
 refine st_skipU Hz rfl rfl rfl rfl ?_
 clear Hz Az; intro Az Hz
 refine st_skipU Hz rfl rfl rfl rfl ?_
 clear Hz Az; intro Az Hz
 refine st_skipU Hz rfl rfl rfl rfl ?_
 clear Hz Az; intro Az Hz
 refine st_skipU Hz rfl rfl rfl rfl ?_
 clear Hz Az; intro Az Hz
 refine st_skipU Hz rfl rfl rfl rfl ?_
 clear Hz Az; intro Az Hz
 refine st_skipU Hz rfl rfl rfl rfl ?_
 clear Hz Az; intro Az Hz
 refine goCh Hz (.sk <| .pickT rfl rfl <| .nil) ?_
 clear Hz Az; intro Az Hz
 refine znl (hK2 _ _ ?_); clear hK2
 refine wp_cond_true (Hz.ev (x := .tmp 22) rfl) ?_
 replace Hz : Has 52 [(1, _), (2, _)] Az := Hz.only [1, 2]
 refine regS Hz (.assign rfl <| .nil) ?_
 clear Hz Az; intro Az Hz
 refine wp_ret ?_
 try dsimp only [Exit.then, Exit.inBlock]
 refine (ret1 (fn := Tryd.f15) Hz rfl rfl ?_)
 exact ⟨rfl, m10.below⟩
theorem sright_any (bl sz fr to : Int) (its : List (Int × List Int)) (pi : Option Addr) (ni ci : Nat) (w0 : World) (h1 : Rd (fun _ => True) w0 (.slice pi ni ci) (.l 2 (its.map itD))) (hs : HeadOk bl sz fr to) (hil : its.length ≤ 256) :
   Calls Tryd.prog 15 #[.agg #[.int .i64 bl, .int .i64 sz, .int .i64 fr, .int .i64 to, .slice pi ni ci]] w0 fun e w' => ∃ b, e = .returned (.bool b) ∧ (b = true ↔ StreamOk bl sz fr to its) ∧ Below w0.heap.size w0 w' := by
 obtain rfl : ni = its.length := by obtain ⟨pq, c9, hv, _⟩ := h1.l_shape; injection hv with _ e2 _; rw [List.length_map] at e2; exact e2
 refine ent1 Tryd.func15 rfl Tryd.ntmps15 fun Az Hz => ?_
 have m0 := MemOk.start (fun _ => False) w0
 refine zsr fun K0 hK0 => ?_
 refine wpList_plain rfl (fun K hK => ?_)
 refine e_box Hz m0 20 (cs := [_, _, _, _, _]) rfl rfl rfl ?_
 clear Hz Az m0; intro g1 Az w2 Hz m2 hB2 hg2
 clear hB2 hg2
 refine hK _ _ ?_; clear hK
 refine goCh Hz (.assign rfl .nil) ?_
 clear Hz Az; intro Az Hz
 refine znl (hK0 _ _ ?_); clear hK0
 refine wp_seq_k (fun K1 hK1 => ?_)
 refine zsr fun K2 hK2 => ?_
 refine goCh Hz (.loadBR m2 (i := 20) rfl rfl U29 rfl fct27 (by simp) (by dsimp only [List.drop, List.take] <;> rfl) .nil) ?_
 clear Hz Az; intro Az Hz
 refine wpList_plain rfl (fun K hK => ?_)
 refine e_call Hz Tryd.func36 rfl rfl rfl rfl (headOf_any _ _ _ _ _ _ _ _) ?_
 rintro e w6 ⟨rfl, hb6⟩
 have m7 := m2.later hb6
 clear m2
 clear hb6
 refine ⟨_, rfl, ?_⟩; clear Hz Az; intro Az Hz
 refine hK _ _ ?_; clear hK
 refine wpList_plain rfl (fun K hK => ?_)
 refine e_call Hz Tryd.func38 rfl rfl rfl rfl (headR_yes _ _ _ _ _ hs.1 hs.2.1 hs.2.2.1 hs.2.2.2.1 hs.2.2.2.2) ?_
 rintro e w9 ⟨rfl, hb9⟩
 have m10 := m7.later hb9
 clear m7
 clear hb9
 refine ⟨_, rfl, ?_⟩; clear Hz Az; intro Az Hz
 refine hK _ _ ?_; clear hK
 refine goCh Hz (.not rfl <| .move rfl <| .faZ 2 rfl U29 <| .loadB1Z m10 (i := 20) rfl rfl rfl U2 rfl <| .eqlZ rfl rfl <| .moveZ rfl <| .nil) ?_
 clear Hz Az; intro Az Hz
 refine bool_cases Hz (t := 14) rfl ?_ ?_
 ·
  clear Hz; intro hb18 Hz; try simp only [QQ, Qax] at hb18
  refine goCh Hz (.faZ 4 rfl U29 <| .loadB1Z m10 (i := 20) rfl rfl rfl U27 rfl <| .lenZ rfl U27 <| .faZ 0 rfl U29 <| .loadB1Z m10 (i := 20) rfl rfl rfl U3 rfl <| .neqZ rfl rfl <| .pickTZ rfl rfl <| .pickF rfl rfl <| .nil) ?_
  clear Hz Az; intro Az Hz
  refine znl (hK2 _ _ ?_); clear hK2
  refine bool_cases Hz (t := 22) rfl ?_ ?_
  ·
   clear Hz; intro hb27 Hz; try simp only [QQ, Qax] at hb27
   refine wp_cond_true (Hz.ev (x := .tmp 22) rfl) ?_
   replace Hz : Has 52 [(1, _), (2, _), (14, _), (22, _)] Az := Hz.only [1, 2, 14, 22]
   refine regS Hz (.assign rfl <| .nil) ?_
   clear Hz Az; intro Az Hz
   refine wp_ret ?_
   try dsimp only [Exit.then, Exit.inBlock]
   refine (ret1 (fn := Tryd.f15) Hz rfl rfl ?_)
   exact ⟨false, rfl, iff_of_false (by simp) (fun hh => by have h9 := hh.l; omega), m10.below⟩
  clear Hz; intro hb27 Hz; try simp only [QQ, Qax] at hb27
  refine wp_cond_false (Hz.ev (x := .tmp 22) rfl) ?_
  refine zss (hK1 _ _ ?_); clear hK1
  replace Hz : Has 52 [(1, _), (2, _), (14, _), (22, _)] Az := Hz.only [1, 2, 14, 22]
  refine regS Hz (.assign rfl <| .nil) ?_
  clear Hz Az; intro Az Hz
  refine wp_seq_k (fun K3 hK3 => ?_)
  refine regS Hz (.fa 4 rfl U29 <| .lb m10 20 U27 rfl rfl rfl <| .len rfl U27 <| .move rfl <| .nil) ?_
  clear Hz Az; intro Az Hz
  refine wp_block ?_
  refine wp_loop_ghost (fun g a w => ∃ (k B : Nat), k ≤ its.length ∧ g = its.length - k ∧ (∀ j e, j < k → its[j]? = some e → lastB its j < e.1 ∧ e.1 < bl ∧ (e.2.length : Int) = sz) ∧ Has 52 [(1, .pointer (some ⟨B, 0, none⟩)), (3, .int .i64 (lastB its k)), (24, .slice pi its.length ci), (25, .int .i64 its.length), (26, .int .i64 k)] a ∧ MemOk (cn w0) w0 [(9, .box B 29 [.int .i64 bl, .int .i64 sz, .int .i64 fr, .int .i64 to, .slice pi its.length ci])] w) (its.length) ?_ ?_
  · exact ⟨0, _, Nat.zero_le _, rfl, (fun j e hj => by omega), Hz.only [1, 3, 24, 25, 26], m10.ren [(9, 20)] (by decide)⟩
  clear Hz m10
  rintro g Az w36 ⟨k, B, hkl, hg, hall, Hz, m36⟩
  refine regS Hz (.lss rfl rfl <| .nil) ?_
  clear Hz Az; intro Az Hz
  refine wp_seq_k (fun K4 hK4 => ?_)
  refine bool_cases Hz (t := 27) rfl ?_ ?_
  ·
   clear Hz; intro hb38 Hz; try simp only [QQ, Qax] at hb38
   have hk : k < its.length := by have := hb38; first | omega | (simp at this; omega)
   obtain ⟨⟨xb, xd⟩, hes⟩ : ∃ e, its[k]? = some e := ⟨_, List.getElem?_eq_getElem hk⟩
   refine wp_cond_true (Hz.ev (x := .tmp 27) rfl) ?_
   refine zss (hK4 _ _ ?_); clear hK4
   refine wp_seq_k (fun K5 hK5 => ?_)
   refine wp_block ?_
   refine zsr fun K6 hK6 => ?_
   obtain ⟨gx40, ox40, vx40, hp40, hl40, hR40, hrg40⟩ := h1.extA (k) (r := [.v (.int .i64 xb), .ns .u8 xd]) (itD_get hes)
   cases hp40; clear hl40
   rcases hR40 with _ | ⟨hd40_0, _ | ⟨hd40_1, _ | _⟩⟩
   obtain rfl := hd40_0.v_out
   clear hd40_0
   obtain ⟨p41, c41, hv41, hw41⟩ := hd40_1.ns_shape; subst hv41
   refine goCh Hz (.c rfl (fun _ h => y_idx h rfl rfl U27 fct12 (k) rfl hk) <| .loadAt (hrg40 m36 rfl) rfl U46 rfl fct12 <| .nil) ?_
   clear Hz Az; intro Az Hz
   refine wpList_plain rfl (fun K hK => ?_)
   refine e_alloc Hz m36 101 fct15 rfl ?_
   clear Hz Az m36; intro g44 Az w45 Hz m45 hB45 hg45
   clear hB45 hg45
   refine hK _ _ ?_; clear hK
   refine wpList_plain rfl (fun K hK => ?_)
   refine e_storeW Hz m45 101 rfl rfl rfl rfl rfl fct12 ?_
   clear m45; intro w46 m46 hB46
   clear hB46
   refine hK _ _ ?_; clear hK
   refine znl (hK6 _ _ ?_); clear hK6
   refine wp_seq_k (fun K7 hK7 => ?_)
   refine zsr fun K8 hK8 => ?_
   refine goCh Hz (.fa 0 rfl U46 <| .lb m46 101 U3 rfl rfl rfl <| .move rfl <| .leq rfl rfl <| .move rfl <| .nil) ?_
   clear Hz Az; intro Az Hz
   refine bool_cases Hz (t := 34) rfl ?_ ?_
   ·
    clear Hz; intro hb57 Hz; try simp only [QQ, Qax] at hb57
    refine goCh Hz (.sk <| .sk <| .sk <| .sk <| .sk <| .pickT rfl rfl <| .move rfl <| .sk <| .sk <| .sk <| .sk <| .sk <| .sk <| .pickT rfl rfl <| .nil) ?_
    clear Hz Az; intro Az Hz
    refine znl (hK8 _ _ ?_); clear hK8
    refine wp_cond_true (Hz.ev (x := .tmp 48) rfl) ?_
    replace Hz : Has 52 [(1, _), (3, _), (24, _), (25, _), (26, _), (5, _), (34, _), (41, _), (48, _)] Az := Hz.only [1, 3, 24, 25, 26, 5, 34, 41, 48]
    refine regS Hz (.assign rfl <| .nil) ?_
    clear Hz Az; intro Az Hz
    refine wp_ret ?_
    try dsimp only [Exit.then, Exit.inBlock]
    refine (ret1 (fn := Tryd.f15) Hz rfl rfl ?_)
    exact ⟨false, rfl, iff_of_false (by simp) (fun hh => by have h9 := hh.i k _ hes; dsimp only at h9; omega), m46.below⟩
   clear Hz; intro hb57 Hz; try simp only [QQ, Qax] at hb57
   refine goCh Hz (.faZ 0 rfl U46 <| .loadB1Z m46 (i := 101) rfl rfl rfl U3 rfl <| .faZ 0 rfl U29 <| .loadB1Z m46 (i := 9) rfl rfl rfl U3 rfl <| .geqZ rfl rfl <| .pickF rfl rfl <| .move rfl <| .nil) ?_
   clear Hz Az; intro Az Hz
   refine bool_cases Hz (t := 41) rfl ?_ ?_
   ·
    clear Hz; intro hb81 Hz; try simp only [QQ, Qax] at hb81
    refine goCh Hz (.sk <| .sk <| .sk <| .sk <| .sk <| .sk <| .pickT rfl rfl <| .nil) ?_
    clear Hz Az; intro Az Hz
    refine znl (hK8 _ _ ?_); clear hK8
    refine wp_cond_true (Hz.ev (x := .tmp 48) rfl) ?_
    replace Hz : Has 52 [(1, _), (3, _), (24, _), (25, _), (26, _), (5, _), (34, _), (41, _), (48, _)] Az := Hz.only [1, 3, 24, 25, 26, 5, 34, 41, 48]
    refine regS Hz (.assign rfl <| .nil) ?_
    clear Hz Az; intro Az Hz
    refine wp_ret ?_
    try dsimp only [Exit.then, Exit.inBlock]
    refine (ret1 (fn := Tryd.f15) Hz rfl rfl ?_)
    exact ⟨false, rfl, iff_of_false (by simp) (fun hh => by have h9 := hh.i k _ hes; dsimp only at h9; omega), m46.below⟩
   clear Hz; intro hb81 Hz; try simp only [QQ, Qax] at hb81
   refine goCh Hz (.faZ 1 rfl U46 <| .loadB1Z m46 (i := 101) rfl rfl rfl U22 rfl <| .lenZ rfl U22 <| .faZ 1 rfl U29 <| .loadB1Z m46 (i := 9) rfl rfl rfl U3 rfl <| .neqZ rfl rfl <| .pickF rfl rfl <| .nil) ?_
   clear Hz Az; intro Az Hz
   refine znl (hK8 _ _ ?_); clear hK8
   refine bool_cases Hz (t := 48) rfl ?_ ?_
   ·
    clear Hz; intro hb98 Hz; try simp only [QQ, Qax] at hb98
    refine wp_cond_true (Hz.ev (x := .tmp 48) rfl) ?_
    replace Hz : Has 52 [(1, _), (3, _), (24, _), (25, _), (26, _), (5, _), (34, _), (41, _), (48, _)] Az := Hz.only [1, 3, 24, 25, 26, 5, 34, 41, 48]
    refine regS Hz (.assign rfl <| .nil) ?_
    clear Hz Az; intro Az Hz
    refine wp_ret ?_
    try dsimp only [Exit.then, Exit.inBlock]
    refine (ret1 (fn := Tryd.f15) Hz rfl rfl ?_)
    exact ⟨false, rfl, iff_of_false (by simp) (fun hh => by have h9 := hh.i k _ hes; dsimp only at h9; omega), m46.below⟩
   clear Hz; intro hb98 Hz; try simp only [QQ, Qax] at hb98
   refine wp_cond_false (Hz.ev (x := .tmp 48) rfl) ?_
   refine zss (hK7 _ _ ?_); clear hK7
   replace Hz : Has 52 [(1, _), (3, _), (24, _), (25, _), (26, _), (5, _), (34, _), (41, _), (48, _)] Az := Hz.only [1, 3, 24, 25, 26, 5, 34, 41, 48]
   refine wp_region_lit ?_
   refine goCh Hz (.fa 0 rfl U46 <| .lb m46 101 U3 rfl rfl rfl <| .assign rfl <| .nil) ?_
   clear Hz Az; intro Az Hz
   refine znl (hK5 _ _ ?_); clear hK5
   refine wp_region_lit ?_
   refine goCh Hz (.add rfl rfl (r := ((k + 1 : Nat) : Int)) (by rw [IntWalk.i64_in _ (by omega)]; omega) <| .move rfl <| .nil) ?_
   clear Hz Az; intro Az Hz
   refine wpList_nil ?_
   show ∃ n', n' < _ ∧ _
   have hall2 : ∀ j e, j < k + 1 → its[j]? = some e → lastB its j < e.1 ∧ e.1 < bl ∧ (e.2.length : Int) = sz := (fun j e hj he => by
     rcases Nat.lt_succ_iff_lt_or_eq.1 hj with h9 | h9
     · exact hall j e h9 he
     subst h9; rw [hes] at he; obtain rfl := Option.some.inj he; exact ⟨by dsimp only; omega, by dsimp only; omega, by dsimp only; omega⟩)
   have hlb : xb = lastB its (k + 1) := (lastB_next hes).symm
   rw [hlb] at Hz
   exact ⟨its.length - (k + 1), by omega, k + 1, _, by omega, rfl, hall2, Hz.only [1, 3, 24, 25, 26], m46.ren [(9, 9)] (by decide)⟩
  clear Hz; intro hb38 Hz; try simp only [QQ, Qax] at hb38
  have hke : k = its.length := by have := hb38; first | omega | (simp at this; omega)
  refine wp_cond_false (Hz.ev (x := .tmp 27) rfl) ?_
  refine wp_exit ?_
  refine hK3 _ _ ?_; clear hK3
  refine regS Hz (.assign rfl <| .nil) ?_
  clear Hz Az; intro Az Hz
  refine wp_ret ?_
  try dsimp only [Exit.then, Exit.inBlock]
  refine (ret1 (fn := Tryd.f15) Hz rfl rfl ?_)
  exact ⟨true, rfl, iff_of_true rfl ⟨hs.1, hs.2.1, hs.2.2.1, hs.2.2.2.1, hs.2.2.2.2, (fun _ => by first | omega | (simp at *; omega)), (fun j e he => hall j e (by rw [hke]; exact (List.getElem?_eq_some_iff.1 he).1) he), hil⟩, m36.below⟩
 clear Hz; intro hb18 Hz; try simp only [QQ, Qax] at hb18
 refine goCh Hz (.sk <| .sk <| .sk <| .sk <| .sk <| .sk <| .pickFZ rfl rfl <| .pickF rfl rfl <| .nil) ?_
 clear Hz Az; intro Az Hz
 refine znl (hK2 _ _ ?_); clear hK2
 refine wp_cond_false (Hz.ev (x := .tmp 22) rfl) ?_
 refine zss (hK1 _ _ ?_); clear hK1
 replace Hz : Has 52 [(1, _), (2, _), (14, _), (22, _)] Az := Hz.only [1, 2, 14, 22]
 refine regS Hz (.assign rfl <| .nil) ?_
 clear Hz Az; intro Az Hz
 refine wp_seq_k (fun K9 hK9 => ?_)
 refine regS Hz (.fa 4 rfl U29 <| .lb m10 20 U27 rfl rfl rfl <| .len rfl U27 <| .move rfl <| .nil) ?_
 clear Hz Az; intro Az Hz
 refine wp_block ?_
 refine wp_loop_ghost (fun g a w => ∃ (k B : Nat), k ≤ its.length ∧ g = its.length - k ∧ (∀ j e, j < k → its[j]? = some e → lastB its j < e.1 ∧ e.1 < bl ∧ (e.2.length : Int) = sz) ∧ Has 52 [(1, .pointer (some ⟨B, 0, none⟩)), (3, .int .i64 (lastB its k)), (24, .slice pi its.length ci), (25, .int .i64 its.length), (26, .int .i64 k)] a ∧ MemOk (cn w0) w0 [(9, .box B 29 [.int .i64 bl, .int .i64 sz, .int .i64 fr, .int .i64 to, .slice pi its.length ci])] w) (its.length) ?_ ?_
 · exact ⟨0, _, Nat.zero_le _, rfl, (fun j e hj => by omega), Hz.only [1, 3, 24, 25, 26], m10.ren [(9, 20)] (by decide)⟩
 clear Hz m10
 rintro g Az w122 ⟨k, B, hkl, hg, hall, Hz, m122⟩
 refine regS Hz (.lss rfl rfl <| .nil) ?_
 clear Hz Az; intro Az Hz
 refine wp_seq_k (fun K10 hK10 => ?_)
 refine bool_cases Hz (t := 27) rfl ?_ ?_
 ·
  clear Hz; intro hb124 Hz; try simp only [QQ, Qax] at hb124
  have hk : k < its.length := by have := hb124; first | omega | (simp at this; omega)
  obtain ⟨⟨xb, xd⟩, hes⟩ : ∃ e, its[k]? = some e := ⟨_, List.getElem?_eq_getElem hk⟩
  refine wp_cond_true (Hz.ev (x := .tmp 27) rfl) ?_
  refine zss (hK10 _ _ ?_); clear hK10
  refine wp_seq_k (fun K11 hK11 => ?_)
  refine wp_block ?_
  refine zsr fun K12 hK12 => ?_
  obtain ⟨gx126, ox126, vx126, hp126, hl126, hR126, hrg126⟩ := h1.extA (k) (r := [.v (.int .i64 xb), .ns .u8 xd]) (itD_get hes)
  cases hp126; clear hl126
  rcases hR126 with _ | ⟨hd126_0, _ | ⟨hd126_1, _ | _⟩⟩
  obtain rfl := hd126_0.v_out
  clear hd126_0
  obtain ⟨p127, c127, hv127, hw127⟩ := hd126_1.ns_shape; subst hv127
  refine goCh Hz (.c rfl (fun _ h => y_idx h rfl rfl U27 fct12 (k) rfl hk) <| .loadAt (hrg126 m122 rfl) rfl U46 rfl fct12 <| .nil) ?_
  clear Hz Az; intro Az Hz
  refine wpList_plain rfl (fun K hK => ?_)
  refine e_alloc Hz m122 101 fct15 rfl ?_
  clear Hz Az m122; intro g130 Az w131 Hz m131 hB131 hg131
  clear hB131 hg131
  refine hK _ _ ?_; clear hK
  refine wpList_plain rfl (fun K hK => ?_)
  refine e_storeW Hz m131 101 rfl rfl rfl rfl rfl fct12 ?_
  clear m131; intro w132 m132 hB132
  clear hB132
  refine hK _ _ ?_; clear hK
  refine znl (hK12 _ _ ?_); clear hK12
  refine wp_seq_k (fun K13 hK13 => ?_)
  refine zsr fun K14 hK14 => ?_
  refine goCh Hz (.fa 0 rfl U46 <| .lb m132 101 U3 rfl rfl rfl <| .move rfl <| .leq rfl rfl <| .move rfl <| .nil) ?_
  clear Hz Az; intro Az Hz
  refine bool_cases Hz (t := 34) rfl ?_ ?_
  ·
   clear Hz; intro hb143 Hz; try simp only [QQ, Qax] at hb143
   refine goCh Hz (.sk <| .sk <| .sk <| .sk <| .sk <| .pickT rfl rfl <| .move rfl <| .sk <| .sk <| .sk <| .sk <| .sk <| .sk <| .pickT rfl rfl <| .nil) ?_
   clear Hz Az; intro Az Hz
   refine znl (hK14 _ _ ?_); clear hK14
   refine wp_cond_true (Hz.ev (x := .tmp 48) rfl) ?_
   replace Hz : Has 52 [(1, _), (3, _), (24, _), (25, _), (26, _), (5, _), (34, _), (41, _), (48, _)] Az := Hz.only [1, 3, 24, 25, 26, 5, 34, 41, 48]
   refine regS Hz (.assign rfl <| .nil) ?_
   clear Hz Az; intro Az Hz
   refine wp_ret ?_
   try dsimp only [Exit.then, Exit.inBlock]
   refine (ret1 (fn := Tryd.f15) Hz rfl rfl ?_)
   exact ⟨false, rfl, iff_of_false (by simp) (fun hh => by have h9 := hh.i k _ hes; dsimp only at h9; omega), m132.below⟩
  clear Hz; intro hb143 Hz; try simp only [QQ, Qax] at hb143
  refine goCh Hz (.faZ 0 rfl U46 <| .loadB1Z m132 (i := 101) rfl rfl rfl U3 rfl <| .faZ 0 rfl U29 <| .loadB1Z m132 (i := 9) rfl rfl rfl U3 rfl <| .geqZ rfl rfl <| .pickF rfl rfl <| .move rfl <| .nil) ?_
  clear Hz Az; intro Az Hz
  refine bool_cases Hz (t := 41) rfl ?_ ?_
  ·
   clear Hz; intro hb167 Hz; try simp only [QQ, Qax] at hb167
   refine goCh Hz (.sk <| .sk <| .sk <| .sk <| .sk <| .sk <| .pickT rfl rfl <| .nil) ?_
   clear Hz Az; intro Az Hz
   refine znl (hK14 _ _ ?_); clear hK14
   refine wp_cond_true (Hz.ev (x := .tmp 48) rfl) ?_
   replace Hz : Has 52 [(1, _), (3, _), (24, _), (25, _), (26, _), (5, _), (34, _), (41, _), (48, _)] Az := Hz.only [1, 3, 24, 25, 26, 5, 34, 41, 48]
   refine regS Hz (.assign rfl <| .nil) ?_
   clear Hz Az; intro Az Hz
   refine wp_ret ?_
   try dsimp only [Exit.then, Exit.inBlock]
   refine (ret1 (fn := Tryd.f15) Hz rfl rfl ?_)
   exact ⟨false, rfl, iff_of_false (by simp) (fun hh => by have h9 := hh.i k _ hes; dsimp only at h9; omega), m132.below⟩
  clear Hz; intro hb167 Hz; try simp only [QQ, Qax] at hb167
  refine goCh Hz (.faZ 1 rfl U46 <| .loadB1Z m132 (i := 101) rfl rfl rfl U22 rfl <| .lenZ rfl U22 <| .faZ 1 rfl U29 <| .loadB1Z m132 (i := 9) rfl rfl rfl U3 rfl <| .neqZ rfl rfl <| .pickF rfl rfl <| .nil) ?_
  clear Hz Az; intro Az Hz
  refine znl (hK14 _ _ ?_); clear hK14
  refine bool_cases Hz (t := 48) rfl ?_ ?_
  ·
   clear Hz; intro hb184 Hz; try simp only [QQ, Qax] at hb184
   refine wp_cond_true (Hz.ev (x := .tmp 48) rfl) ?_
   replace Hz : Has 52 [(1, _), (3, _), (24, _), (25, _), (26, _), (5, _), (34, _), (41, _), (48, _)] Az := Hz.only [1, 3, 24, 25, 26, 5, 34, 41, 48]
   refine regS Hz (.assign rfl <| .nil) ?_
   clear Hz Az; intro Az Hz
   refine wp_ret ?_
   try dsimp only [Exit.then, Exit.inBlock]
   refine (ret1 (fn := Tryd.f15) Hz rfl rfl ?_)
   exact ⟨false, rfl, iff_of_false (by simp) (fun hh => by have h9 := hh.i k _ hes; dsimp only at h9; omega), m132.below⟩
  clear Hz; intro hb184 Hz; try simp only [QQ, Qax] at hb184
  refine wp_cond_false (Hz.ev (x := .tmp 48) rfl) ?_
  refine zss (hK13 _ _ ?_); clear hK13
  replace Hz : Has 52 [(1, _), (3, _), (24, _), (25, _), (26, _), (5, _), (34, _), (41, _), (48, _)] Az := Hz.only [1, 3, 24, 25, 26, 5, 34, 41, 48]
  refine wp_region_lit ?_
  refine goCh Hz (.fa 0 rfl U46 <| .lb m132 101 U3 rfl rfl rfl <| .assign rfl <| .nil) ?_
  clear Hz Az; intro Az Hz
  refine znl (hK11 _ _ ?_); clear hK11
  refine wp_region_lit ?_
  refine goCh Hz (.add rfl rfl (r := ((k + 1 : Nat) : Int)) (by rw [IntWalk.i64_in _ (by omega)]; omega) <| .move rfl <| .nil) ?_
  clear Hz Az; intro Az Hz
  refine wpList_nil ?_
  show ∃ n', n' < _ ∧ _
  have hall2 : ∀ j e, j < k + 1 → its[j]? = some e → lastB its j < e.1 ∧ e.1 < bl ∧ (e.2.length : Int) = sz := (fun j e hj he => by
    rcases Nat.lt_succ_iff_lt_or_eq.1 hj with h9 | h9
    · exact hall j e h9 he
    subst h9; rw [hes] at he; obtain rfl := Option.some.inj he; exact ⟨by dsimp only; omega, by dsimp only; omega, by dsimp only; omega⟩)
  have hlb : xb = lastB its (k + 1) := (lastB_next hes).symm
  rw [hlb] at Hz
  exact ⟨its.length - (k + 1), by omega, k + 1, _, by omega, rfl, hall2, Hz.only [1, 3, 24, 25, 26], m132.ren [(9, 9)] (by decide)⟩
 clear Hz; intro hb124 Hz; try simp only [QQ, Qax] at hb124
 have hke : k = its.length := by have := hb124; first | omega | (simp at this; omega)
 refine wp_cond_false (Hz.ev (x := .tmp 27) rfl) ?_
 refine wp_exit ?_
 refine hK9 _ _ ?_; clear hK9
 refine regS Hz (.assign rfl <| .nil) ?_
 clear Hz Az; intro Az Hz
 refine wp_ret ?_
 try dsimp only [Exit.then, Exit.inBlock]
 refine (ret1 (fn := Tryd.f15) Hz rfl rfl ?_)
 exact ⟨true, rfl, iff_of_true rfl ⟨hs.1, hs.2.1, hs.2.2.1, hs.2.2.2.1, hs.2.2.2.2, (fun _ => by first | omega | (simp at *; omega)), (fun j e he => hall j e (by rw [hke]; exact (List.getElem?_eq_some_iff.1 he).1) he), hil⟩, m122.below⟩
end Go.Proofs.YtodiklpfdfjikaaDoor.K
