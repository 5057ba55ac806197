/- intake: which streams may be, by the program and by the reference. -/
import Derived.Test.YtkdnhndjjfjppaaInt2
namespace Go.Proofs.Ytkdnhndjjfjppaa.K
open Go.ChangeShapes Go.WideShapes Go.ChangeAt Go.RowKit
set_option linter.unusedVariables false
set_option linter.unusedSimpArgs false
def HeadOk (bl sz fr to : Int) : Prop := (1 ≤ bl ∧ bl ≤ 256) ∧ (1 ≤ sz ∧ sz ≤ 32) ∧ -1 ≤ fr ∧ (0 ≤ to ∧ to ≤ 1099511627776) ∧ fr ≤ to
theorem StreamOk.head {bl sz fr to : Int} {its : List (Int × List Int)} (h : StreamOk bl sz fr to its) : HeadOk bl sz fr to := ⟨h.b, h.z, h.f, h.t, h.ft⟩
theorem StreamOk.mkH {bl sz fr to : Int} {its : List (Int × List Int)} (h : HeadOk bl sz fr to) (hl : fr = -1 → (its.length : Int) = bl) (hlen : its.length ≤ 256) (hi : ∀ k e, its[k]? = some e → lastB its k < e.1 ∧ e.1 < bl ∧ (e.2.length : Int) = sz) : StreamOk bl sz fr to its := ⟨h.1, h.2.1, h.2.2.1, h.2.2.2.1, h.2.2.2.2, hl, hi, hlen⟩
set_option maxRecDepth 100000
set_option maxHeartbeats 4000000
theorem headR_any (bl sz fr to : Int) (w0 : World) :
   Calls Try.prog 48 #[.agg #[.int .i64 bl, .int .i64 sz, .int .i64 fr, .int .i64 to]] w0 fun e w' => ∃ b : Bool, e = .returned (.bool b) ∧ (b = true ↔ HeadOk bl sz fr to) ∧ Below w0.heap.size w0 w' := by
 refine ent1 Try.func48 rfl Try.ntmps48 fun Az Hz => ?_
 have m0 := MemOk.start (fun _ => False) w0
 refine zsr fun K0 hK0 => ?_
 refine wpList_plain rfl (fun K hK => ?_)
 refine e_box Hz m0 20 (cs := [_, _, _, _]) rfl rfl rfl ?_
 clear Hz Az m0; intro g1 Az w2 Hz m2 hB2 hg2
 clear hB2 hg2
 refine hK _ _ ?_; clear hK
 refine goCh Hz (.assign rfl .nil) ?_
 clear Hz Az; intro Az Hz
 refine znl (hK0 _ _ ?_); clear hK0
 refine zsr fun K1 hK1 => ?_
 refine goCh Hz (.fa 0 rfl U99 <| .lb m2 20 U3 rfl rfl rfl <| .geq rfl rfl <| .move rfl <| .nil) ?_
 clear Hz Az; intro Az Hz
 refine bool_cases Hz (t := 6) rfl ?_ ?_
 ·
  clear Hz; intro hb12 Hz; try simp only [QQ, Qax] at hb12
  refine goCh Hz (.faZ 0 rfl U99 <| .loadB1Z m2 (i := 20) rfl rfl rfl U3 rfl <| .leqZ rfl rfl <| .pickT rfl rfl <| .move rfl <| .nil) ?_
  clear Hz Az; intro Az Hz
  refine bool_cases Hz (t := 11) rfl ?_ ?_
  ·
   clear Hz; intro hb18 Hz; try simp only [QQ, Qax] at hb18
   refine goCh Hz (.faZ 1 rfl U99 <| .loadB1Z m2 (i := 20) rfl rfl rfl U3 rfl <| .geqZ rfl rfl <| .pickT rfl rfl <| .move rfl <| .nil) ?_
   clear Hz Az; intro Az Hz
   refine bool_cases Hz (t := 16) rfl ?_ ?_
   ·
    clear Hz; intro hb24 Hz; try simp only [QQ, Qax] at hb24
    refine goCh Hz (.faZ 1 rfl U99 <| .loadB1Z m2 (i := 20) rfl rfl rfl U3 rfl <| .leqZ rfl rfl <| .pickT rfl rfl <| .move rfl <| .nil) ?_
    clear Hz Az; intro Az Hz
    refine bool_cases Hz (t := 21) rfl ?_ ?_
    ·
     clear Hz; intro hb30 Hz; try simp only [QQ, Qax] at hb30
     refine goCh Hz (.faZ 2 rfl U99 <| .loadB1Z m2 (i := 20) rfl rfl rfl U2 rfl <| .geqZ rfl rfl <| .pickT rfl rfl <| .move rfl <| .nil) ?_
     clear Hz Az; intro Az Hz
     refine bool_cases Hz (t := 26) rfl ?_ ?_
     ·
      clear Hz; intro hb36 Hz; try simp only [QQ, Qax] at hb36
      refine goCh Hz (.faZ 3 rfl U99 <| .loadB1Z m2 (i := 20) rfl rfl rfl U2 rfl <| .geqZ rfl rfl <| .pickT rfl rfl <| .move rfl <| .nil) ?_
      clear Hz Az; intro Az Hz
      refine bool_cases Hz (t := 31) rfl ?_ ?_
      ·
       clear Hz; intro hb42 Hz; try simp only [QQ, Qax] at hb42
       refine goCh Hz (.faZ 3 rfl U99 <| .loadB1Z m2 (i := 20) rfl rfl rfl U2 rfl <| .leqZ rfl rfl <| .pickT rfl rfl <| .move rfl <| .nil) ?_
       clear Hz Az; intro Az Hz
       refine bool_cases Hz (t := 36) rfl ?_ ?_
       ·
        clear Hz; intro hb48 Hz; try simp only [QQ, Qax] at hb48
        refine goCh Hz (.faZ 2 rfl U99 <| .loadB1Z m2 (i := 20) rfl rfl rfl U2 rfl <| .faZ 3 rfl U99 <| .loadB1Z m2 (i := 20) rfl rfl rfl U2 rfl <| .leqZ rfl rfl <| .pickT rfl rfl <| .assign rfl <| .nil) ?_
        clear Hz Az; intro Az Hz
        refine znl (hK1 _ _ ?_); clear hK1
        refine wp_ret ?_
        try dsimp only [Exit.then, Exit.inBlock]
        refine (ret1 (fn := Try.f48) Hz rfl rfl ?_)
        first | exact ⟨_, rfl, ⟨fun h => Bool.noConfusion h, fun h => by unfold HeadOk at h; omega⟩, m2.below⟩ | exact ⟨_, rfl, ⟨fun h => by simp at h; unfold HeadOk; omega, fun h => by unfold HeadOk at h; simp; omega⟩, m2.below⟩
       clear Hz; intro hb48 Hz; try simp only [QQ, Qax] at hb48
       refine goCh Hz (.sk <| .sk <| .sk <| .sk <| .sk <| .pickF rfl rfl <| .assign rfl <| .nil) ?_
       clear Hz Az; intro Az Hz
       refine znl (hK1 _ _ ?_); clear hK1
       refine wp_ret ?_
       try dsimp only [Exit.then, Exit.inBlock]
       refine (ret1 (fn := Try.f48) Hz rfl rfl ?_)
       first | exact ⟨_, rfl, ⟨fun h => Bool.noConfusion h, fun h => by unfold HeadOk at h; omega⟩, m2.below⟩ | exact ⟨_, rfl, ⟨fun h => by simp at h; unfold HeadOk; omega, fun h => by unfold HeadOk at h; simp; omega⟩, m2.below⟩
      clear Hz; intro hb42 Hz; try simp only [QQ, Qax] at hb42
      refine goCh Hz (.sk <| .sk <| .sk <| .pickF rfl rfl <| .move rfl <| .sk <| .sk <| .sk <| .sk <| .sk <| .pickF rfl rfl <| .assign rfl <| .nil) ?_
      clear Hz Az; intro Az Hz
      refine znl (hK1 _ _ ?_); clear hK1
      refine wp_ret ?_
      try dsimp only [Exit.then, Exit.inBlock]
      refine (ret1 (fn := Try.f48) Hz rfl rfl ?_)
      first | exact ⟨_, rfl, ⟨fun h => Bool.noConfusion h, fun h => by unfold HeadOk at h; omega⟩, m2.below⟩ | exact ⟨_, rfl, ⟨fun h => by simp at h; unfold HeadOk; omega, fun h => by unfold HeadOk at h; simp; omega⟩, m2.below⟩
     clear Hz; intro hb36 Hz; try simp only [QQ, Qax] at hb36
     refine goCh Hz (.sk <| .sk <| .sk <| .pickF rfl rfl <| .move rfl <| .sk <| .sk <| .sk <| .pickF rfl rfl <| .move rfl <| .sk <| .sk <| .sk <| .sk <| .sk <| .pickF rfl rfl <| .assign rfl <| .nil) ?_
     clear Hz Az; intro Az Hz
     refine znl (hK1 _ _ ?_); clear hK1
     refine wp_ret ?_
     try dsimp only [Exit.then, Exit.inBlock]
     refine (ret1 (fn := Try.f48) Hz rfl rfl ?_)
     first | exact ⟨_, rfl, ⟨fun h => Bool.noConfusion h, fun h => by unfold HeadOk at h; omega⟩, m2.below⟩ | exact ⟨_, rfl, ⟨fun h => by simp at h; unfold HeadOk; omega, fun h => by unfold HeadOk at h; simp; omega⟩, m2.below⟩
    clear Hz; intro hb30 Hz; try simp only [QQ, Qax] at hb30
    refine goCh Hz (.sk <| .sk <| .sk <| .pickF rfl rfl <| .move rfl <| .sk <| .sk <| .sk <| .pickF rfl rfl <| .move rfl <| .sk <| .sk <| .sk <| .pickF rfl rfl <| .move rfl <| .sk <| .sk <| .sk <| .sk <| .sk <| .pickF rfl rfl <| .assign rfl <| .nil) ?_
    clear Hz Az; intro Az Hz
    refine znl (hK1 _ _ ?_); clear hK1
    refine wp_ret ?_
    try dsimp only [Exit.then, Exit.inBlock]
    refine (ret1 (fn := Try.f48) Hz rfl rfl ?_)
    first | exact ⟨_, rfl, ⟨fun h => Bool.noConfusion h, fun h => by unfold HeadOk at h; omega⟩, m2.below⟩ | exact ⟨_, rfl, ⟨fun h => by simp at h; unfold HeadOk; omega, fun h => by unfold HeadOk at h; simp; omega⟩, m2.below⟩
   clear Hz; intro hb24 Hz; try simp only [QQ, Qax] at hb24
   refine goCh Hz (.sk <| .sk <| .sk <| .pickF rfl rfl <| .move rfl <| .sk <| .sk <| .sk <| .pickF rfl rfl <| .move rfl <| .sk <| .sk <| .sk <| .pickF rfl rfl <| .move rfl <| .sk <| .sk <| .sk <| .pickF rfl rfl <| .move rfl <| .sk <| .sk <| .sk <| .sk <| .sk <| .pickF rfl rfl <| .assign rfl <| .nil) ?_
   clear Hz Az; intro Az Hz
   refine znl (hK1 _ _ ?_); clear hK1
   refine wp_ret ?_
   try dsimp only [Exit.then, Exit.inBlock]
   refine (ret1 (fn := Try.f48) Hz rfl rfl ?_)
   first | exact ⟨_, rfl, ⟨fun h => Bool.noConfusion h, fun h => by unfold HeadOk at h; omega⟩, m2.below⟩ | exact ⟨_, rfl, ⟨fun h => by simp at h; unfold HeadOk; omega, fun h => by unfold HeadOk at h; simp; omega⟩, m2.below⟩
  clear Hz; intro hb18 Hz; try simp only [QQ, Qax] at hb18
  refine goCh Hz (.sk <| .sk <| .sk <| .pickF rfl rfl <| .move rfl <| .sk <| .sk <| .sk <| .pickF rfl rfl <| .move rfl <| .sk <| .sk <| .sk <| .pickF rfl rfl <| .move rfl <| .sk <| .sk <| .sk <| .pickF rfl rfl <| .move rfl <| .sk <| .sk <| .sk <| .pickF rfl rfl <| .move rfl <| .sk <| .sk <| .sk <| .sk <| .sk <| .pickF rfl rfl <| .assign rfl <| .nil) ?_
  clear Hz Az; intro Az Hz
  refine znl (hK1 _ _ ?_); clear hK1
  refine wp_ret ?_
  try dsimp only [Exit.then, Exit.inBlock]
  refine (ret1 (fn := Try.f48) Hz rfl rfl ?_)
  first | exact ⟨_, rfl, ⟨fun h => Bool.noConfusion h, fun h => by unfold HeadOk at h; omega⟩, m2.below⟩ | exact ⟨_, rfl, ⟨fun h => by simp at h; unfold HeadOk; omega, fun h => by unfold HeadOk at h; simp; omega⟩, m2.below⟩
 clear Hz; intro hb12 Hz; try simp only [QQ, Qax] at hb12
 refine goCh Hz (.sk <| .sk <| .sk <| .pickF rfl rfl <| .move rfl <| .sk <| .sk <| .sk <| .pickF rfl rfl <| .move rfl <| .sk <| .sk <| .sk <| .pickF rfl rfl <| .move rfl <| .sk <| .sk <| .sk <| .pickF rfl rfl <| .move rfl <| .sk <| .sk <| .sk <| .pickF rfl rfl <| .move rfl <| .sk <| .sk <| .sk <| .pickF rfl rfl <| .move rfl <| .sk <| .sk <| .sk <| .sk <| .sk <| .pickF rfl rfl <| .assign rfl <| .nil) ?_
 clear Hz Az; intro Az Hz
 refine znl (hK1 _ _ ?_); clear hK1
 refine wp_ret ?_
 try dsimp only [Exit.then, Exit.inBlock]
 refine (ret1 (fn := Try.f48) Hz rfl rfl ?_)
 first | exact ⟨_, rfl, ⟨fun h => Bool.noConfusion h, fun h => by unfold HeadOk at h; omega⟩, m2.below⟩ | exact ⟨_, rfl, ⟨fun h => by simp at h; unfold HeadOk; omega, fun h => by unfold HeadOk at h; simp; omega⟩, m2.below⟩
theorem sright_any (bl sz fr to : Int) (its : List (Int × List Int)) (pi : Option Addr) (ni ci : Nat) (w0 : World) (h1 : Rd (fun _ => True) w0 (.slice pi ni ci) (.l 2 (its.map itD))) (hlen : its.length ≤ 256) :
   Calls Try.prog 25 #[.agg #[.int .i64 bl, .int .i64 sz, .int .i64 fr, .int .i64 to, .slice pi ni ci]] w0 fun e w' => ∃ b : Bool, e = .returned (.bool b) ∧ (b = true ↔ StreamOk bl sz fr to its) ∧ Below w0.heap.size w0 w' := by
 obtain rfl : ni = its.length := by obtain ⟨pq, cq, hv, _⟩ := h1.l_shape; injection hv with _ e2 _; rw [List.length_map] at e2; exact e2
 refine ent1 Try.func25 rfl Try.ntmps25 fun Az Hz => ?_
 have m0 := MemOk.start (fun _ => False) w0
 refine zsr fun K0 hK0 => ?_
 refine wpList_plain rfl (fun K hK => ?_)
 refine e_box Hz m0 20 (cs := [_, _, _, _, _]) rfl rfl rfl ?_
 clear Hz Az m0; intro g1 Az w2 Hz m2 hB2 hg2
 clear hB2 hg2
 refine hK _ _ ?_; clear hK
 refine goCh Hz (.assign rfl .nil) ?_
 clear Hz Az; intro Az Hz
 refine znl (hK0 _ _ ?_); clear hK0
 refine wp_seq_k (fun K1 hK1 => ?_)
 refine zsr fun K2 hK2 => ?_
 refine goCh Hz (.loadBR m2 (i := 20) rfl rfl U24 rfl fct2 (by simp) (by dsimp only [List.drop, List.take] <;> rfl) .nil) ?_
 clear Hz Az; intro Az Hz
 refine wpList_plain rfl (fun K hK => ?_)
 refine e_call Hz Try.func47 rfl rfl rfl rfl (headOf_any _ _ _ _ _ _ _ _) ?_
 rintro e w6 ⟨rfl, hb6⟩
 have m7 := m2.later hb6
 clear m2
 clear hb6
 refine ⟨_, rfl, ?_⟩; clear Hz Az; intro Az Hz
 refine hK _ _ ?_; clear hK
 refine wpList_plain rfl (fun K hK => ?_)
 refine e_call Hz Try.func48 rfl rfl rfl rfl (headR_any bl sz fr to _) ?_
 rintro e w9 ⟨hb9, rfl, hh, hb9⟩
 have m10 := m7.later hb9
 clear m7
 clear hb9
 refine ⟨_, rfl, ?_⟩; clear Hz Az; intro Az Hz
 refine hK _ _ ?_; clear hK
 refine goCh Hz (.not rfl <| .move rfl <| .nil) ?_
 clear Hz Az; intro Az Hz
 refine bool_cases Hz (t := 10) rfl ?_ ?_
 ·
  clear Hz; intro hb14 Hz; try simp only [QQ, Qax] at hb14
  have hf9 : hb9 = false := by simpa using hb14
  refine goCh Hz (.sk <| .sk <| .sk <| .sk <| .nil) ?_
  clear Hz Az; intro Az Hz
  refine st_skipU Hz rfl rfl rfl rfl ?_
  clear Hz Az; intro Az Hz
  refine st_skipU Hz rfl rfl rfl rfl ?_
  clear Hz Az; intro Az Hz
  refine st_skipU Hz rfl rfl rfl rfl ?_
  clear Hz Az; intro Az Hz
  refine st_skipU Hz rfl rfl rfl rfl ?_
  clear Hz Az; intro Az Hz
  refine st_skipU Hz rfl rfl rfl rfl ?_
  clear Hz Az; intro Az Hz
  refine st_skipU Hz rfl rfl rfl rfl ?_
  clear Hz Az; intro Az Hz
  refine goCh Hz (.sk <| .pickT rfl rfl <| .nil) ?_
  clear Hz Az; intro Az Hz
  refine znl (hK2 _ _ ?_); clear hK2
  refine wp_cond_true (Hz.ev (x := .tmp 22) rfl) ?_
  replace Hz : Has 52 [(1, _), (2, _)] Az := Hz.only [1, 2]
  refine regS Hz (.assign rfl <| .nil) ?_
  clear Hz Az; intro Az Hz
  refine wp_ret ?_
  try dsimp only [Exit.then, Exit.inBlock]
  refine (ret1 (fn := Try.f25) Hz rfl rfl ?_)
  first | exact ⟨_, rfl, ⟨fun h => Bool.noConfusion h, fun h => by have h9 := h.i k _ hes; dsimp only at h9; omega⟩, m10.below⟩ | exact ⟨_, rfl, ⟨fun h => Bool.noConfusion h, fun h => by have h9 := h.l (by omega); omega⟩, m10.below⟩ | exact ⟨_, rfl, ⟨fun h => Bool.noConfusion h, fun h => Bool.noConfusion ((hh.2 h.head).symm.trans hf9)⟩, m10.below⟩ | exact ⟨_, rfl, ⟨fun h => Bool.noConfusion h, fun h => by have h9 := h.head; unfold HeadOk at h9; omega⟩, m10.below⟩ | exact ⟨true, rfl, ⟨fun _ => StreamOk.mkH hhd (by omega) hlen (fun k e he => hall k e (by have := (List.getElem?_eq_some_iff.1 he).1; omega) he), fun _ => rfl⟩, m10.below⟩
 clear Hz; intro hb14 Hz; try simp only [QQ, Qax] at hb14
 have ht9 : hb9 = true := by simpa using hb14
 have hhd := hh.1 ht9
 have hhd0 := hhd
 unfold HeadOk at hhd0
 refine goCh Hz (.faZ 2 rfl U24 <| .loadB1Z m10 (i := 20) rfl rfl rfl U2 rfl <| .eqlZ rfl rfl <| .moveZ rfl <| .nil) ?_
 clear Hz Az; intro Az Hz
 refine bool_cases Hz (t := 14) rfl ?_ ?_
 ·
  clear Hz; intro hb33 Hz; try simp only [QQ, Qax] at hb33
  refine goCh Hz (.faZ 4 rfl U24 <| .loadB1Z m10 (i := 20) rfl rfl rfl U22 rfl <| .lenZ rfl U22 <| .faZ 0 rfl U24 <| .loadB1Z m10 (i := 20) rfl rfl rfl U3 rfl <| .neqZ rfl rfl <| .pickTZ rfl rfl <| .pickF rfl rfl <| .nil) ?_
  clear Hz Az; intro Az Hz
  refine znl (hK2 _ _ ?_); clear hK2
  refine bool_cases Hz (t := 22) rfl ?_ ?_
  ·
   clear Hz; intro hb42 Hz; try simp only [QQ, Qax] at hb42
   refine wp_cond_true (Hz.ev (x := .tmp 22) rfl) ?_
   replace Hz : Has 52 [(1, _), (2, _)] Az := Hz.only [1, 2]
   refine regS Hz (.assign rfl <| .nil) ?_
   clear Hz Az; intro Az Hz
   refine wp_ret ?_
   try dsimp only [Exit.then, Exit.inBlock]
   refine (ret1 (fn := Try.f25) Hz rfl rfl ?_)
   first | exact ⟨_, rfl, ⟨fun h => Bool.noConfusion h, fun h => by have h9 := h.i k _ hes; dsimp only at h9; omega⟩, m10.below⟩ | exact ⟨_, rfl, ⟨fun h => Bool.noConfusion h, fun h => by have h9 := h.l (by omega); omega⟩, m10.below⟩ | exact ⟨_, rfl, ⟨fun h => Bool.noConfusion h, fun h => Bool.noConfusion ((hh.2 h.head).symm.trans hf9)⟩, m10.below⟩ | exact ⟨_, rfl, ⟨fun h => Bool.noConfusion h, fun h => by have h9 := h.head; unfold HeadOk at h9; omega⟩, m10.below⟩ | exact ⟨true, rfl, ⟨fun _ => StreamOk.mkH hhd (by omega) hlen (fun k e he => hall k e (by have := (List.getElem?_eq_some_iff.1 he).1; omega) he), fun _ => rfl⟩, m10.below⟩
  clear Hz; intro hb42 Hz; try simp only [QQ, Qax] at hb42
  refine wp_cond_false (Hz.ev (x := .tmp 22) rfl) ?_
  refine zss (hK1 _ _ ?_); clear hK1
  replace Hz : Has 52 [(1, _), (2, _)] Az := Hz.only [1, 2]
  refine regS Hz (.assign rfl <| .nil) ?_
  clear Hz Az; intro Az Hz
  refine wp_seq_k (fun K3 hK3 => ?_)
  refine regS Hz (.fa 4 rfl U24 <| .lb m10 20 U22 rfl rfl rfl <| .len rfl U22 <| .move rfl <| .nil) ?_
  clear Hz Az; intro Az Hz
  refine wp_block ?_
  refine wp_loop_ghost (fun g a w => ∃ (k B : Nat), k ≤ its.length ∧ g = its.length - k ∧ (∀ i e, i < k → its[i]? = some e → lastB its i < e.1 ∧ e.1 < bl ∧ (e.2.length : Int) = sz) ∧ Has 52 [(1, .pointer (some ⟨B, 0, none⟩)), (3, .int .i64 (lastB its k)), (24, .slice pi its.length ci), (25, .int .i64 its.length), (26, .int .i64 k)] a ∧ MemOk (cn w0) w0 [(9, .box B 24 [.int .i64 bl, .int .i64 sz, .int .i64 fr, .int .i64 to, .slice pi its.length ci])] w) (its.length) ?_ ?_
  · exact ⟨0, _, Nat.zero_le _, rfl, (fun i e hi => by omega), Hz.only [1, 3, 24, 25, 26], m10.ren [(9, 20)] (by decide)⟩
  clear Hz m10
  rintro g Az w51 ⟨k, B, hkl, hg, hall, Hz, m51⟩
  refine regS Hz (.lss rfl rfl <| .nil) ?_
  clear Hz Az; intro Az Hz
  refine wp_seq_k (fun K4 hK4 => ?_)
  refine bool_cases Hz (t := 27) rfl ?_ ?_
  ·
   clear Hz; intro hb53 Hz; try simp only [QQ, Qax] at hb53
   have hk : k < its.length := by have := hb53; first | omega | (simp at this; omega)
   obtain ⟨⟨xb, xd⟩, hes⟩ : ∃ e, its[k]? = some e := ⟨_, List.getElem?_eq_getElem hk⟩
   refine wp_cond_true (Hz.ev (x := .tmp 27) rfl) ?_
   refine zss (hK4 _ _ ?_); clear hK4
   refine wp_seq_k (fun K5 hK5 => ?_)
   refine wp_block ?_
   refine zsr fun K6 hK6 => ?_
   obtain ⟨gx55, ox55, vx55, hp55, hl55, hR55, hrg55⟩ := h1.extA (k) (r := [.v (.int .i64 xb), .ns .u8 xd]) (itD_get hes)
   cases hp55; clear hl55
   rcases hR55 with _ | ⟨hd55_0, _ | ⟨hd55_1, _ | _⟩⟩
   obtain rfl := hd55_0.v_out
   clear hd55_0
   obtain ⟨p56, c56, hv56, hw56⟩ := hd55_1.ns_shape; subst hv56
   refine goCh Hz (.c rfl (fun _ h => y_idx h rfl rfl U22 fct9 (k) rfl hk) <| .loadAt (hrg55 m51 rfl) rfl U29 rfl fct9 <| .nil) ?_
   clear Hz Az; intro Az Hz
   refine wpList_plain rfl (fun K hK => ?_)
   refine e_alloc Hz m51 101 fct20 rfl ?_
   clear Hz Az m51; intro g59 Az w60 Hz m60 hB60 hg60
   clear hB60 hg60
   refine hK _ _ ?_; clear hK
   refine wpList_plain rfl (fun K hK => ?_)
   refine e_storeW Hz m60 101 rfl rfl rfl rfl rfl fct9 ?_
   clear m60; intro w61 m61 hB61
   clear hB61
   refine hK _ _ ?_; clear hK
   refine znl (hK6 _ _ ?_); clear hK6
   refine wp_seq_k (fun K7 hK7 => ?_)
   refine zsr fun K8 hK8 => ?_
   refine goCh Hz (.fa 0 rfl U29 <| .lb m61 101 U3 rfl rfl rfl <| .move rfl <| .leq rfl rfl <| .move rfl <| .nil) ?_
   clear Hz Az; intro Az Hz
   refine bool_cases Hz (t := 34) rfl ?_ ?_
   ·
    clear Hz; intro hb72 Hz; try simp only [QQ, Qax] at hb72
    refine goCh Hz (.sk <| .sk <| .sk <| .sk <| .sk <| .pickT rfl rfl <| .move rfl <| .sk <| .sk <| .sk <| .sk <| .sk <| .sk <| .pickT rfl rfl <| .nil) ?_
    clear Hz Az; intro Az Hz
    refine znl (hK8 _ _ ?_); clear hK8
    refine wp_cond_true (Hz.ev (x := .tmp 48) rfl) ?_
    replace Hz : Has 52 [(1, _), (3, _), (24, _), (25, _), (26, _), (5, _)] Az := Hz.only [1, 3, 24, 25, 26, 5]
    refine regS Hz (.assign rfl <| .nil) ?_
    clear Hz Az; intro Az Hz
    refine wp_ret ?_
    try dsimp only [Exit.then, Exit.inBlock]
    refine (ret1 (fn := Try.f25) Hz rfl rfl ?_)
    first | exact ⟨_, rfl, ⟨fun h => Bool.noConfusion h, fun h => by have h9 := h.i k _ hes; dsimp only at h9; omega⟩, m61.below⟩ | exact ⟨_, rfl, ⟨fun h => Bool.noConfusion h, fun h => by have h9 := h.l (by omega); omega⟩, m61.below⟩ | exact ⟨_, rfl, ⟨fun h => Bool.noConfusion h, fun h => Bool.noConfusion ((hh.2 h.head).symm.trans hf9)⟩, m61.below⟩ | exact ⟨_, rfl, ⟨fun h => Bool.noConfusion h, fun h => by have h9 := h.head; unfold HeadOk at h9; omega⟩, m61.below⟩ | exact ⟨true, rfl, ⟨fun _ => StreamOk.mkH hhd (by omega) hlen (fun k e he => hall k e (by have := (List.getElem?_eq_some_iff.1 he).1; omega) he), fun _ => rfl⟩, m61.below⟩
   clear Hz; intro hb72 Hz; try simp only [QQ, Qax] at hb72
   refine goCh Hz (.faZ 0 rfl U29 <| .loadB1Z m61 (i := 101) rfl rfl rfl U3 rfl <| .faZ 0 rfl U24 <| .loadB1Z m61 (i := 9) rfl rfl rfl U3 rfl <| .geqZ rfl rfl <| .pickF rfl rfl <| .move rfl <| .nil) ?_
   clear Hz Az; intro Az Hz
   refine bool_cases Hz (t := 41) rfl ?_ ?_
   ·
    clear Hz; intro hb96 Hz; try simp only [QQ, Qax] at hb96
    refine goCh Hz (.sk <| .sk <| .sk <| .sk <| .sk <| .sk <| .pickT rfl rfl <| .nil) ?_
    clear Hz Az; intro Az Hz
    refine znl (hK8 _ _ ?_); clear hK8
    refine wp_cond_true (Hz.ev (x := .tmp 48) rfl) ?_
    replace Hz : Has 52 [(1, _), (3, _), (24, _), (25, _), (26, _), (5, _)] Az := Hz.only [1, 3, 24, 25, 26, 5]
    refine regS Hz (.assign rfl <| .nil) ?_
    clear Hz Az; intro Az Hz
    refine wp_ret ?_
    try dsimp only [Exit.then, Exit.inBlock]
    refine (ret1 (fn := Try.f25) Hz rfl rfl ?_)
    first | exact ⟨_, rfl, ⟨fun h => Bool.noConfusion h, fun h => by have h9 := h.i k _ hes; dsimp only at h9; omega⟩, m61.below⟩ | exact ⟨_, rfl, ⟨fun h => Bool.noConfusion h, fun h => by have h9 := h.l (by omega); omega⟩, m61.below⟩ | exact ⟨_, rfl, ⟨fun h => Bool.noConfusion h, fun h => Bool.noConfusion ((hh.2 h.head).symm.trans hf9)⟩, m61.below⟩ | exact ⟨_, rfl, ⟨fun h => Bool.noConfusion h, fun h => by have h9 := h.head; unfold HeadOk at h9; omega⟩, m61.below⟩ | exact ⟨true, rfl, ⟨fun _ => StreamOk.mkH hhd (by omega) hlen (fun k e he => hall k e (by have := (List.getElem?_eq_some_iff.1 he).1; omega) he), fun _ => rfl⟩, m61.below⟩
   clear Hz; intro hb96 Hz; try simp only [QQ, Qax] at hb96
   refine goCh Hz (.faZ 1 rfl U29 <| .loadB1Z m61 (i := 101) rfl rfl rfl U25 rfl <| .lenZ rfl U25 <| .faZ 1 rfl U24 <| .loadB1Z m61 (i := 9) rfl rfl rfl U3 rfl <| .neqZ rfl rfl <| .pickF rfl rfl <| .nil) ?_
   clear Hz Az; intro Az Hz
   refine znl (hK8 _ _ ?_); clear hK8
   refine bool_cases Hz (t := 48) rfl ?_ ?_
   ·
    clear Hz; intro hb113 Hz; try simp only [QQ, Qax] at hb113
    refine wp_cond_true (Hz.ev (x := .tmp 48) rfl) ?_
    replace Hz : Has 52 [(1, _), (3, _), (24, _), (25, _), (26, _), (5, _)] Az := Hz.only [1, 3, 24, 25, 26, 5]
    refine regS Hz (.assign rfl <| .nil) ?_
    clear Hz Az; intro Az Hz
    refine wp_ret ?_
    try dsimp only [Exit.then, Exit.inBlock]
    refine (ret1 (fn := Try.f25) Hz rfl rfl ?_)
    first | exact ⟨_, rfl, ⟨fun h => Bool.noConfusion h, fun h => by have h9 := h.i k _ hes; dsimp only at h9; omega⟩, m61.below⟩ | exact ⟨_, rfl, ⟨fun h => Bool.noConfusion h, fun h => by have h9 := h.l (by omega); omega⟩, m61.below⟩ | exact ⟨_, rfl, ⟨fun h => Bool.noConfusion h, fun h => Bool.noConfusion ((hh.2 h.head).symm.trans hf9)⟩, m61.below⟩ | exact ⟨_, rfl, ⟨fun h => Bool.noConfusion h, fun h => by have h9 := h.head; unfold HeadOk at h9; omega⟩, m61.below⟩ | exact ⟨true, rfl, ⟨fun _ => StreamOk.mkH hhd (by omega) hlen (fun k e he => hall k e (by have := (List.getElem?_eq_some_iff.1 he).1; omega) he), fun _ => rfl⟩, m61.below⟩
   clear Hz; intro hb113 Hz; try simp only [QQ, Qax] at hb113
   refine wp_cond_false (Hz.ev (x := .tmp 48) rfl) ?_
   refine zss (hK7 _ _ ?_); clear hK7
   replace Hz : Has 52 [(1, _), (3, _), (24, _), (25, _), (26, _), (5, _)] Az := Hz.only [1, 3, 24, 25, 26, 5]
   refine wp_region_lit ?_
   refine goCh Hz (.fa 0 rfl U29 <| .lb m61 101 U3 rfl rfl rfl <| .assign rfl <| .nil) ?_
   clear Hz Az; intro Az Hz
   refine znl (hK5 _ _ ?_); clear hK5
   refine wp_region_lit ?_
   refine goCh Hz (.add rfl rfl (r := ((k + 1 : Nat) : Int)) (by rw [IntWalk.i64_in _ (by omega)]; omega) <| .move rfl <| .nil) ?_
   clear Hz Az; intro Az Hz
   refine wpList_nil ?_
   show ∃ n', n' < _ ∧ _
   have hlb : xb = lastB its (k + 1) := (lastB_next hes).symm
   rw [hlb] at Hz
   exact ⟨its.length - (k + 1), by omega, k + 1, _, by omega, rfl, (fun i e hi he => by rcases Nat.lt_or_ge i k with h9 | h9; (exact hall i e h9 he); (obtain rfl : i = k := by omega); (rw [hes] at he; obtain rfl := (Option.some.inj he).symm; exact ⟨by simp only; omega, by simp only; omega, by simp only; omega⟩)), Hz.only [1, 3, 24, 25, 26], m61.ren [(9, 9)] (by decide)⟩
  clear Hz; intro hb53 Hz; try simp only [QQ, Qax] at hb53
  have hke : k = its.length := by have := hb53; first | omega | (simp at this; omega)
  refine wp_cond_false (Hz.ev (x := .tmp 27) rfl) ?_
  refine wp_exit ?_
  refine hK3 _ _ ?_; clear hK3
  refine regS Hz (.assign rfl <| .nil) ?_
  clear Hz Az; intro Az Hz
  refine wp_ret ?_
  try dsimp only [Exit.then, Exit.inBlock]
  refine (ret1 (fn := Try.f25) Hz rfl rfl ?_)
  first | exact ⟨_, rfl, ⟨fun h => Bool.noConfusion h, fun h => by have h9 := h.i k _ hes; dsimp only at h9; omega⟩, m51.below⟩ | exact ⟨_, rfl, ⟨fun h => Bool.noConfusion h, fun h => by have h9 := h.l (by omega); omega⟩, m51.below⟩ | exact ⟨_, rfl, ⟨fun h => Bool.noConfusion h, fun h => Bool.noConfusion ((hh.2 h.head).symm.trans hf9)⟩, m51.below⟩ | exact ⟨_, rfl, ⟨fun h => Bool.noConfusion h, fun h => by have h9 := h.head; unfold HeadOk at h9; omega⟩, m51.below⟩ | exact ⟨true, rfl, ⟨fun _ => StreamOk.mkH hhd (by omega) hlen (fun k e he => hall k e (by have := (List.getElem?_eq_some_iff.1 he).1; omega) he), fun _ => rfl⟩, m51.below⟩
 clear Hz; intro hb33 Hz; try simp only [QQ, Qax] at hb33
 refine goCh Hz (.sk <| .sk <| .sk <| .sk <| .sk <| .sk <| .pickFZ rfl rfl <| .pickF rfl rfl <| .nil) ?_
 clear Hz Az; intro Az Hz
 refine znl (hK2 _ _ ?_); clear hK2
 refine wp_cond_false (Hz.ev (x := .tmp 22) rfl) ?_
 refine zss (hK1 _ _ ?_); clear hK1
 replace Hz : Has 52 [(1, _), (2, _)] Az := Hz.only [1, 2]
 refine regS Hz (.assign rfl <| .nil) ?_
 clear Hz Az; intro Az Hz
 refine wp_seq_k (fun K9 hK9 => ?_)
 refine regS Hz (.fa 4 rfl U24 <| .lb m10 20 U22 rfl rfl rfl <| .len rfl U22 <| .move rfl <| .nil) ?_
 clear Hz Az; intro Az Hz
 refine wp_block ?_
 refine wp_loop_ghost (fun g a w => ∃ (k B : Nat), k ≤ its.length ∧ g = its.length - k ∧ (∀ i e, i < k → its[i]? = some e → lastB its i < e.1 ∧ e.1 < bl ∧ (e.2.length : Int) = sz) ∧ Has 52 [(1, .pointer (some ⟨B, 0, none⟩)), (3, .int .i64 (lastB its k)), (24, .slice pi its.length ci), (25, .int .i64 its.length), (26, .int .i64 k)] a ∧ MemOk (cn w0) w0 [(9, .box B 24 [.int .i64 bl, .int .i64 sz, .int .i64 fr, .int .i64 to, .slice pi its.length ci])] w) (its.length) ?_ ?_
 · exact ⟨0, _, Nat.zero_le _, rfl, (fun i e hi => by omega), Hz.only [1, 3, 24, 25, 26], m10.ren [(9, 20)] (by decide)⟩
 clear Hz m10
 rintro g Az w137 ⟨k, B, hkl, hg, hall, Hz, m137⟩
 refine regS Hz (.lss rfl rfl <| .nil) ?_
 clear Hz Az; intro Az Hz
 refine wp_seq_k (fun K10 hK10 => ?_)
 refine bool_cases Hz (t := 27) rfl ?_ ?_
 ·
  clear Hz; intro hb139 Hz; try simp only [QQ, Qax] at hb139
  have hk : k < its.length := by have := hb139; first | omega | (simp at this; omega)
  obtain ⟨⟨xb, xd⟩, hes⟩ : ∃ e, its[k]? = some e := ⟨_, List.getElem?_eq_getElem hk⟩
  refine wp_cond_true (Hz.ev (x := .tmp 27) rfl) ?_
  refine zss (hK10 _ _ ?_); clear hK10
  refine wp_seq_k (fun K11 hK11 => ?_)
  refine wp_block ?_
  refine zsr fun K12 hK12 => ?_
  obtain ⟨gx141, ox141, vx141, hp141, hl141, hR141, hrg141⟩ := h1.extA (k) (r := [.v (.int .i64 xb), .ns .u8 xd]) (itD_get hes)
  cases hp141; clear hl141
  rcases hR141 with _ | ⟨hd141_0, _ | ⟨hd141_1, _ | _⟩⟩
  obtain rfl := hd141_0.v_out
  clear hd141_0
  obtain ⟨p142, c142, hv142, hw142⟩ := hd141_1.ns_shape; subst hv142
  refine goCh Hz (.c rfl (fun _ h => y_idx h rfl rfl U22 fct9 (k) rfl hk) <| .loadAt (hrg141 m137 rfl) rfl U29 rfl fct9 <| .nil) ?_
  clear Hz Az; intro Az Hz
  refine wpList_plain rfl (fun K hK => ?_)
  refine e_alloc Hz m137 101 fct20 rfl ?_
  clear Hz Az m137; intro g145 Az w146 Hz m146 hB146 hg146
  clear hB146 hg146
  refine hK _ _ ?_; clear hK
  refine wpList_plain rfl (fun K hK => ?_)
  refine e_storeW Hz m146 101 rfl rfl rfl rfl rfl fct9 ?_
  clear m146; intro w147 m147 hB147
  clear hB147
  refine hK _ _ ?_; clear hK
  refine znl (hK12 _ _ ?_); clear hK12
  refine wp_seq_k (fun K13 hK13 => ?_)
  refine zsr fun K14 hK14 => ?_
  refine goCh Hz (.fa 0 rfl U29 <| .lb m147 101 U3 rfl rfl rfl <| .move rfl <| .leq rfl rfl <| .move rfl <| .nil) ?_
  clear Hz Az; intro Az Hz
  refine bool_cases Hz (t := 34) rfl ?_ ?_
  ·
   clear Hz; intro hb158 Hz; try simp only [QQ, Qax] at hb158
   refine goCh Hz (.sk <| .sk <| .sk <| .sk <| .sk <| .pickT rfl rfl <| .move rfl <| .sk <| .sk <| .sk <| .sk <| .sk <| .sk <| .pickT rfl rfl <| .nil) ?_
   clear Hz Az; intro Az Hz
   refine znl (hK14 _ _ ?_); clear hK14
   refine wp_cond_true (Hz.ev (x := .tmp 48) rfl) ?_
   replace Hz : Has 52 [(1, _), (3, _), (24, _), (25, _), (26, _), (5, _)] Az := Hz.only [1, 3, 24, 25, 26, 5]
   refine regS Hz (.assign rfl <| .nil) ?_
   clear Hz Az; intro Az Hz
   refine wp_ret ?_
   try dsimp only [Exit.then, Exit.inBlock]
   refine (ret1 (fn := Try.f25) Hz rfl rfl ?_)
   first | exact ⟨_, rfl, ⟨fun h => Bool.noConfusion h, fun h => by have h9 := h.i k _ hes; dsimp only at h9; omega⟩, m147.below⟩ | exact ⟨_, rfl, ⟨fun h => Bool.noConfusion h, fun h => by have h9 := h.l (by omega); omega⟩, m147.below⟩ | exact ⟨_, rfl, ⟨fun h => Bool.noConfusion h, fun h => Bool.noConfusion ((hh.2 h.head).symm.trans hf9)⟩, m147.below⟩ | exact ⟨_, rfl, ⟨fun h => Bool.noConfusion h, fun h => by have h9 := h.head; unfold HeadOk at h9; omega⟩, m147.below⟩ | exact ⟨true, rfl, ⟨fun _ => StreamOk.mkH hhd (by omega) hlen (fun k e he => hall k e (by have := (List.getElem?_eq_some_iff.1 he).1; omega) he), fun _ => rfl⟩, m147.below⟩
  clear Hz; intro hb158 Hz; try simp only [QQ, Qax] at hb158
  refine goCh Hz (.faZ 0 rfl U29 <| .loadB1Z m147 (i := 101) rfl rfl rfl U3 rfl <| .faZ 0 rfl U24 <| .loadB1Z m147 (i := 9) rfl rfl rfl U3 rfl <| .geqZ rfl rfl <| .pickF rfl rfl <| .move rfl <| .nil) ?_
  clear Hz Az; intro Az Hz
  refine bool_cases Hz (t := 41) rfl ?_ ?_
  ·
   clear Hz; intro hb182 Hz; try simp only [QQ, Qax] at hb182
   refine goCh Hz (.sk <| .sk <| .sk <| .sk <| .sk <| .sk <| .pickT rfl rfl <| .nil) ?_
   clear Hz Az; intro Az Hz
   refine znl (hK14 _ _ ?_); clear hK14
   refine wp_cond_true (Hz.ev (x := .tmp 48) rfl) ?_
   replace Hz : Has 52 [(1, _), (3, _), (24, _), (25, _), (26, _), (5, _)] Az := Hz.only [1, 3, 24, 25, 26, 5]
   refine regS Hz (.assign rfl <| .nil) ?_
   clear Hz Az; intro Az Hz
   refine wp_ret ?_
   try dsimp only [Exit.then, Exit.inBlock]
   refine (ret1 (fn := Try.f25) Hz rfl rfl ?_)
   first | exact ⟨_, rfl, ⟨fun h => Bool.noConfusion h, fun h => by have h9 := h.i k _ hes; dsimp only at h9; omega⟩, m147.below⟩ | exact ⟨_, rfl, ⟨fun h => Bool.noConfusion h, fun h => by have h9 := h.l (by omega); omega⟩, m147.below⟩ | exact ⟨_, rfl, ⟨fun h => Bool.noConfusion h, fun h => Bool.noConfusion ((hh.2 h.head).symm.trans hf9)⟩, m147.below⟩ | exact ⟨_, rfl, ⟨fun h => Bool.noConfusion h, fun h => by have h9 := h.head; unfold HeadOk at h9; omega⟩, m147.below⟩ | exact ⟨true, rfl, ⟨fun _ => StreamOk.mkH hhd (by omega) hlen (fun k e he => hall k e (by have := (List.getElem?_eq_some_iff.1 he).1; omega) he), fun _ => rfl⟩, m147.below⟩
  clear Hz; intro hb182 Hz; try simp only [QQ, Qax] at hb182
  refine goCh Hz (.faZ 1 rfl U29 <| .loadB1Z m147 (i := 101) rfl rfl rfl U25 rfl <| .lenZ rfl U25 <| .faZ 1 rfl U24 <| .loadB1Z m147 (i := 9) rfl rfl rfl U3 rfl <| .neqZ rfl rfl <| .pickF rfl rfl <| .nil) ?_
  clear Hz Az; intro Az Hz
  refine znl (hK14 _ _ ?_); clear hK14
  refine bool_cases Hz (t := 48) rfl ?_ ?_
  ·
   clear Hz; intro hb199 Hz; try simp only [QQ, Qax] at hb199
   refine wp_cond_true (Hz.ev (x := .tmp 48) rfl) ?_
   replace Hz : Has 52 [(1, _), (3, _), (24, _), (25, _), (26, _), (5, _)] Az := Hz.only [1, 3, 24, 25, 26, 5]
   refine regS Hz (.assign rfl <| .nil) ?_
   clear Hz Az; intro Az Hz
   refine wp_ret ?_
   try dsimp only [Exit.then, Exit.inBlock]
   refine (ret1 (fn := Try.f25) Hz rfl rfl ?_)
   first | exact ⟨_, rfl, ⟨fun h => Bool.noConfusion h, fun h => by have h9 := h.i k _ hes; dsimp only at h9; omega⟩, m147.below⟩ | exact ⟨_, rfl, ⟨fun h => Bool.noConfusion h, fun h => by have h9 := h.l (by omega); omega⟩, m147.below⟩ | exact ⟨_, rfl, ⟨fun h => Bool.noConfusion h, fun h => Bool.noConfusion ((hh.2 h.head).symm.trans hf9)⟩, m147.below⟩ | exact ⟨_, rfl, ⟨fun h => Bool.noConfusion h, fun h => by have h9 := h.head; unfold HeadOk at h9; omega⟩, m147.below⟩ | exact ⟨true, rfl, ⟨fun _ => StreamOk.mkH hhd (by omega) hlen (fun k e he => hall k e (by have := (List.getElem?_eq_some_iff.1 he).1; omega) he), fun _ => rfl⟩, m147.below⟩
  clear Hz; intro hb199 Hz; try simp only [QQ, Qax] at hb199
  refine wp_cond_false (Hz.ev (x := .tmp 48) rfl) ?_
  refine zss (hK13 _ _ ?_); clear hK13
  replace Hz : Has 52 [(1, _), (3, _), (24, _), (25, _), (26, _), (5, _)] Az := Hz.only [1, 3, 24, 25, 26, 5]
  refine wp_region_lit ?_
  refine goCh Hz (.fa 0 rfl U29 <| .lb m147 101 U3 rfl rfl rfl <| .assign rfl <| .nil) ?_
  clear Hz Az; intro Az Hz
  refine znl (hK11 _ _ ?_); clear hK11
  refine wp_region_lit ?_
  refine goCh Hz (.add rfl rfl (r := ((k + 1 : Nat) : Int)) (by rw [IntWalk.i64_in _ (by omega)]; omega) <| .move rfl <| .nil) ?_
  clear Hz Az; intro Az Hz
  refine wpList_nil ?_
  show ∃ n', n' < _ ∧ _
  have hlb : xb = lastB its (k + 1) := (lastB_next hes).symm
  rw [hlb] at Hz
  exact ⟨its.length - (k + 1), by omega, k + 1, _, by omega, rfl, (fun i e hi he => by rcases Nat.lt_or_ge i k with h9 | h9; (exact hall i e h9 he); (obtain rfl : i = k := by omega); (rw [hes] at he; obtain rfl := (Option.some.inj he).symm; exact ⟨by simp only; omega, by simp only; omega, by simp only; omega⟩)), Hz.only [1, 3, 24, 25, 26], m147.ren [(9, 9)] (by decide)⟩
 clear Hz; intro hb139 Hz; try simp only [QQ, Qax] at hb139
 have hke : k = its.length := by have := hb139; first | omega | (simp at this; omega)
 refine wp_cond_false (Hz.ev (x := .tmp 27) rfl) ?_
 refine wp_exit ?_
 refine hK9 _ _ ?_; clear hK9
 refine regS Hz (.assign rfl <| .nil) ?_
 clear Hz Az; intro Az Hz
 refine wp_ret ?_
 try dsimp only [Exit.then, Exit.inBlock]
 refine (ret1 (fn := Try.f25) Hz rfl rfl ?_)
 first | exact ⟨_, rfl, ⟨fun h => Bool.noConfusion h, fun h => by have h9 := h.i k _ hes; dsimp only at h9; omega⟩, m137.below⟩ | exact ⟨_, rfl, ⟨fun h => Bool.noConfusion h, fun h => by have h9 := h.l (by omega); omega⟩, m137.below⟩ | exact ⟨_, rfl, ⟨fun h => Bool.noConfusion h, fun h => Bool.noConfusion ((hh.2 h.head).symm.trans hf9)⟩, m137.below⟩ | exact ⟨_, rfl, ⟨fun h => Bool.noConfusion h, fun h => by have h9 := h.head; unfold HeadOk at h9; omega⟩, m137.below⟩ | exact ⟨true, rfl, ⟨fun _ => StreamOk.mkH hhd (by omega) hlen (fun k e he => hall k e (by have := (List.getElem?_eq_some_iff.1 he).1; omega) he), fun _ => rfl⟩, m137.below⟩
theorem r21right_any (bl sz fr to : Int) (its : List (Int × List Int)) (pi : Option Addr) (ni ci : Nat) (w0 : World) (h1 : Rd (fun _ => True) w0 (.slice pi ni ci) (.l 2 (its.map itD))) (hlen : its.length ≤ 256) :
   Calls Try.prog 30 #[.agg #[.int .i64 bl, .int .i64 sz, .int .i64 fr, .int .i64 to, .slice pi ni ci]] w0 fun e w' => ∃ b : Bool, e = .returned (.bool b) ∧ (b = true ↔ StreamOk bl sz fr to its) ∧ Below w0.heap.size w0 w' := by
 obtain rfl : ni = its.length := by obtain ⟨pq, cq, hv, _⟩ := h1.l_shape; injection hv with _ e2 _; rw [List.length_map] at e2; exact e2
 refine ent1 Try.func30 rfl Try.ntmps30 fun Az Hz => ?_
 have m0 := MemOk.start (fun _ => False) w0
 refine zsr fun K0 hK0 => ?_
 refine wpList_plain rfl (fun K hK => ?_)
 refine e_box Hz m0 20 (cs := [_, _, _, _, _]) rfl rfl rfl ?_
 clear Hz Az m0; intro g1 Az w2 Hz m2 hB2 hg2
 clear hB2 hg2
 refine hK _ _ ?_; clear hK
 refine goCh Hz (.assign rfl .nil) ?_
 clear Hz Az; intro Az Hz
 refine znl (hK0 _ _ ?_); clear hK0
 refine wp_seq_k (fun K1 hK1 => ?_)
 refine zsr fun K2 hK2 => ?_
 refine goCh Hz (.fa 0 rfl U24 <| .lb m2 20 U3 rfl rfl rfl <| .lss rfl rfl <| .move rfl <| .nil) ?_
 clear Hz Az; intro Az Hz
 refine bool_cases Hz (t := 8) rfl ?_ ?_
 ·
  clear Hz; intro hb12 Hz; try simp only [QQ, Qax] at hb12
  refine goCh Hz (.sk <| .sk <| .sk <| .pickT rfl rfl <| .move rfl <| .sk <| .sk <| .sk <| .pickT rfl rfl <| .move rfl <| .sk <| .sk <| .sk <| .pickT rfl rfl <| .move rfl <| .sk <| .sk <| .sk <| .pickT rfl rfl <| .move rfl <| .sk <| .sk <| .sk <| .pickT rfl rfl <| .move rfl <| .sk <| .sk <| .sk <| .pickT rfl rfl <| .move rfl <| .sk <| .sk <| .sk <| .sk <| .sk <| .pickT rfl rfl <| .move rfl <| .sk <| .sk <| .sk <| .sk <| .nil) ?_
  clear Hz Az; intro Az Hz
  refine st_skipU Hz rfl rfl rfl rfl ?_
  clear Hz Az; intro Az Hz
  refine st_skipU Hz rfl rfl rfl rfl ?_
  clear Hz Az; intro Az Hz
  refine st_skipU Hz rfl rfl rfl rfl ?_
  clear Hz Az; intro Az Hz
  refine st_skipU Hz rfl rfl rfl rfl ?_
  clear Hz Az; intro Az Hz
  refine st_skipU Hz rfl rfl rfl rfl ?_
  clear Hz Az; intro Az Hz
  refine st_skipU Hz rfl rfl rfl rfl ?_
  clear Hz Az; intro Az Hz
  refine goCh Hz (.sk <| .pickT rfl rfl <| .nil) ?_
  clear Hz Az; intro Az Hz
  refine znl (hK2 _ _ ?_); clear hK2
  refine wp_cond_true (Hz.ev (x := .tmp 57) rfl) ?_
  replace Hz : Has 102 [(1, _), (2, _)] Az := Hz.only [1, 2]
  refine regS Hz (.assign rfl <| .nil) ?_
  clear Hz Az; intro Az Hz
  refine wp_ret ?_
  try dsimp only [Exit.then, Exit.inBlock]
  refine (ret1 (fn := Try.f30) Hz rfl rfl ?_)
  first | exact ⟨_, rfl, ⟨fun h => Bool.noConfusion h, fun h => by have h9 := h.i k _ hes; dsimp only at h9; omega⟩, m2.below⟩ | exact ⟨_, rfl, ⟨fun h => Bool.noConfusion h, fun h => by have h9 := h.l (by omega); omega⟩, m2.below⟩ | exact ⟨_, rfl, ⟨fun h => Bool.noConfusion h, fun h => Bool.noConfusion ((hh.2 h.head).symm.trans hf9)⟩, m2.below⟩ | exact ⟨_, rfl, ⟨fun h => Bool.noConfusion h, fun h => by have h9 := h.head; unfold HeadOk at h9; omega⟩, m2.below⟩ | exact ⟨true, rfl, ⟨fun _ => StreamOk.mkH hhd (by omega) hlen (fun k e he => hall k e (by have := (List.getElem?_eq_some_iff.1 he).1; omega) he), fun _ => rfl⟩, m2.below⟩
 clear Hz; intro hb12 Hz; try simp only [QQ, Qax] at hb12
 refine goCh Hz (.faZ 0 rfl U24 <| .loadB1Z m2 (i := 20) rfl rfl rfl U3 rfl <| .gtrZ rfl rfl <| .pickF rfl rfl <| .move rfl <| .nil) ?_
 clear Hz Az; intro Az Hz
 refine bool_cases Hz (t := 13) rfl ?_ ?_
 ·
  clear Hz; intro hb69 Hz; try simp only [QQ, Qax] at hb69
  refine goCh Hz (.sk <| .sk <| .sk <| .pickT rfl rfl <| .move rfl <| .sk <| .sk <| .sk <| .pickT rfl rfl <| .move rfl <| .sk <| .sk <| .sk <| .pickT rfl rfl <| .move rfl <| .sk <| .sk <| .sk <| .pickT rfl rfl <| .move rfl <| .sk <| .sk <| .sk <| .pickT rfl rfl <| .move rfl <| .sk <| .sk <| .sk <| .sk <| .sk <| .pickT rfl rfl <| .move rfl <| .sk <| .sk <| .sk <| .sk <| .nil) ?_
  clear Hz Az; intro Az Hz
  refine st_skipU Hz rfl rfl rfl rfl ?_
  clear Hz Az; intro Az Hz
  refine st_skipU Hz rfl rfl rfl rfl ?_
  clear Hz Az; intro Az Hz
  refine st_skipU Hz rfl rfl rfl rfl ?_
  clear Hz Az; intro Az Hz
  refine st_skipU Hz rfl rfl rfl rfl ?_
  clear Hz Az; intro Az Hz
  refine st_skipU Hz rfl rfl rfl rfl ?_
  clear Hz Az; intro Az Hz
  refine st_skipU Hz rfl rfl rfl rfl ?_
  clear Hz Az; intro Az Hz
  refine goCh Hz (.sk <| .pickT rfl rfl <| .nil) ?_
  clear Hz Az; intro Az Hz
  refine znl (hK2 _ _ ?_); clear hK2
  refine wp_cond_true (Hz.ev (x := .tmp 57) rfl) ?_
  replace Hz : Has 102 [(1, _), (2, _)] Az := Hz.only [1, 2]
  refine regS Hz (.assign rfl <| .nil) ?_
  clear Hz Az; intro Az Hz
  refine wp_ret ?_
  try dsimp only [Exit.then, Exit.inBlock]
  refine (ret1 (fn := Try.f30) Hz rfl rfl ?_)
  first | exact ⟨_, rfl, ⟨fun h => Bool.noConfusion h, fun h => by have h9 := h.i k _ hes; dsimp only at h9; omega⟩, m2.below⟩ | exact ⟨_, rfl, ⟨fun h => Bool.noConfusion h, fun h => by have h9 := h.l (by omega); omega⟩, m2.below⟩ | exact ⟨_, rfl, ⟨fun h => Bool.noConfusion h, fun h => Bool.noConfusion ((hh.2 h.head).symm.trans hf9)⟩, m2.below⟩ | exact ⟨_, rfl, ⟨fun h => Bool.noConfusion h, fun h => by have h9 := h.head; unfold HeadOk at h9; omega⟩, m2.below⟩ | exact ⟨true, rfl, ⟨fun _ => StreamOk.mkH hhd (by omega) hlen (fun k e he => hall k e (by have := (List.getElem?_eq_some_iff.1 he).1; omega) he), fun _ => rfl⟩, m2.below⟩
 clear Hz; intro hb69 Hz; try simp only [QQ, Qax] at hb69
 refine goCh Hz (.faZ 1 rfl U24 <| .loadB1Z m2 (i := 20) rfl rfl rfl U3 rfl <| .lssZ rfl rfl <| .pickF rfl rfl <| .move rfl <| .nil) ?_
 clear Hz Az; intro Az Hz
 refine bool_cases Hz (t := 18) rfl ?_ ?_
 ·
  clear Hz; intro hb121 Hz; try simp only [QQ, Qax] at hb121
  refine goCh Hz (.sk <| .sk <| .sk <| .pickT rfl rfl <| .move rfl <| .sk <| .sk <| .sk <| .pickT rfl rfl <| .move rfl <| .sk <| .sk <| .sk <| .pickT rfl rfl <| .move rfl <| .sk <| .sk <| .sk <| .pickT rfl rfl <| .move rfl <| .sk <| .sk <| .sk <| .sk <| .sk <| .pickT rfl rfl <| .move rfl <| .sk <| .sk <| .sk <| .sk <| .nil) ?_
  clear Hz Az; intro Az Hz
  refine st_skipU Hz rfl rfl rfl rfl ?_
  clear Hz Az; intro Az Hz
  refine st_skipU Hz rfl rfl rfl rfl ?_
  clear Hz Az; intro Az Hz
  refine st_skipU Hz rfl rfl rfl rfl ?_
  clear Hz Az; intro Az Hz
  refine st_skipU Hz rfl rfl rfl rfl ?_
  clear Hz Az; intro Az Hz
  refine st_skipU Hz rfl rfl rfl rfl ?_
  clear Hz Az; intro Az Hz
  refine st_skipU Hz rfl rfl rfl rfl ?_
  clear Hz Az; intro Az Hz
  refine goCh Hz (.sk <| .pickT rfl rfl <| .nil) ?_
  clear Hz Az; intro Az Hz
  refine znl (hK2 _ _ ?_); clear hK2
  refine wp_cond_true (Hz.ev (x := .tmp 57) rfl) ?_
  replace Hz : Has 102 [(1, _), (2, _)] Az := Hz.only [1, 2]
  refine regS Hz (.assign rfl <| .nil) ?_
  clear Hz Az; intro Az Hz
  refine wp_ret ?_
  try dsimp only [Exit.then, Exit.inBlock]
  refine (ret1 (fn := Try.f30) Hz rfl rfl ?_)
  first | exact ⟨_, rfl, ⟨fun h => Bool.noConfusion h, fun h => by have h9 := h.i k _ hes; dsimp only at h9; omega⟩, m2.below⟩ | exact ⟨_, rfl, ⟨fun h => Bool.noConfusion h, fun h => by have h9 := h.l (by omega); omega⟩, m2.below⟩ | exact ⟨_, rfl, ⟨fun h => Bool.noConfusion h, fun h => Bool.noConfusion ((hh.2 h.head).symm.trans hf9)⟩, m2.below⟩ | exact ⟨_, rfl, ⟨fun h => Bool.noConfusion h, fun h => by have h9 := h.head; unfold HeadOk at h9; omega⟩, m2.below⟩ | exact ⟨true, rfl, ⟨fun _ => StreamOk.mkH hhd (by omega) hlen (fun k e he => hall k e (by have := (List.getElem?_eq_some_iff.1 he).1; omega) he), fun _ => rfl⟩, m2.below⟩
 clear Hz; intro hb121 Hz; try simp only [QQ, Qax] at hb121
 refine goCh Hz (.faZ 1 rfl U24 <| .loadB1Z m2 (i := 20) rfl rfl rfl U3 rfl <| .gtrZ rfl rfl <| .pickF rfl rfl <| .move rfl <| .nil) ?_
 clear Hz Az; intro Az Hz
 refine bool_cases Hz (t := 23) rfl ?_ ?_
 ·
  clear Hz; intro hb168 Hz; try simp only [QQ, Qax] at hb168
  refine goCh Hz (.sk <| .sk <| .sk <| .pickT rfl rfl <| .move rfl <| .sk <| .sk <| .sk <| .pickT rfl rfl <| .move rfl <| .sk <| .sk <| .sk <| .pickT rfl rfl <| .move rfl <| .sk <| .sk <| .sk <| .sk <| .sk <| .pickT rfl rfl <| .move rfl <| .sk <| .sk <| .sk <| .sk <| .nil) ?_
  clear Hz Az; intro Az Hz
  refine st_skipU Hz rfl rfl rfl rfl ?_
  clear Hz Az; intro Az Hz
  refine st_skipU Hz rfl rfl rfl rfl ?_
  clear Hz Az; intro Az Hz
  refine st_skipU Hz rfl rfl rfl rfl ?_
  clear Hz Az; intro Az Hz
  refine st_skipU Hz rfl rfl rfl rfl ?_
  clear Hz Az; intro Az Hz
  refine st_skipU Hz rfl rfl rfl rfl ?_
  clear Hz Az; intro Az Hz
  refine st_skipU Hz rfl rfl rfl rfl ?_
  clear Hz Az; intro Az Hz
  refine goCh Hz (.sk <| .pickT rfl rfl <| .nil) ?_
  clear Hz Az; intro Az Hz
  refine znl (hK2 _ _ ?_); clear hK2
  refine wp_cond_true (Hz.ev (x := .tmp 57) rfl) ?_
  replace Hz : Has 102 [(1, _), (2, _)] Az := Hz.only [1, 2]
  refine regS Hz (.assign rfl <| .nil) ?_
  clear Hz Az; intro Az Hz
  refine wp_ret ?_
  try dsimp only [Exit.then, Exit.inBlock]
  refine (ret1 (fn := Try.f30) Hz rfl rfl ?_)
  first | exact ⟨_, rfl, ⟨fun h => Bool.noConfusion h, fun h => by have h9 := h.i k _ hes; dsimp only at h9; omega⟩, m2.below⟩ | exact ⟨_, rfl, ⟨fun h => Bool.noConfusion h, fun h => by have h9 := h.l (by omega); omega⟩, m2.below⟩ | exact ⟨_, rfl, ⟨fun h => Bool.noConfusion h, fun h => Bool.noConfusion ((hh.2 h.head).symm.trans hf9)⟩, m2.below⟩ | exact ⟨_, rfl, ⟨fun h => Bool.noConfusion h, fun h => by have h9 := h.head; unfold HeadOk at h9; omega⟩, m2.below⟩ | exact ⟨true, rfl, ⟨fun _ => StreamOk.mkH hhd (by omega) hlen (fun k e he => hall k e (by have := (List.getElem?_eq_some_iff.1 he).1; omega) he), fun _ => rfl⟩, m2.below⟩
 clear Hz; intro hb168 Hz; try simp only [QQ, Qax] at hb168
 refine goCh Hz (.faZ 2 rfl U24 <| .loadB1Z m2 (i := 20) rfl rfl rfl U2 rfl <| .lssZ rfl rfl <| .pickF rfl rfl <| .move rfl <| .nil) ?_
 clear Hz Az; intro Az Hz
 refine bool_cases Hz (t := 28) rfl ?_ ?_
 ·
  clear Hz; intro hb210 Hz; try simp only [QQ, Qax] at hb210
  refine goCh Hz (.sk <| .sk <| .sk <| .pickT rfl rfl <| .move rfl <| .sk <| .sk <| .sk <| .pickT rfl rfl <| .move rfl <| .sk <| .sk <| .sk <| .sk <| .sk <| .pickT rfl rfl <| .move rfl <| .sk <| .sk <| .sk <| .sk <| .nil) ?_
  clear Hz Az; intro Az Hz
  refine st_skipU Hz rfl rfl rfl rfl ?_
  clear Hz Az; intro Az Hz
  refine st_skipU Hz rfl rfl rfl rfl ?_
  clear Hz Az; intro Az Hz
  refine st_skipU Hz rfl rfl rfl rfl ?_
  clear Hz Az; intro Az Hz
  refine st_skipU Hz rfl rfl rfl rfl ?_
  clear Hz Az; intro Az Hz
  refine st_skipU Hz rfl rfl rfl rfl ?_
  clear Hz Az; intro Az Hz
  refine st_skipU Hz rfl rfl rfl rfl ?_
  clear Hz Az; intro Az Hz
  refine goCh Hz (.sk <| .pickT rfl rfl <| .nil) ?_
  clear Hz Az; intro Az Hz
  refine znl (hK2 _ _ ?_); clear hK2
  refine wp_cond_true (Hz.ev (x := .tmp 57) rfl) ?_
  replace Hz : Has 102 [(1, _), (2, _)] Az := Hz.only [1, 2]
  refine regS Hz (.assign rfl <| .nil) ?_
  clear Hz Az; intro Az Hz
  refine wp_ret ?_
  try dsimp only [Exit.then, Exit.inBlock]
  refine (ret1 (fn := Try.f30) Hz rfl rfl ?_)
  first | exact ⟨_, rfl, ⟨fun h => Bool.noConfusion h, fun h => by have h9 := h.i k _ hes; dsimp only at h9; omega⟩, m2.below⟩ | exact ⟨_, rfl, ⟨fun h => Bool.noConfusion h, fun h => by have h9 := h.l (by omega); omega⟩, m2.below⟩ | exact ⟨_, rfl, ⟨fun h => Bool.noConfusion h, fun h => Bool.noConfusion ((hh.2 h.head).symm.trans hf9)⟩, m2.below⟩ | exact ⟨_, rfl, ⟨fun h => Bool.noConfusion h, fun h => by have h9 := h.head; unfold HeadOk at h9; omega⟩, m2.below⟩ | exact ⟨true, rfl, ⟨fun _ => StreamOk.mkH hhd (by omega) hlen (fun k e he => hall k e (by have := (List.getElem?_eq_some_iff.1 he).1; omega) he), fun _ => rfl⟩, m2.below⟩
 clear Hz; intro hb210 Hz; try simp only [QQ, Qax] at hb210
 refine goCh Hz (.faZ 3 rfl U24 <| .loadB1Z m2 (i := 20) rfl rfl rfl U2 rfl <| .lssZ rfl rfl <| .pickF rfl rfl <| .move rfl <| .nil) ?_
 clear Hz Az; intro Az Hz
 refine bool_cases Hz (t := 33) rfl ?_ ?_
 ·
  clear Hz; intro hb247 Hz; try simp only [QQ, Qax] at hb247
  refine goCh Hz (.sk <| .sk <| .sk <| .pickT rfl rfl <| .move rfl <| .sk <| .sk <| .sk <| .sk <| .sk <| .pickT rfl rfl <| .move rfl <| .sk <| .sk <| .sk <| .sk <| .nil) ?_
  clear Hz Az; intro Az Hz
  refine st_skipU Hz rfl rfl rfl rfl ?_
  clear Hz Az; intro Az Hz
  refine st_skipU Hz rfl rfl rfl rfl ?_
  clear Hz Az; intro Az Hz
  refine st_skipU Hz rfl rfl rfl rfl ?_
  clear Hz Az; intro Az Hz
  refine st_skipU Hz rfl rfl rfl rfl ?_
  clear Hz Az; intro Az Hz
  refine st_skipU Hz rfl rfl rfl rfl ?_
  clear Hz Az; intro Az Hz
  refine st_skipU Hz rfl rfl rfl rfl ?_
  clear Hz Az; intro Az Hz
  refine goCh Hz (.sk <| .pickT rfl rfl <| .nil) ?_
  clear Hz Az; intro Az Hz
  refine znl (hK2 _ _ ?_); clear hK2
  refine wp_cond_true (Hz.ev (x := .tmp 57) rfl) ?_
  replace Hz : Has 102 [(1, _), (2, _)] Az := Hz.only [1, 2]
  refine regS Hz (.assign rfl <| .nil) ?_
  clear Hz Az; intro Az Hz
  refine wp_ret ?_
  try dsimp only [Exit.then, Exit.inBlock]
  refine (ret1 (fn := Try.f30) Hz rfl rfl ?_)
  first | exact ⟨_, rfl, ⟨fun h => Bool.noConfusion h, fun h => by have h9 := h.i k _ hes; dsimp only at h9; omega⟩, m2.below⟩ | exact ⟨_, rfl, ⟨fun h => Bool.noConfusion h, fun h => by have h9 := h.l (by omega); omega⟩, m2.below⟩ | exact ⟨_, rfl, ⟨fun h => Bool.noConfusion h, fun h => Bool.noConfusion ((hh.2 h.head).symm.trans hf9)⟩, m2.below⟩ | exact ⟨_, rfl, ⟨fun h => Bool.noConfusion h, fun h => by have h9 := h.head; unfold HeadOk at h9; omega⟩, m2.below⟩ | exact ⟨true, rfl, ⟨fun _ => StreamOk.mkH hhd (by omega) hlen (fun k e he => hall k e (by have := (List.getElem?_eq_some_iff.1 he).1; omega) he), fun _ => rfl⟩, m2.below⟩
 clear Hz; intro hb247 Hz; try simp only [QQ, Qax] at hb247
 refine goCh Hz (.faZ 3 rfl U24 <| .loadB1Z m2 (i := 20) rfl rfl rfl U2 rfl <| .gtrZ rfl rfl <| .pickF rfl rfl <| .move rfl <| .nil) ?_
 clear Hz Az; intro Az Hz
 refine bool_cases Hz (t := 38) rfl ?_ ?_
 ·
  clear Hz; intro hb279 Hz; try simp only [QQ, Qax] at hb279
  refine goCh Hz (.sk <| .sk <| .sk <| .sk <| .sk <| .pickT rfl rfl <| .move rfl <| .sk <| .sk <| .sk <| .sk <| .nil) ?_
  clear Hz Az; intro Az Hz
  refine st_skipU Hz rfl rfl rfl rfl ?_
  clear Hz Az; intro Az Hz
  refine st_skipU Hz rfl rfl rfl rfl ?_
  clear Hz Az; intro Az Hz
  refine st_skipU Hz rfl rfl rfl rfl ?_
  clear Hz Az; intro Az Hz
  refine st_skipU Hz rfl rfl rfl rfl ?_
  clear Hz Az; intro Az Hz
  refine st_skipU Hz rfl rfl rfl rfl ?_
  clear Hz Az; intro Az Hz
  refine st_skipU Hz rfl rfl rfl rfl ?_
  clear Hz Az; intro Az Hz
  refine goCh Hz (.sk <| .pickT rfl rfl <| .nil) ?_
  clear Hz Az; intro Az Hz
  refine znl (hK2 _ _ ?_); clear hK2
  refine wp_cond_true (Hz.ev (x := .tmp 57) rfl) ?_
  replace Hz : Has 102 [(1, _), (2, _)] Az := Hz.only [1, 2]
  refine regS Hz (.assign rfl <| .nil) ?_
  clear Hz Az; intro Az Hz
  refine wp_ret ?_
  try dsimp only [Exit.then, Exit.inBlock]
  refine (ret1 (fn := Try.f30) Hz rfl rfl ?_)
  first | exact ⟨_, rfl, ⟨fun h => Bool.noConfusion h, fun h => by have h9 := h.i k _ hes; dsimp only at h9; omega⟩, m2.below⟩ | exact ⟨_, rfl, ⟨fun h => Bool.noConfusion h, fun h => by have h9 := h.l (by omega); omega⟩, m2.below⟩ | exact ⟨_, rfl, ⟨fun h => Bool.noConfusion h, fun h => Bool.noConfusion ((hh.2 h.head).symm.trans hf9)⟩, m2.below⟩ | exact ⟨_, rfl, ⟨fun h => Bool.noConfusion h, fun h => by have h9 := h.head; unfold HeadOk at h9; omega⟩, m2.below⟩ | exact ⟨true, rfl, ⟨fun _ => StreamOk.mkH hhd (by omega) hlen (fun k e he => hall k e (by have := (List.getElem?_eq_some_iff.1 he).1; omega) he), fun _ => rfl⟩, m2.below⟩
 clear Hz; intro hb279 Hz; try simp only [QQ, Qax] at hb279
 refine goCh Hz (.faZ 3 rfl U24 <| .loadB1Z m2 (i := 20) rfl rfl rfl U2 rfl <| .faZ 2 rfl U24 <| .loadB1Z m2 (i := 20) rfl rfl rfl U2 rfl <| .lssZ rfl rfl <| .pickF rfl rfl <| .move rfl <| .nil) ?_
 clear Hz Az; intro Az Hz
 refine bool_cases Hz (t := 45) rfl ?_ ?_
 ·
  clear Hz; intro hb308 Hz; try simp only [QQ, Qax] at hb308
  refine goCh Hz (.sk <| .sk <| .sk <| .sk <| .nil) ?_
  clear Hz Az; intro Az Hz
  refine st_skipU Hz rfl rfl rfl rfl ?_
  clear Hz Az; intro Az Hz
  refine st_skipU Hz rfl rfl rfl rfl ?_
  clear Hz Az; intro Az Hz
  refine st_skipU Hz rfl rfl rfl rfl ?_
  clear Hz Az; intro Az Hz
  refine st_skipU Hz rfl rfl rfl rfl ?_
  clear Hz Az; intro Az Hz
  refine st_skipU Hz rfl rfl rfl rfl ?_
  clear Hz Az; intro Az Hz
  refine st_skipU Hz rfl rfl rfl rfl ?_
  clear Hz Az; intro Az Hz
  refine goCh Hz (.sk <| .pickT rfl rfl <| .nil) ?_
  clear Hz Az; intro Az Hz
  refine znl (hK2 _ _ ?_); clear hK2
  refine wp_cond_true (Hz.ev (x := .tmp 57) rfl) ?_
  replace Hz : Has 102 [(1, _), (2, _)] Az := Hz.only [1, 2]
  refine regS Hz (.assign rfl <| .nil) ?_
  clear Hz Az; intro Az Hz
  refine wp_ret ?_
  try dsimp only [Exit.then, Exit.inBlock]
  refine (ret1 (fn := Try.f30) Hz rfl rfl ?_)
  first | exact ⟨_, rfl, ⟨fun h => Bool.noConfusion h, fun h => by have h9 := h.i k _ hes; dsimp only at h9; omega⟩, m2.below⟩ | exact ⟨_, rfl, ⟨fun h => Bool.noConfusion h, fun h => by have h9 := h.l (by omega); omega⟩, m2.below⟩ | exact ⟨_, rfl, ⟨fun h => Bool.noConfusion h, fun h => Bool.noConfusion ((hh.2 h.head).symm.trans hf9)⟩, m2.below⟩ | exact ⟨_, rfl, ⟨fun h => Bool.noConfusion h, fun h => by have h9 := h.head; unfold HeadOk at h9; omega⟩, m2.below⟩ | exact ⟨true, rfl, ⟨fun _ => StreamOk.mkH hhd (by omega) hlen (fun k e he => hall k e (by have := (List.getElem?_eq_some_iff.1 he).1; omega) he), fun _ => rfl⟩, m2.below⟩
 clear Hz; intro hb308 Hz; try simp only [QQ, Qax] at hb308
 refine goCh Hz (.faZ 2 rfl U24 <| .loadB1Z m2 (i := 20) rfl rfl rfl U2 rfl <| .lssZ rfl rfl <| .moveZ rfl <| .nil) ?_
 clear Hz Az; intro Az Hz
 refine bool_cases Hz (t := 49) rfl ?_ ?_
 ·
  clear Hz; intro hb327 Hz; try simp only [QQ, Qax] at hb327
  refine goCh Hz (.faZ 4 rfl U24 <| .loadB1Z m2 (i := 20) rfl rfl rfl U22 rfl <| .lenZ rfl U22 <| .faZ 0 rfl U24 <| .loadB1Z m2 (i := 20) rfl rfl rfl U3 rfl <| .neqZ rfl rfl <| .pickTZ rfl rfl <| .pickF rfl rfl <| .nil) ?_
  clear Hz Az; intro Az Hz
  refine znl (hK2 _ _ ?_); clear hK2
  refine bool_cases Hz (t := 57) rfl ?_ ?_
  ·
   clear Hz; intro hb336 Hz; try simp only [QQ, Qax] at hb336
   refine wp_cond_true (Hz.ev (x := .tmp 57) rfl) ?_
   replace Hz : Has 102 [(1, _), (2, _)] Az := Hz.only [1, 2]
   refine regS Hz (.assign rfl <| .nil) ?_
   clear Hz Az; intro Az Hz
   refine wp_ret ?_
   try dsimp only [Exit.then, Exit.inBlock]
   refine (ret1 (fn := Try.f30) Hz rfl rfl ?_)
   first | exact ⟨_, rfl, ⟨fun h => Bool.noConfusion h, fun h => by have h9 := h.i k _ hes; dsimp only at h9; omega⟩, m2.below⟩ | exact ⟨_, rfl, ⟨fun h => Bool.noConfusion h, fun h => by have h9 := h.l (by omega); omega⟩, m2.below⟩ | exact ⟨_, rfl, ⟨fun h => Bool.noConfusion h, fun h => Bool.noConfusion ((hh.2 h.head).symm.trans hf9)⟩, m2.below⟩ | exact ⟨_, rfl, ⟨fun h => Bool.noConfusion h, fun h => by have h9 := h.head; unfold HeadOk at h9; omega⟩, m2.below⟩ | exact ⟨true, rfl, ⟨fun _ => StreamOk.mkH hhd (by omega) hlen (fun k e he => hall k e (by have := (List.getElem?_eq_some_iff.1 he).1; omega) he), fun _ => rfl⟩, m2.below⟩
  clear Hz; intro hb336 Hz; try simp only [QQ, Qax] at hb336
  refine wp_cond_false (Hz.ev (x := .tmp 57) rfl) ?_
  refine zss (hK1 _ _ ?_); clear hK1
  replace Hz : Has 102 [(1, _), (2, _)] Az := Hz.only [1, 2]
  refine regS Hz (.assign rfl <| .nil) ?_
  clear Hz Az; intro Az Hz
  refine wp_seq_k (fun K3 hK3 => ?_)
  refine regS Hz (.assign rfl <| .nil) ?_
  clear Hz Az; intro Az Hz
  refine wp_block ?_
  have hhd : HeadOk bl sz fr to := by unfold HeadOk; omega
  refine wp_loop_ghost (fun g a w => ∃ (k B : Nat), k ≤ its.length ∧ g = its.length - k ∧ (∀ i e, i < k → its[i]? = some e → lastB its i < e.1 ∧ e.1 < bl ∧ (e.2.length : Int) = sz) ∧ Has 102 [(1, .pointer (some ⟨B, 0, none⟩)), (3, .int .i64 (lastB its k)), (4, .int .i64 k)] a ∧ MemOk (cn w0) w0 [(9, .box B 24 [.int .i64 bl, .int .i64 sz, .int .i64 fr, .int .i64 to, .slice pi its.length ci])] w) (its.length) ?_ ?_
  · exact ⟨0, _, Nat.zero_le _, rfl, (fun i e hi => by omega), Hz.only [1, 3, 4], m2.ren [(9, 20)] (by decide)⟩
  clear Hz m2
  rintro g Az w342 ⟨k, B, hkl, hg, hall, Hz, m342⟩
  refine wp_seq_k (fun K4 hK4 => ?_)
  refine regS Hz (.move rfl <| .fa 4 rfl U24 <| .lb m342 9 U22 rfl rfl rfl <| .len rfl U22 <| .lss rfl rfl <| .nil) ?_
  clear Hz Az; intro Az Hz
  refine bool_cases Hz (t := 62) rfl ?_ ?_
  ·
   clear Hz; intro hb348 Hz; try simp only [QQ, Qax] at hb348
   have hk : k < its.length := by have := hb348; first | omega | (simp at this; omega)
   obtain ⟨⟨xb, xd⟩, hes⟩ : ∃ e, its[k]? = some e := ⟨_, List.getElem?_eq_getElem hk⟩
   refine wp_cond_true (Hz.ev (x := .tmp 62) rfl) ?_
   refine zss (hK4 _ _ ?_); clear hK4
   refine wp_seq_k (fun K5 hK5 => ?_)
   refine wp_block ?_
   refine wp_seq_k (fun K6 hK6 => ?_)
   refine wp_seq_k (fun K7 hK7 => ?_)
   obtain ⟨gx350, ox350, vx350, hp350, hl350, hR350, hrg350⟩ := h1.extA (k) (r := [.v (.int .i64 xb), .ns .u8 xd]) (itD_get hes)
   cases hp350; clear hl350
   rcases hR350 with _ | ⟨hd350_0, _ | ⟨hd350_1, _ | _⟩⟩
   obtain rfl := hd350_0.v_out
   clear hd350_0
   obtain ⟨p351, c351, hv351, hw351⟩ := hd350_1.ns_shape; subst hv351
   obtain ⟨gx353, ox353, vx353, hp353, hl353, hR353, hrg353⟩ := h1.extA (k) (r := [.v (.int .i64 xb), .ns .u8 xd]) (itD_get hes)
   cases hp353; clear hl353
   rcases hR353 with _ | ⟨hd353_0, _ | ⟨hd353_1, _ | _⟩⟩
   obtain rfl := hd353_0.v_out
   clear hd353_0
   obtain ⟨p354, c354, hv354, hw354⟩ := hd353_1.ns_shape; subst hv354
   obtain ⟨gx356, ox356, vx356, hp356, hl356, hR356, hrg356⟩ := h1.extA (k) (r := [.v (.int .i64 xb), .ns .u8 xd]) (itD_get hes)
   cases hp356; clear hl356
   rcases hR356 with _ | ⟨hd356_0, _ | ⟨hd356_1, _ | _⟩⟩
   obtain rfl := hd356_0.v_out
   clear hd356_0
   obtain ⟨p357, c357, hv357, hw357⟩ := hd356_1.ns_shape; subst hv357
   have m358 : MemOk _ _ [(9, _)] _ := m342.only [9]; clear m342
   refine region_p 31 (B := [(9, _)]) (m358.to ⟨il, trivial⟩) m358 (by kernel_rfl) (fun w359 hP359 m359 => ?_); clear m358
   refine goR hP359 [0, 1, 2, 3, 4, 5, 6, 7, 8] [1, 5] 9 0 511 Hz (m359.to ⟨il, trivial⟩) (.fa 4 rfl U24 <| .lb hh 9 U22 rfl rfl rfl <| .move rfl <| .p (fun _ _ h => y_idx h rfl rfl U22 fct9 (k) rfl hk) <| .fieldAddrQ 0 rfl U29 rfl (s := 0) (by kernel_rfl) rfl <| .loadAt1 (fun _ h => (hrg350 h rfl)) (q := 0) rfl rfl rfl U3 rfl <| .move rfl <| .leq rfl rfl <| .move rfl <| .nil) ?_
   clear Hz Az; intro Az Hz
   refine bool_cases Hz (t := 73) rfl ?_ ?_
   ·
    clear Hz; intro hb369 Hz; try simp only [QQ, Qax] at hb369
    refine goA hP359 [9, 10, 11, 12, 13, 14, 15, 16, 17, 18, 19, 20, 21, 22, 23, 24, 25, 26, 27, 28, 29, 30] 22 511 2147483647 Hz (m359.to ⟨il, trivial⟩) (.s <| .s <| .s <| .s <| .s <| .s <| .s <| .s <| .s <| .pickT rfl rfl <| .move rfl <| .s <| .s <| .s <| .s <| .s <| .s <| .s <| .s <| .s <| .s <| .pickT rfl rfl <| .nil) ?_
    clear Hz Az; intro Az Hz
    refine wpAnyE_done (by kernel_rfl) ?_ _
    refine hK7 _ _ ?_; clear hK7
    refine wp_cond_true (Hz.ev (x := .tmp 95) rfl) ?_
    replace Hz : Has 102 [(1, _), (3, _), (4, _)] Az := Hz.only [1, 3, 4]
    refine regS Hz (.assign rfl <| .nil) ?_
    clear Hz Az; intro Az Hz
    refine wp_ret ?_
    try dsimp only [Exit.then, Exit.inBlock]
    refine (ret1 (fn := Try.f30) Hz rfl rfl ?_)
    first | exact ⟨_, rfl, ⟨fun h => Bool.noConfusion h, fun h => by have h9 := h.i k _ hes; dsimp only at h9; omega⟩, m359.below⟩ | exact ⟨_, rfl, ⟨fun h => Bool.noConfusion h, fun h => by have h9 := h.l (by omega); omega⟩, m359.below⟩ | exact ⟨_, rfl, ⟨fun h => Bool.noConfusion h, fun h => Bool.noConfusion ((hh.2 h.head).symm.trans hf9)⟩, m359.below⟩ | exact ⟨_, rfl, ⟨fun h => Bool.noConfusion h, fun h => by have h9 := h.head; unfold HeadOk at h9; omega⟩, m359.below⟩ | exact ⟨true, rfl, ⟨fun _ => StreamOk.mkH hhd (by omega) hlen (fun k e he => hall k e (by have := (List.getElem?_eq_some_iff.1 he).1; omega) he), fun _ => rfl⟩, m359.below⟩
   clear Hz; intro hb369 Hz; try simp only [QQ, Qax] at hb369
   refine goR hP359 [9, 10, 11, 12, 13, 14, 15, 16, 17, 18, 19] [10, 14, 16] 11 511 1048575 Hz (m359.to ⟨il, trivial⟩) (.fa 4 rfl U24 <| .lb hh 9 U22 rfl rfl rfl <| .move rfl <| .p (fun _ _ h => y_idx h rfl rfl U22 fct9 (k) rfl hk) <| .fieldAddrQ 0 rfl U29 rfl (s := 0) (by kernel_rfl) rfl <| .loadAt1 (fun _ h => (hrg353 h rfl)) (q := 0) rfl rfl rfl U3 rfl <| .fa 0 rfl U24 <| .lb hh 9 U3 rfl rfl rfl <| .geq rfl rfl <| .pickF rfl rfl <| .move rfl <| .nil) ?_
   clear Hz Az; intro Az Hz
   refine bool_cases Hz (t := 84) rfl ?_ ?_
   ·
    clear Hz; intro hb405 Hz; try simp only [QQ, Qax] at hb405
    refine goA hP359 [20, 21, 22, 23, 24, 25, 26, 27, 28, 29, 30] 11 1048575 2147483647 Hz (m359.to ⟨il, trivial⟩) (.s <| .s <| .s <| .s <| .s <| .s <| .s <| .s <| .s <| .s <| .pickT rfl rfl <| .nil) ?_
    clear Hz Az; intro Az Hz
    refine wpAnyE_done (by kernel_rfl) ?_ _
    refine hK7 _ _ ?_; clear hK7
    refine wp_cond_true (Hz.ev (x := .tmp 95) rfl) ?_
    replace Hz : Has 102 [(1, _), (3, _), (4, _)] Az := Hz.only [1, 3, 4]
    refine regS Hz (.assign rfl <| .nil) ?_
    clear Hz Az; intro Az Hz
    refine wp_ret ?_
    try dsimp only [Exit.then, Exit.inBlock]
    refine (ret1 (fn := Try.f30) Hz rfl rfl ?_)
    first | exact ⟨_, rfl, ⟨fun h => Bool.noConfusion h, fun h => by have h9 := h.i k _ hes; dsimp only at h9; omega⟩, m359.below⟩ | exact ⟨_, rfl, ⟨fun h => Bool.noConfusion h, fun h => by have h9 := h.l (by omega); omega⟩, m359.below⟩ | exact ⟨_, rfl, ⟨fun h => Bool.noConfusion h, fun h => Bool.noConfusion ((hh.2 h.head).symm.trans hf9)⟩, m359.below⟩ | exact ⟨_, rfl, ⟨fun h => Bool.noConfusion h, fun h => by have h9 := h.head; unfold HeadOk at h9; omega⟩, m359.below⟩ | exact ⟨true, rfl, ⟨fun _ => StreamOk.mkH hhd (by omega) hlen (fun k e he => hall k e (by have := (List.getElem?_eq_some_iff.1 he).1; omega) he), fun _ => rfl⟩, m359.below⟩
   clear Hz; intro hb405 Hz; try simp only [QQ, Qax] at hb405
   refine goR hP359 [20, 21, 22, 23, 24, 25, 26, 27, 28, 29, 30] [21, 25, 28] 11 1048575 2147483647 Hz (m359.to ⟨il, trivial⟩) (.fa 4 rfl U24 <| .lb hh 9 U22 rfl rfl rfl <| .move rfl <| .p (fun _ _ h => y_idx h rfl rfl U22 fct9 (k) rfl hk) <| .fieldAddrQ 1 rfl U29 rfl (s := 0) (by kernel_rfl) rfl <| .loadAt1 (fun _ h => (hrg356 h rfl)) (q := 1) rfl rfl rfl U25 rfl <| .len rfl U25 <| .fa 1 rfl U24 <| .lb hh 9 U3 rfl rfl rfl <| .neq rfl rfl <| .pickF rfl rfl <| .nil) ?_
   clear Hz Az; intro Az Hz
   refine wpAnyE_done (by kernel_rfl) ?_ _
   refine hK7 _ _ ?_; clear hK7
   refine bool_cases Hz (t := 95) rfl ?_ ?_
   ·
    clear Hz; intro hb430 Hz; try simp only [QQ, Qax] at hb430
    refine wp_cond_true (Hz.ev (x := .tmp 95) rfl) ?_
    replace Hz : Has 102 [(1, _), (3, _), (4, _)] Az := Hz.only [1, 3, 4]
    refine regS Hz (.assign rfl <| .nil) ?_
    clear Hz Az; intro Az Hz
    refine wp_ret ?_
    try dsimp only [Exit.then, Exit.inBlock]
    refine (ret1 (fn := Try.f30) Hz rfl rfl ?_)
    first | exact ⟨_, rfl, ⟨fun h => Bool.noConfusion h, fun h => by have h9 := h.i k _ hes; dsimp only at h9; omega⟩, m359.below⟩ | exact ⟨_, rfl, ⟨fun h => Bool.noConfusion h, fun h => by have h9 := h.l (by omega); omega⟩, m359.below⟩ | exact ⟨_, rfl, ⟨fun h => Bool.noConfusion h, fun h => Bool.noConfusion ((hh.2 h.head).symm.trans hf9)⟩, m359.below⟩ | exact ⟨_, rfl, ⟨fun h => Bool.noConfusion h, fun h => by have h9 := h.head; unfold HeadOk at h9; omega⟩, m359.below⟩ | exact ⟨true, rfl, ⟨fun _ => StreamOk.mkH hhd (by omega) hlen (fun k e he => hall k e (by have := (List.getElem?_eq_some_iff.1 he).1; omega) he), fun _ => rfl⟩, m359.below⟩
   clear Hz; intro hb430 Hz; try simp only [QQ, Qax] at hb430
   refine wp_cond_false (Hz.ev (x := .tmp 95) rfl) ?_
   refine zss (hK6 _ _ ?_); clear hK6
   replace Hz : Has 102 [(1, _), (3, _), (4, _)] Az := Hz.only [1, 3, 4]
   refine wp_region_lit ?_
   refine goCh Hz (.fa 4 rfl U24 <| .lb m359 9 U22 rfl rfl rfl <| .move rfl <| .nil) ?_
   clear Hz Az; intro Az Hz
   obtain ⟨gx437, ox437, vx437, hp437, hl437, hR437, hrg437⟩ := h1.extA (k) (r := [.v (.int .i64 xb), .ns .u8 xd]) (itD_get hes)
   cases hp437; clear hl437
   rcases hR437 with _ | ⟨hd437_0, _ | ⟨hd437_1, _ | _⟩⟩
   obtain rfl := hd437_0.v_out
   clear hd437_0
   obtain ⟨p438, c438, hv438, hw438⟩ := hd437_1.ns_shape; subst hv438
   refine goCh Hz (.c rfl (fun _ h => y_idx h rfl rfl U22 fct9 (k) rfl hk) <| .fieldAddrQ 0 rfl U29 rfl (s := 0) (by kernel_rfl) rfl <| .loadAt1 (hrg437 m359 rfl) (q := 0) rfl rfl rfl U3 rfl <| .assign rfl <| .nil) ?_
   clear Hz Az; intro Az Hz
   refine znl (hK5 _ _ ?_); clear hK5
   replace Hz : Has 102 [(1, _), (3, _), (4, _)] Az := Hz.only [1, 3, 4]
   refine wp_region_lit ?_
   refine goCh Hz (.move rfl <| .add rfl rfl (r := ((k + 1 : Nat) : Int)) (by rw [IntWalk.i64_in _ (by omega)]; omega) <| .assign rfl <| .nil) ?_
   clear Hz Az; intro Az Hz
   refine wpList_nil ?_
   show ∃ n', n' < _ ∧ _
   have hlb : xb = lastB its (k + 1) := (lastB_next hes).symm
   rw [hlb] at Hz
   exact ⟨its.length - (k + 1), by omega, k + 1, _, by omega, rfl, (fun i e hi he => by rcases Nat.lt_or_ge i k with h9 | h9; (exact hall i e h9 he); (obtain rfl : i = k := by omega); (rw [hes] at he; obtain rfl := (Option.some.inj he).symm; exact ⟨by simp only; omega, by simp only; omega, by simp only; omega⟩)), Hz.only [1, 3, 4], m359.ren [(9, 9)] (by decide)⟩
  clear Hz; intro hb348 Hz; try simp only [QQ, Qax] at hb348
  have hke : k = its.length := by have := hb348; first | omega | (simp at this; omega)
  refine wp_cond_false (Hz.ev (x := .tmp 62) rfl) ?_
  refine wp_exit ?_
  refine hK3 _ _ ?_; clear hK3
  refine regS Hz (.assign rfl <| .nil) ?_
  clear Hz Az; intro Az Hz
  refine wp_ret ?_
  try dsimp only [Exit.then, Exit.inBlock]
  refine (ret1 (fn := Try.f30) Hz rfl rfl ?_)
  first | exact ⟨_, rfl, ⟨fun h => Bool.noConfusion h, fun h => by have h9 := h.i k _ hes; dsimp only at h9; omega⟩, m342.below⟩ | exact ⟨_, rfl, ⟨fun h => Bool.noConfusion h, fun h => by have h9 := h.l (by omega); omega⟩, m342.below⟩ | exact ⟨_, rfl, ⟨fun h => Bool.noConfusion h, fun h => Bool.noConfusion ((hh.2 h.head).symm.trans hf9)⟩, m342.below⟩ | exact ⟨_, rfl, ⟨fun h => Bool.noConfusion h, fun h => by have h9 := h.head; unfold HeadOk at h9; omega⟩, m342.below⟩ | exact ⟨true, rfl, ⟨fun _ => StreamOk.mkH hhd (by omega) hlen (fun k e he => hall k e (by have := (List.getElem?_eq_some_iff.1 he).1; omega) he), fun _ => rfl⟩, m342.below⟩
 clear Hz; intro hb327 Hz; try simp only [QQ, Qax] at hb327
 refine goCh Hz (.sk <| .sk <| .sk <| .sk <| .sk <| .sk <| .pickFZ rfl rfl <| .pickF rfl rfl <| .nil) ?_
 clear Hz Az; intro Az Hz
 refine znl (hK2 _ _ ?_); clear hK2
 refine wp_cond_false (Hz.ev (x := .tmp 57) rfl) ?_
 refine zss (hK1 _ _ ?_); clear hK1
 replace Hz : Has 102 [(1, _), (2, _)] Az := Hz.only [1, 2]
 refine regS Hz (.assign rfl <| .nil) ?_
 clear Hz Az; intro Az Hz
 refine wp_seq_k (fun K8 hK8 => ?_)
 refine regS Hz (.assign rfl <| .nil) ?_
 clear Hz Az; intro Az Hz
 refine wp_block ?_
 have hhd : HeadOk bl sz fr to := by unfold HeadOk; omega
 refine wp_loop_ghost (fun g a w => ∃ (k B : Nat), k ≤ its.length ∧ g = its.length - k ∧ (∀ i e, i < k → its[i]? = some e → lastB its i < e.1 ∧ e.1 < bl ∧ (e.2.length : Int) = sz) ∧ Has 102 [(1, .pointer (some ⟨B, 0, none⟩)), (3, .int .i64 (lastB its k)), (4, .int .i64 k)] a ∧ MemOk (cn w0) w0 [(9, .box B 24 [.int .i64 bl, .int .i64 sz, .int .i64 fr, .int .i64 to, .slice pi its.length ci])] w) (its.length) ?_ ?_
 · exact ⟨0, _, Nat.zero_le _, rfl, (fun i e hi => by omega), Hz.only [1, 3, 4], m2.ren [(9, 20)] (by decide)⟩
 clear Hz m2
 rintro g Az w459 ⟨k, B, hkl, hg, hall, Hz, m459⟩
 refine wp_seq_k (fun K9 hK9 => ?_)
 refine regS Hz (.move rfl <| .fa 4 rfl U24 <| .lb m459 9 U22 rfl rfl rfl <| .len rfl U22 <| .lss rfl rfl <| .nil) ?_
 clear Hz Az; intro Az Hz
 refine bool_cases Hz (t := 62) rfl ?_ ?_
 ·
  clear Hz; intro hb465 Hz; try simp only [QQ, Qax] at hb465
  have hk : k < its.length := by have := hb465; first | omega | (simp at this; omega)
  obtain ⟨⟨xb, xd⟩, hes⟩ : ∃ e, its[k]? = some e := ⟨_, List.getElem?_eq_getElem hk⟩
  refine wp_cond_true (Hz.ev (x := .tmp 62) rfl) ?_
  refine zss (hK9 _ _ ?_); clear hK9
  refine wp_seq_k (fun K10 hK10 => ?_)
  refine wp_block ?_
  refine wp_seq_k (fun K11 hK11 => ?_)
  refine wp_seq_k (fun K12 hK12 => ?_)
  obtain ⟨gx467, ox467, vx467, hp467, hl467, hR467, hrg467⟩ := h1.extA (k) (r := [.v (.int .i64 xb), .ns .u8 xd]) (itD_get hes)
  cases hp467; clear hl467
  rcases hR467 with _ | ⟨hd467_0, _ | ⟨hd467_1, _ | _⟩⟩
  obtain rfl := hd467_0.v_out
  clear hd467_0
  obtain ⟨p468, c468, hv468, hw468⟩ := hd467_1.ns_shape; subst hv468
  obtain ⟨gx470, ox470, vx470, hp470, hl470, hR470, hrg470⟩ := h1.extA (k) (r := [.v (.int .i64 xb), .ns .u8 xd]) (itD_get hes)
  cases hp470; clear hl470
  rcases hR470 with _ | ⟨hd470_0, _ | ⟨hd470_1, _ | _⟩⟩
  obtain rfl := hd470_0.v_out
  clear hd470_0
  obtain ⟨p471, c471, hv471, hw471⟩ := hd470_1.ns_shape; subst hv471
  obtain ⟨gx473, ox473, vx473, hp473, hl473, hR473, hrg473⟩ := h1.extA (k) (r := [.v (.int .i64 xb), .ns .u8 xd]) (itD_get hes)
  cases hp473; clear hl473
  rcases hR473 with _ | ⟨hd473_0, _ | ⟨hd473_1, _ | _⟩⟩
  obtain rfl := hd473_0.v_out
  clear hd473_0
  obtain ⟨p474, c474, hv474, hw474⟩ := hd473_1.ns_shape; subst hv474
  have m475 : MemOk _ _ [(9, _)] _ := m459.only [9]; clear m459
  refine region_p 31 (B := [(9, _)]) (m475.to ⟨il, trivial⟩) m475 (by kernel_rfl) (fun w476 hP476 m476 => ?_); clear m475
  refine goR hP476 [0, 1, 2, 3, 4, 5, 6, 7, 8] [1, 5] 9 0 511 Hz (m476.to ⟨il, trivial⟩) (.fa 4 rfl U24 <| .lb hh 9 U22 rfl rfl rfl <| .move rfl <| .p (fun _ _ h => y_idx h rfl rfl U22 fct9 (k) rfl hk) <| .fieldAddrQ 0 rfl U29 rfl (s := 0) (by kernel_rfl) rfl <| .loadAt1 (fun _ h => (hrg467 h rfl)) (q := 0) rfl rfl rfl U3 rfl <| .move rfl <| .leq rfl rfl <| .move rfl <| .nil) ?_
  clear Hz Az; intro Az Hz
  refine bool_cases Hz (t := 73) rfl ?_ ?_
  ·
   clear Hz; intro hb486 Hz; try simp only [QQ, Qax] at hb486
   refine goA hP476 [9, 10, 11, 12, 13, 14, 15, 16, 17, 18, 19, 20, 21, 22, 23, 24, 25, 26, 27, 28, 29, 30] 22 511 2147483647 Hz (m476.to ⟨il, trivial⟩) (.s <| .s <| .s <| .s <| .s <| .s <| .s <| .s <| .s <| .pickT rfl rfl <| .move rfl <| .s <| .s <| .s <| .s <| .s <| .s <| .s <| .s <| .s <| .s <| .pickT rfl rfl <| .nil) ?_
   clear Hz Az; intro Az Hz
   refine wpAnyE_done (by kernel_rfl) ?_ _
   refine hK12 _ _ ?_; clear hK12
   refine wp_cond_true (Hz.ev (x := .tmp 95) rfl) ?_
   replace Hz : Has 102 [(1, _), (3, _), (4, _)] Az := Hz.only [1, 3, 4]
   refine regS Hz (.assign rfl <| .nil) ?_
   clear Hz Az; intro Az Hz
   refine wp_ret ?_
   try dsimp only [Exit.then, Exit.inBlock]
   refine (ret1 (fn := Try.f30) Hz rfl rfl ?_)
   first | exact ⟨_, rfl, ⟨fun h => Bool.noConfusion h, fun h => by have h9 := h.i k _ hes; dsimp only at h9; omega⟩, m476.below⟩ | exact ⟨_, rfl, ⟨fun h => Bool.noConfusion h, fun h => by have h9 := h.l (by omega); omega⟩, m476.below⟩ | exact ⟨_, rfl, ⟨fun h => Bool.noConfusion h, fun h => Bool.noConfusion ((hh.2 h.head).symm.trans hf9)⟩, m476.below⟩ | exact ⟨_, rfl, ⟨fun h => Bool.noConfusion h, fun h => by have h9 := h.head; unfold HeadOk at h9; omega⟩, m476.below⟩ | exact ⟨true, rfl, ⟨fun _ => StreamOk.mkH hhd (by omega) hlen (fun k e he => hall k e (by have := (List.getElem?_eq_some_iff.1 he).1; omega) he), fun _ => rfl⟩, m476.below⟩
  clear Hz; intro hb486 Hz; try simp only [QQ, Qax] at hb486
  refine goR hP476 [9, 10, 11, 12, 13, 14, 15, 16, 17, 18, 19] [10, 14, 16] 11 511 1048575 Hz (m476.to ⟨il, trivial⟩) (.fa 4 rfl U24 <| .lb hh 9 U22 rfl rfl rfl <| .move rfl <| .p (fun _ _ h => y_idx h rfl rfl U22 fct9 (k) rfl hk) <| .fieldAddrQ 0 rfl U29 rfl (s := 0) (by kernel_rfl) rfl <| .loadAt1 (fun _ h => (hrg470 h rfl)) (q := 0) rfl rfl rfl U3 rfl <| .fa 0 rfl U24 <| .lb hh 9 U3 rfl rfl rfl <| .geq rfl rfl <| .pickF rfl rfl <| .move rfl <| .nil) ?_
  clear Hz Az; intro Az Hz
  refine bool_cases Hz (t := 84) rfl ?_ ?_
  ·
   clear Hz; intro hb522 Hz; try simp only [QQ, Qax] at hb522
   refine goA hP476 [20, 21, 22, 23, 24, 25, 26, 27, 28, 29, 30] 11 1048575 2147483647 Hz (m476.to ⟨il, trivial⟩) (.s <| .s <| .s <| .s <| .s <| .s <| .s <| .s <| .s <| .s <| .pickT rfl rfl <| .nil) ?_
   clear Hz Az; intro Az Hz
   refine wpAnyE_done (by kernel_rfl) ?_ _
   refine hK12 _ _ ?_; clear hK12
   refine wp_cond_true (Hz.ev (x := .tmp 95) rfl) ?_
   replace Hz : Has 102 [(1, _), (3, _), (4, _)] Az := Hz.only [1, 3, 4]
   refine regS Hz (.assign rfl <| .nil) ?_
   clear Hz Az; intro Az Hz
   refine wp_ret ?_
   try dsimp only [Exit.then, Exit.inBlock]
   refine (ret1 (fn := Try.f30) Hz rfl rfl ?_)
   first | exact ⟨_, rfl, ⟨fun h => Bool.noConfusion h, fun h => by have h9 := h.i k _ hes; dsimp only at h9; omega⟩, m476.below⟩ | exact ⟨_, rfl, ⟨fun h => Bool.noConfusion h, fun h => by have h9 := h.l (by omega); omega⟩, m476.below⟩ | exact ⟨_, rfl, ⟨fun h => Bool.noConfusion h, fun h => Bool.noConfusion ((hh.2 h.head).symm.trans hf9)⟩, m476.below⟩ | exact ⟨_, rfl, ⟨fun h => Bool.noConfusion h, fun h => by have h9 := h.head; unfold HeadOk at h9; omega⟩, m476.below⟩ | exact ⟨true, rfl, ⟨fun _ => StreamOk.mkH hhd (by omega) hlen (fun k e he => hall k e (by have := (List.getElem?_eq_some_iff.1 he).1; omega) he), fun _ => rfl⟩, m476.below⟩
  clear Hz; intro hb522 Hz; try simp only [QQ, Qax] at hb522
  refine goR hP476 [20, 21, 22, 23, 24, 25, 26, 27, 28, 29, 30] [21, 25, 28] 11 1048575 2147483647 Hz (m476.to ⟨il, trivial⟩) (.fa 4 rfl U24 <| .lb hh 9 U22 rfl rfl rfl <| .move rfl <| .p (fun _ _ h => y_idx h rfl rfl U22 fct9 (k) rfl hk) <| .fieldAddrQ 1 rfl U29 rfl (s := 0) (by kernel_rfl) rfl <| .loadAt1 (fun _ h => (hrg473 h rfl)) (q := 1) rfl rfl rfl U25 rfl <| .len rfl U25 <| .fa 1 rfl U24 <| .lb hh 9 U3 rfl rfl rfl <| .neq rfl rfl <| .pickF rfl rfl <| .nil) ?_
  clear Hz Az; intro Az Hz
  refine wpAnyE_done (by kernel_rfl) ?_ _
  refine hK12 _ _ ?_; clear hK12
  refine bool_cases Hz (t := 95) rfl ?_ ?_
  ·
   clear Hz; intro hb547 Hz; try simp only [QQ, Qax] at hb547
   refine wp_cond_true (Hz.ev (x := .tmp 95) rfl) ?_
   replace Hz : Has 102 [(1, _), (3, _), (4, _)] Az := Hz.only [1, 3, 4]
   refine regS Hz (.assign rfl <| .nil) ?_
   clear Hz Az; intro Az Hz
   refine wp_ret ?_
   try dsimp only [Exit.then, Exit.inBlock]
   refine (ret1 (fn := Try.f30) Hz rfl rfl ?_)
   first | exact ⟨_, rfl, ⟨fun h => Bool.noConfusion h, fun h => by have h9 := h.i k _ hes; dsimp only at h9; omega⟩, m476.below⟩ | exact ⟨_, rfl, ⟨fun h => Bool.noConfusion h, fun h => by have h9 := h.l (by omega); omega⟩, m476.below⟩ | exact ⟨_, rfl, ⟨fun h => Bool.noConfusion h, fun h => Bool.noConfusion ((hh.2 h.head).symm.trans hf9)⟩, m476.below⟩ | exact ⟨_, rfl, ⟨fun h => Bool.noConfusion h, fun h => by have h9 := h.head; unfold HeadOk at h9; omega⟩, m476.below⟩ | exact ⟨true, rfl, ⟨fun _ => StreamOk.mkH hhd (by omega) hlen (fun k e he => hall k e (by have := (List.getElem?_eq_some_iff.1 he).1; omega) he), fun _ => rfl⟩, m476.below⟩
  clear Hz; intro hb547 Hz; try simp only [QQ, Qax] at hb547
  refine wp_cond_false (Hz.ev (x := .tmp 95) rfl) ?_
  refine zss (hK11 _ _ ?_); clear hK11
  replace Hz : Has 102 [(1, _), (3, _), (4, _)] Az := Hz.only [1, 3, 4]
  refine wp_region_lit ?_
  refine goCh Hz (.fa 4 rfl U24 <| .lb m476 9 U22 rfl rfl rfl <| .move rfl <| .nil) ?_
  clear Hz Az; intro Az Hz
  obtain ⟨gx554, ox554, vx554, hp554, hl554, hR554, hrg554⟩ := h1.extA (k) (r := [.v (.int .i64 xb), .ns .u8 xd]) (itD_get hes)
  cases hp554; clear hl554
  rcases hR554 with _ | ⟨hd554_0, _ | ⟨hd554_1, _ | _⟩⟩
  obtain rfl := hd554_0.v_out
  clear hd554_0
  obtain ⟨p555, c555, hv555, hw555⟩ := hd554_1.ns_shape; subst hv555
  refine goCh Hz (.c rfl (fun _ h => y_idx h rfl rfl U22 fct9 (k) rfl hk) <| .fieldAddrQ 0 rfl U29 rfl (s := 0) (by kernel_rfl) rfl <| .loadAt1 (hrg554 m476 rfl) (q := 0) rfl rfl rfl U3 rfl <| .assign rfl <| .nil) ?_
  clear Hz Az; intro Az Hz
  refine znl (hK10 _ _ ?_); clear hK10
  replace Hz : Has 102 [(1, _), (3, _), (4, _)] Az := Hz.only [1, 3, 4]
  refine wp_region_lit ?_
  refine goCh Hz (.move rfl <| .add rfl rfl (r := ((k + 1 : Nat) : Int)) (by rw [IntWalk.i64_in _ (by omega)]; omega) <| .assign rfl <| .nil) ?_
  clear Hz Az; intro Az Hz
  refine wpList_nil ?_
  show ∃ n', n' < _ ∧ _
  have hlb : xb = lastB its (k + 1) := (lastB_next hes).symm
  rw [hlb] at Hz
  exact ⟨its.length - (k + 1), by omega, k + 1, _, by omega, rfl, (fun i e hi he => by rcases Nat.lt_or_ge i k with h9 | h9; (exact hall i e h9 he); (obtain rfl : i = k := by omega); (rw [hes] at he; obtain rfl := (Option.some.inj he).symm; exact ⟨by simp only; omega, by simp only; omega, by simp only; omega⟩)), Hz.only [1, 3, 4], m476.ren [(9, 9)] (by decide)⟩
 clear Hz; intro hb465 Hz; try simp only [QQ, Qax] at hb465
 have hke : k = its.length := by have := hb465; first | omega | (simp at this; omega)
 refine wp_cond_false (Hz.ev (x := .tmp 62) rfl) ?_
 refine wp_exit ?_
 refine hK8 _ _ ?_; clear hK8
 refine regS Hz (.assign rfl <| .nil) ?_
 clear Hz Az; intro Az Hz
 refine wp_ret ?_
 try dsimp only [Exit.then, Exit.inBlock]
 refine (ret1 (fn := Try.f30) Hz rfl rfl ?_)
 first | exact ⟨_, rfl, ⟨fun h => Bool.noConfusion h, fun h => by have h9 := h.i k _ hes; dsimp only at h9; omega⟩, m459.below⟩ | exact ⟨_, rfl, ⟨fun h => Bool.noConfusion h, fun h => by have h9 := h.l (by omega); omega⟩, m459.below⟩ | exact ⟨_, rfl, ⟨fun h => Bool.noConfusion h, fun h => Bool.noConfusion ((hh.2 h.head).symm.trans hf9)⟩, m459.below⟩ | exact ⟨_, rfl, ⟨fun h => Bool.noConfusion h, fun h => by have h9 := h.head; unfold HeadOk at h9; omega⟩, m459.below⟩ | exact ⟨true, rfl, ⟨fun _ => StreamOk.mkH hhd (by omega) hlen (fun k e he => hall k e (by have := (List.getElem?_eq_some_iff.1 he).1; omega) he), fun _ => rfl⟩, m459.below⟩
theorem full_gen (bl sz fr to : Int) (pi : Option Addr) (ni ci : Nat) (w0 : World) :
   Calls Try.prog 70 #[.agg #[.int .i64 bl, .int .i64 sz, .int .i64 fr, .int .i64 to, .slice pi ni ci]] w0 fun e w' => e = .returned (.bool (decide (fr < 0))) ∧ Below w0.heap.size w0 w' := by
 refine ent1 Try.func70 rfl Try.ntmps70 fun Az Hz => ?_
 have m0 := MemOk.start (fun _ => False) w0
 refine zsr fun K0 hK0 => ?_
 refine wpList_plain rfl (fun K hK => ?_)
 refine e_box Hz m0 20 (cs := [_, _, _, _, _]) rfl rfl rfl ?_
 clear Hz Az m0; intro g1 Az w2 Hz m2 hB2 hg2
 clear hB2 hg2
 refine hK _ _ ?_; clear hK
 refine goCh Hz (.assign rfl .nil) ?_
 clear Hz Az; intro Az Hz
 refine znl (hK0 _ _ ?_); clear hK0
 refine regS Hz (.fa 2 rfl U24 <| .lb m2 20 U2 rfl rfl rfl <| .lss rfl rfl <| .assign rfl <| .nil) ?_
 clear Hz Az; intro Az Hz
 refine wp_ret ?_
 try dsimp only [Exit.then, Exit.inBlock]
 refine (ret1 (fn := Try.f70) Hz rfl rfl ?_)
 exact ⟨rfl, m2.below⟩
theorem broken_not (bl sz fr to : Int) (its : List (Int × List Int)) (p : Option Addr) (c : Nat) (w0 : World) (h1 : Rd (fun _ => True) w0 (.slice p 1 c) (.l 5 [[.v (.int .i64 bl), .v (.int .i64 sz), .v (.int .i64 fr), .v (.int .i64 to), .l 2 (its.map itD)]])) (hf : 0 ≤ fr) :
   Calls Try.prog 52 #[.slice p 1 c] w0 fun e w' => e = .returned (.int .i64 0) ∧ Below w0.heap.size w0 w' := by
 refine ent1 Try.func52 rfl Try.ntmps52 fun Az Hz => ?_
 have m0 := MemOk.start (fun _ => False) w0
 refine regS Hz (.assign rfl <| .nil) ?_
 clear Hz Az; intro Az Hz
 refine wp_seq_k (fun K0 hK0 => ?_)
 refine regS Hz (.move rfl <| .len rfl U39 <| .move rfl <| .nil) ?_
 clear Hz Az; intro Az Hz
 refine wp_block ?_
 refine wp_loop_ghost (fun g a w => ∃ (k : Nat), k = 0 ∧ g = 1 - k ∧ Has 39 [(0, .slice p 1 c), (5, .int .i64 1), (6, .int .i64 k)] a ∧ MemOk (cn w0) w0 [] w) (1) ?_ ?_
 · exact ⟨0, rfl, rfl, Hz.only [0, 5, 6], m0.only []⟩
 clear Hz m0
 rintro g Az w5 ⟨k, hk0, hg, Hz, m5⟩
 refine regS Hz (.lss rfl rfl <| .nil) ?_
 clear Hz Az; intro Az Hz
 refine wp_seq_k (fun K1 hK1 => ?_)
 refine bool_cases Hz (t := 7) rfl ?_ ?_
 rotate_left
 · intro hb _; exact absurd hb (by simp; omega)
 clear Hz; intro _ Hz
 refine wp_cond_true (Hz.ev (x := .tmp 7) rfl) ?_
 refine zss (hK1 _ _ ?_); clear hK1
 refine wp_seq_k (fun K2 hK2 => ?_)
 refine wp_block ?_
 refine regS Hz (.move rfl <| .assign rfl <| .nil) ?_
 clear Hz Az; intro Az Hz
 refine wp_seq_k (fun K3 hK3 => ?_)
 obtain ⟨gx11, ox11, vx11, hp11, hl11, hR11, hrg11⟩ := h1.extA (0) (r := [.v (.int .i64 bl), .v (.int .i64 sz), .v (.int .i64 fr), .v (.int .i64 to), .l 2 (its.map itD)]) rfl
 cases hp11; clear hl11
 rcases hR11 with _ | ⟨hd11_0, _ | ⟨hd11_1, _ | ⟨hd11_2, _ | ⟨hd11_3, _ | ⟨hd11_4, _ | _⟩⟩⟩⟩⟩
 obtain rfl := hd11_0.v_out
 clear hd11_0
 obtain rfl := hd11_1.v_out
 clear hd11_1
 obtain rfl := hd11_2.v_out
 clear hd11_2
 obtain rfl := hd11_3.v_out
 clear hd11_3
 obtain ⟨p12, c12, hv12, hw12⟩ := hd11_4.l_shape; subst hv12
 have m13 : MemOk _ _ [] _ := m5.only []; clear m5
 refine region_p 26 (B := []) (m13.to trivial) m13 (by kernel_rfl) (fun w14 hP14 m14 => ?_); clear m13
 refine goA hP14 [0, 1, 2] 3 0 7 Hz (m14.to trivial) (.move rfl <| .eql rfl rfl <| .move rfl <| .nil) ?_
 clear Hz Az; intro Az Hz
 refine bool_cases Hz (t := 11) rfl ?_ ?_
 rotate_left
 · intro hb _; exact absurd hb (by simp; omega)
 clear Hz; intro _ Hz
 refine goR hP14 [3, 4, 5] [5] 3 7 63 Hz (m14.to trivial) (.move rfl <| .p (fun _ _ h => y_idx h rfl rfl U39 fct2 (0) rfl (by decide)) <| .loadAt (fun _ h => (hrg11 h rfl)) rfl U24 rfl fct2 <| .nil) ?_
 clear Hz Az; intro Az Hz
 refine stepE_only 6 rfl (by kernel_rfl) (wantedG Hz rfl rfl rfl rfl) (fun K hK => ?_)
 refine e_call Hz Try.func70 rfl rfl rfl rfl (full_gen _ _ _ _ _ _ _ _) ?_
 rintro e w22 ⟨rfl, hb22⟩
 have m23 := m14.later hb22
 clear m14
 clear hb22
 refine ⟨_, rfl, ?_⟩; clear Hz Az; intro Az Hz
 refine hK _ _ (m23.to trivial) ?_; clear hK K
 refine goA hP14 [7, 8, 9] 3 127 1023 Hz (m23.to trivial) (.not rfl <| .pickT rfl rfl <| .move rfl <| .nil) ?_
 clear Hz Az; intro Az Hz
 refine bool_cases Hz (t := 18) rfl ?_ ?_
 rotate_left
 · intro hb _; exact absurd hb (by simp; omega)
 clear Hz; intro _ Hz
 refine goA hP14 [10, 11, 12, 13, 14, 15, 16, 17, 18, 19, 20, 21, 22, 23, 24, 25] 16 1023 67108863 Hz (m23.to trivial) (.s <| .s <| .s <| .u <| .u <| .u <| .u <| .u <| .u <| .u <| .u <| .u <| .u <| .u <| .s <| .pickT rfl rfl <| .nil) ?_
 clear Hz Az; intro Az Hz
 refine wpAnyE_done (by kernel_rfl) ?_ _
 refine hK3 _ _ ?_; clear hK3
 refine wp_cond_true (Hz.ev (x := .tmp 34) rfl) ?_
 replace Hz : Has 39 [(0, _), (5, _), (6, _), (3, _)] Az := Hz.only [0, 5, 6, 3]
 refine regS Hz (.move rfl <| .assign rfl <| .nil) ?_
 clear Hz Az; intro Az Hz
 refine wp_ret ?_
 try dsimp only [Exit.then, Exit.inBlock]
 refine (ret1 (fn := Try.f52) Hz rfl rfl ?_)
 exact ⟨by rw [hk0]; rfl, m23.below⟩
theorem cright_not (bl sz fr to : Int) (its : List (Int × List Int)) (p : Option Addr) (c : Nat) (w0 : World) (h1 : Rd (fun _ => True) w0 (.slice p 1 c) (.l 5 [[.v (.int .i64 bl), .v (.int .i64 sz), .v (.int .i64 fr), .v (.int .i64 to), .l 2 (its.map itD)]])) (hs : StreamOk bl sz fr to its) (hf : 0 ≤ fr) :
   Calls Try.prog 27 #[.slice p 1 c] w0 fun e w' => e = .returned (.bool false) ∧ Below w0.heap.size w0 w' := by
 refine ent1 Try.func27 rfl Try.ntmps27 fun Az Hz => ?_
 have m0 := MemOk.start (fun _ => False) w0
 refine regS Hz (.assign rfl <| .nil) ?_
 clear Hz Az; intro Az Hz
 refine zsr fun K0 hK0 => ?_
 refine goCh Hz (.move rfl <| .len rfl U39 <| .gtr rfl rfl <| .move rfl <| .nil) ?_
 clear Hz Az; intro Az Hz
 refine bool_cases Hz (t := 6) rfl ?_ ?_
 rotate_left
 · intro hb _; exact absurd hb (by simp)
 clear Hz; intro _ Hz
 refine goCh Hz (.moveZ rfl .nil) ?_
 clear Hz Az; intro Az Hz
 obtain ⟨gx12, ox12, vx12, hp12, hl12, hR12, hrg12⟩ := h1.extA (0) (r := [.v (.int .i64 bl), .v (.int .i64 sz), .v (.int .i64 fr), .v (.int .i64 to), .l 2 (its.map itD)]) rfl
 cases hp12; clear hl12
 rcases hR12 with _ | ⟨hd12_0, _ | ⟨hd12_1, _ | ⟨hd12_2, _ | ⟨hd12_3, _ | ⟨hd12_4, _ | _⟩⟩⟩⟩⟩
 obtain rfl := hd12_0.v_out
 clear hd12_0
 obtain rfl := hd12_1.v_out
 clear hd12_1
 obtain rfl := hd12_2.v_out
 clear hd12_2
 obtain rfl := hd12_3.v_out
 clear hd12_3
 obtain ⟨p13, c13, hv13, hw13⟩ := hd12_4.l_shape; subst hv13
 refine goCh Hz (.g rfl rfl rfl rfl (fun _ h => y_idx h rfl rfl U39 fct2 (0) rfl (by decide)) <| .loadAtZ (hrg12 m0 rfl) rfl U24 rfl fct2 <| .nil) ?_
 clear Hz Az; intro Az Hz
 refine st_ge Hz rfl rfl rfl rfl (fun K hK => ?_)
 refine e_call Hz Try.func25 rfl rfl rfl rfl (sright_yes bl sz fr to its _ _ _ _ ((hd12_4.now' m0 rfl).any) hs) ?_
 rintro e w16 ⟨rfl, hb16⟩
 have m17 := m0.later hb16
 clear m0
 clear hb16
 refine ⟨_, rfl, ?_⟩; clear Hz Az; intro Az Hz
 refine hK _ _ ?_; clear hK
 refine goCh Hz (.pickT rfl rfl <| .move rfl <| .moveZ rfl <| .nil) ?_
 clear Hz Az; intro Az Hz
 refine st_ge Hz rfl rfl rfl rfl (fun K hK => ?_)
 refine e_call Hz Try.func52 rfl rfl rfl rfl (broken_not bl sz fr to its _ _ _ ((h1.now' m17 rfl).any) hf) ?_
 rintro e w22 ⟨rfl, hb22⟩
 have m23 := m17.later hb22
 clear m17
 clear hb22
 refine ⟨_, rfl, ?_⟩; clear Hz Az; intro Az Hz
 refine hK _ _ ?_; clear hK
 refine goCh Hz (.moveZ rfl <| .lenZ rfl U39 <| .eqlZ rfl rfl <| .pickT rfl rfl <| .assign rfl <| .nil) ?_
 clear Hz Az; intro Az Hz
 refine znl (hK0 _ _ ?_); clear hK0
 refine wp_ret ?_
 try dsimp only [Exit.then, Exit.inBlock]
 refine (ret1 (fn := Try.f27) Hz rfl rfl ?_)
 exact ⟨by first | rfl | (simp; done), m23.below⟩
end Go.Proofs.Ytkdnhndjjfjppaa.K
