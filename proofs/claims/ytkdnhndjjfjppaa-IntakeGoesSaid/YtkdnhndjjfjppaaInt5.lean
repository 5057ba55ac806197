/- The reference's machine of one volume: just what it answers. -/
import Derived.Test.YtkdnhndjjfjppaaVol33
import Derived.Test.YtkdnhndjjfjppaaVX3
namespace Go.Proofs.Ytkdnhndjjfjppaa.K
open Go.ChangeShapes Go.WideShapes Go.ChangeAt Go.RowKit
set_option linter.unusedVariables false
set_option linter.unusedSimpArgs false
set_option maxRecDepth 100000
set_option maxHeartbeats 4000000
theorem rfind_x (X : Cx) (B : Nat) (L : List VolV) (p : Option Addr) (c : Nat) (vo : Int) (w0 : World) (hl : L.length ≤ 1000000) (m0 : MemOk X w0 [(1, .box B 45 [.slice p (L.map volD).length c]), (2, .dat (.slice p (L.map volD).length c) (.l 11 (L.map volD)))] w0) :
   Calls Try.prog 33 #[.pointer (some ⟨B, 0, none⟩), .int .i64 vo] w0 fun e w' => ∃ j : Int, e = .returned (.int .i64 j) ∧ ((j = -1 ∧ ∀ (j : Nat) (e : VolV), L[j]? = some e → e.vo ≠ vo) ∨ ∃ (k : Nat) (e : VolV), j = (k : Int) ∧ L[k]? = some e ∧ e.vo = vo) ∧ MemOk X w0 [(1, .box B 45 [.slice p (L.map volD).length c]), (2, .dat (.slice p (L.map volD).length c) (.l 11 (L.map volD)))] w' := by
 refine ent2 Try.func33 rfl Try.ntmps33 fun Az Hz => ?_
 refine regS Hz (.assign rfl <| .nil) ?_
 clear Hz Az; intro Az Hz
 refine wp_seq_k (fun K0 hK0 => ?_)
 refine regS Hz (.assign rfl <| .nil) ?_
 clear Hz Az; intro Az Hz
 refine wp_block ?_
 refine wp_loop_ghost (fun g a w => ∃ (k : Nat), k ≤ L.length ∧ g = L.length - k ∧ (∀ (j : Nat) (e : VolV), j < k → L[j]? = some e → e.vo ≠ vo) ∧ Has 26 [(0, .pointer (some ⟨B, 0, none⟩)), (1, .int .i64 vo), (5, .int .i64 k)] a ∧ MemOk X w0 [(1, .box B 45 [.slice p (L.map volD).length c]), (2, .dat (.slice p (L.map volD).length c) (.l 11 (L.map volD)))] w) (L.length) ?_ ?_
 · exact ⟨0, Nat.zero_le _, rfl, fun j e h => by omega, Hz.only [0, 1, 5], m0.only [1, 2]⟩
 clear Hz m0
 rintro g Az w3 ⟨k, hkl, hg, hno, Hz, m3⟩
 refine wp_seq_k (fun K1 hK1 => ?_)
 refine regS Hz (.move rfl <| .move rfl <| .nilCheck rfl <| .fa 0 rfl U45 <| .lb m3 1 U43 rfl rfl rfl <| .len rfl U43 <| .lss rfl rfl <| .nil) ?_
 clear Hz Az; intro Az Hz
 refine bool_cases Hz (t := 12) rfl ?_ ?_
 ·
  clear Hz; intro hb11 Hz; try simp only [QQ, Qax] at hb11
  have hk : k < L.length := by have := hb11; simp at this; omega
  obtain ⟨x9, hes⟩ : ∃ x, L[k]? = some x := ⟨_, List.getElem?_eq_getElem (by simpa using hk)⟩
  refine wp_cond_true (Hz.ev (x := .tmp 12) rfl) ?_
  refine ss (hK1 _ _ ?_); clear hK1
  refine wp_seq_k (fun K2 hK2 => ?_)
  refine wp_block ?_
  replace Hz : Has 26 [(0, _), (1, _), (5, _)] Az := Hz.only [0, 1, 5]
  refine sr fun K3 hK3 => ?_
  refine goCh Hz (.move rfl <| .nilCheck rfl <| .fa 0 rfl U45 <| .lb m3 1 U43 rfl rfl rfl <| .move rfl <| .nil) ?_
  clear Hz Az; intro Az Hz
  obtain ⟨b24, o24, vs24, hp24, hR24, ho24, m24⟩ := m3.openR (i := 2) rfl (k) (r := [.v (.int .i64 x9.vo), .v (.int .i64 x9.bl), .v (.int .i64 x9.sz), .v (.int .i64 x9.pe), .ns .i64 x9.place, .v (.int .i64 x9.to), .v (.int .i64 x9.ne), .v (.bool x9.hi), .v (.int .i64 x9.fl), .ns .i64 x9.pins, .l 2 (x9.ws.map wrD)]) (volD_get hes) 100 rfl
  cases hp24; clear m3 ho24
  rcases hR24 with _ | ⟨hd24_0, _ | ⟨hd24_1, _ | ⟨hd24_2, _ | ⟨hd24_3, _ | ⟨hd24_4, _ | ⟨hd24_5, _ | ⟨hd24_6, _ | ⟨hd24_7, _ | ⟨hd24_8, _ | ⟨hd24_9, _ | ⟨hd24_10, _ | _⟩⟩⟩⟩⟩⟩⟩⟩⟩⟩⟩
  obtain rfl := hd24_0.v_out
  clear hd24_0
  obtain rfl := hd24_1.v_out
  clear hd24_1
  obtain rfl := hd24_2.v_out
  clear hd24_2
  obtain rfl := hd24_3.v_out
  clear hd24_3
  obtain ⟨p25, c25, hv25, hc25⟩ := hd24_4.ns_shape; subst hv25
  have m25 := m24.dat 101 rfl (hd24_4.cast (fun _ h => (free_add rfl h))); clear m24 hd24_4
  obtain rfl := hd24_5.v_out
  clear hd24_5
  obtain rfl := hd24_6.v_out
  clear hd24_6
  obtain rfl := hd24_7.v_out
  clear hd24_7
  obtain rfl := hd24_8.v_out
  clear hd24_8
  obtain ⟨p26, c26, hv26, hc26⟩ := hd24_9.ns_shape; subst hv26
  have m26 := m25.dat 102 rfl (hd24_9.cast (fun _ h => (free_add rfl (free_add rfl h)))); clear m25 hd24_9
  obtain ⟨p27, c27, hv27, hc27⟩ := hd24_10.l_shape; subst hv27
  have m27 := m26.dat 103 rfl (hd24_10.cast (fun _ h => (free_add rfl (free_add rfl (free_add rfl h))))); clear m26 hd24_10
  refine goCh Hz (.c rfl (fun _ h => y_idx h rfl rfl U43 fct2 (k) rfl (by simpa using hk)) <| .fieldAddrQ 0 rfl U49 rfl (s := 0) (by kernel_rfl) rfl <| .loadC0 m27 (i := 100) rfl rfl U3 rfl <| .move rfl <| .eql rfl rfl <| .nil) ?_
  clear Hz Az; intro Az Hz
  refine nl (hK3 _ _ ?_); clear hK3
  refine bool_cases Hz (t := 24) rfl ?_ ?_
  ·
   clear Hz; intro hb33 Hz; try simp only [QQ, Qax] at hb33
   have heq9 : x9.vo = vo := by simpa using hb33
   refine wp_cond_true (Hz.ev (x := .tmp 24) rfl) ?_
   replace Hz : Has 26 [(0, _), (1, _), (5, _)] Az := Hz.only [0, 1, 5]
   refine regS Hz (.move rfl <| .assign rfl <| .nil) ?_
   clear Hz Az; intro Az Hz
   refine wp_ret ?_
   try dsimp only [Exit.then, Exit.inBlock]
   refine (ret1 (fn := Try.f33) Hz rfl rfl ?_)
   first | exact ⟨k, rfl, Or.inr ⟨k, x9, rfl, hes, heq9⟩, m27.only [1, 2]⟩ | exact ⟨-1, rfl, Or.inl ⟨rfl, fun j e he => hno j e (by have := (List.getElem?_eq_some_iff.1 he).1; omega) he⟩, m27.only [1, 2]⟩
  clear Hz; intro hb33 Hz; try simp only [QQ, Qax] at hb33
  have hne9 : x9.vo ≠ vo := by simpa using hb33
  refine wp_cond_false (Hz.ev (x := .tmp 24) rfl) ?_
  refine ss (hK2 _ _ ?_); clear hK2
  replace Hz : Has 26 [(0, _), (1, _), (5, _)] Az := Hz.only [0, 1, 5]
  refine wp_region_lit ?_
  refine goCh Hz (.move rfl <| .add rfl rfl (r := ((k + 1 : Nat) : Int)) (by rw [IntWalk.i64_in _ (by omega)]; omega) <| .assign rfl <| .nil) ?_
  clear Hz Az; intro Az Hz
  refine wpList_nil ?_
  show ∃ n', n' < _ ∧ _
  exact ⟨L.length - (k + 1), by omega, k + 1, by omega, rfl, fun j e hj he => (Nat.lt_or_eq_of_le (Nat.le_of_lt_succ hj)).elim (fun h1 => hno j e h1 he) (fun h1 => by subst h1; rw [hes] at he; obtain rfl := Option.some.inj he; exact hne9), Hz.only [0, 1, 5], m27.only [1, 2]⟩
 clear Hz; intro hb11 Hz; try simp only [QQ, Qax] at hb11
 have hkE : k = L.length := by have := hb11; simp at this; omega
 refine wp_cond_false (Hz.ev (x := .tmp 12) rfl) ?_
 refine wp_exit ?_
 refine hK0 _ _ ?_; clear hK0
 replace Hz : Has 26 [(0, _), (1, _), (5, _)] Az := Hz.only [0, 1, 5]
 refine regS Hz (.assign rfl <| .nil) ?_
 clear Hz Az; intro Az Hz
 refine wp_ret ?_
 try dsimp only [Exit.then, Exit.inBlock]
 refine (ret1 (fn := Try.f33) Hz rfl rfl ?_)
 first | exact ⟨k, rfl, Or.inr ⟨k, x9, rfl, hes, heq9⟩, m3.only [1, 2]⟩ | exact ⟨-1, rfl, Or.inl ⟨rfl, fun j e he => hno j e (by have := (List.getElem?_eq_some_iff.1 he).1; omega) he⟩, m3.only [1, 2]⟩
theorem rvolume_x (X : Cx) (B : Nat) (x : VolV) (p : Option Addr) (c : Nat) (w0 : World) (m0 : MemOk X w0 [(1, .box B 45 [.slice p ([x].map volD).length c]), (2, .dat (.slice p ([x].map volD).length c) (.l 11 ([x].map volD)))] w0) :
   Calls Try.prog 13 #[.pointer (some ⟨B, 0, none⟩), .int .i64 x.vo] w0 fun e w' => ∃ (p1 p2 p3 : Option Addr) (d1 d2 d3 : Nat), e = .returned (.tuple #[.agg #[.int .i64 x.vo, .int .i64 x.bl, .int .i64 x.sz, .int .i64 x.pe, .slice p1 x.place.length d1, .int .i64 x.to, .int .i64 x.ne, .bool x.hi, .int .i64 x.fl, .slice p2 x.pins.length d2, .slice p3 (x.ws.map wrD).length d3], .bool true]) ∧ MemOk X w0 [(1, .box B 45 [.slice p ([x].map volD).length c]), (2, .dat (.slice p ([x].map volD).length c) (.l 11 ([x].map volD))), (3, .dat (.slice p1 x.place.length d1) (.ns .i64 x.place)), (4, .dat (.slice p2 x.pins.length d2) (.ns .i64 x.pins)), (5, .dat (.slice p3 (x.ws.map wrD).length d3) (.l 2 (x.ws.map wrD)))] w' := by
 refine ent2 Try.func13 rfl Try.ntmps13 fun Az Hz => ?_
 refine sr fun K0 hK0 => ?_
 refine wpList_plain rfl (fun K hK => ?_)
 refine e_alloc Hz m0 20 fct7 rfl ?_
 clear Hz Az m0; intro g1 Az w2 Hz m2 hB2 hg2
 clear hB2 hg2
 refine hK _ _ ?_; clear hK
 refine goCh Hz (.assign rfl .nil) ?_
 clear Hz Az; intro Az Hz
 refine nl (hK0 _ _ ?_); clear hK0
 refine sr fun K1 hK1 => ?_
 refine goCh Hz (.move rfl <| .move rfl <| .nil) ?_
 clear Hz Az; intro Az Hz
 refine wpList_plain rfl (fun K hK => ?_)
 refine e_call Hz Try.func33 rfl rfl rfl rfl (rfind_x _ _ [x] _ _ _ _ (by simp) (m2.into [(1, 1), (2, 2)] (by decide) rfl)) ?_
 rintro e w8 ⟨j, rfl, hj, hm8⟩
 have mx8 := m2.back hm8 [(1, 1), (2, 2)] (by decide); clear hm8 m2
 have m8 : MemOk _ _ [(1, _), (2, _), (20, _)] _ := mx8.only [1, 2, 20]; clear mx8
 refine ⟨_, rfl, ?_⟩; clear Hz Az; intro Az Hz
 refine hK _ _ ?_; clear hK
 obtain rfl : j = 0 := by
   rcases hj with ⟨-, h⟩ | ⟨k, e, rfl, h1, h2⟩
   · exact absurd rfl (h 0 x rfl)
   have := (List.getElem?_eq_some_iff.1 h1).1
   simp at this; subst this; rfl
 refine goCh Hz (.assign rfl .nil) ?_
 clear Hz Az; intro Az Hz
 refine nl (hK1 _ _ ?_); clear hK1
 refine wp_seq_k (fun K2 hK2 => ?_)
 refine regS Hz (.move rfl <| .lss rfl rfl <| .nil) ?_
 clear Hz Az; intro Az Hz
 refine bool_cases Hz (t := 11) rfl ?_ ?_
 · intro hb _; exact absurd hb (by simp)
 clear Hz; intro _ Hz
 refine wp_cond_false (Hz.ev (x := .tmp 11) rfl) ?_
 refine ss (hK2 _ _ ?_); clear hK2
 replace Hz : Has 20 [(0, _), (4, _), (5, _), (6, _)] Az := Hz.only [0, 4, 5, 6]
 refine sr fun K3 hK3 => ?_
 refine goCh Hz (.move rfl <| .nilCheck rfl <| .fa 0 rfl U45 <| .lb m8 1 U43 rfl rfl rfl <| .move rfl <| .nil) ?_
 clear Hz Az; intro Az Hz
 obtain ⟨b26, o26, vs26, hp26, hR26, ho26, m26⟩ := m8.openR (i := 2) rfl (0) (r := [.v (.int .i64 x.vo), .v (.int .i64 x.bl), .v (.int .i64 x.sz), .v (.int .i64 x.pe), .ns .i64 x.place, .v (.int .i64 x.to), .v (.int .i64 x.ne), .v (.bool x.hi), .v (.int .i64 x.fl), .ns .i64 x.pins, .l 2 (x.ws.map wrD)]) (by rfl) 21 rfl
 cases hp26; clear m8 ho26
 rcases hR26 with _ | ⟨hd26_0, _ | ⟨hd26_1, _ | ⟨hd26_2, _ | ⟨hd26_3, _ | ⟨hd26_4, _ | ⟨hd26_5, _ | ⟨hd26_6, _ | ⟨hd26_7, _ | ⟨hd26_8, _ | ⟨hd26_9, _ | ⟨hd26_10, _ | _⟩⟩⟩⟩⟩⟩⟩⟩⟩⟩⟩
 obtain rfl := hd26_0.v_out
 clear hd26_0
 obtain rfl := hd26_1.v_out
 clear hd26_1
 obtain rfl := hd26_2.v_out
 clear hd26_2
 obtain rfl := hd26_3.v_out
 clear hd26_3
 obtain ⟨p27, c27, hv27, hc27⟩ := hd26_4.ns_shape; subst hv27
 have m27 := m26.dat 22 rfl (hd26_4.cast (fun _ h => (free_add rfl h))); clear m26 hd26_4
 obtain rfl := hd26_5.v_out
 clear hd26_5
 obtain rfl := hd26_6.v_out
 clear hd26_6
 obtain rfl := hd26_7.v_out
 clear hd26_7
 obtain rfl := hd26_8.v_out
 clear hd26_8
 obtain ⟨p28, c28, hv28, hc28⟩ := hd26_9.ns_shape; subst hv28
 have m28 := m27.dat 23 rfl (hd26_9.cast (fun _ h => (free_add rfl (free_add rfl h)))); clear m27 hd26_9
 obtain ⟨p29, c29, hv29, hc29⟩ := hd26_10.l_shape; subst hv29
 have m29 := m28.dat 24 rfl (hd26_10.cast (fun _ h => (free_add rfl (free_add rfl (free_add rfl h))))); clear m28 hd26_10
 refine goCh Hz (.c rfl (fun _ h => y_idx h rfl rfl U43 fct2 (0) rfl (by simp)) <| .loadCR m29 (i := 21) rfl rfl U49 rfl fct2 <| .nil) ?_
 clear Hz Az; intro Az Hz
 refine wpList_plain rfl (fun K hK => ?_)
 refine e_storeW Hz m29 20 rfl rfl rfl rfl rfl fct2 ?_
 clear m29; intro w32 m32 hB32
 clear hB32
 refine hK _ _ ?_; clear hK
 refine goCh Hz (.assign rfl .nil) ?_
 clear Hz Az; intro Az Hz
 refine nl (hK3 _ _ ?_); clear hK3
 refine wp_ret ?_
 try dsimp only [Exit.then, Exit.inBlock]
 refine (retCT (fn := Try.f13) Hz m32 (i := 20) rfl rfl rfl rfl U49 rfl fct2 ?_)
 exact ⟨_, _, _, _, _, _, rfl, m32.ren [(1, 1), (2, 2), (3, 22), (4, 23), (5, 24)] (by decide)⟩
end Go.Proofs.Ytkdnhndjjfjppaa.K
