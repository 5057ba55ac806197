/- intake: streams that may be, chains of one, a volume's whole stream, places. -/
import Derived.Test.YtflcgpajodfkoaaDoorVolSm
import Derived.Test.YtflcgpajodfkoaaDoorVol39
namespace Go.Proofs.YtflcgpajodfkoaaDoor.K
open Go.ChangeShapes Go.WideShapes Go.ChangeAt Go.RowKit
set_option linter.unusedVariables false
set_option linter.unusedSimpArgs false
theorem fl96sho : flatS Tryd.prog 96 [.int .i64 0, .int .i64 0, .int .i64 0, .int .i64 0] = true := by kernel_rfl
def lastB (its : List (Int × List Int)) (k : Nat) : Int := if k = 0 then -1 else (its.getD (k - 1) i0).1
theorem lastB_next {its : List (Int × List Int)} {k : Nat} {xb : Int} {xd : List Int} (h : its[k]? = some (xb, xd)) : lastB its (k + 1) = xb := by
 rw [lastB, if_neg (by omega), Nat.add_sub_cancel, List.getD, h]; rfl
structure StreamOk (bl sz fr to : Int) (its : List (Int × List Int)) : Prop where
 b : 1 ≤ bl ∧ bl ≤ 256
 z : 1 ≤ sz ∧ sz ≤ 32
 f : -1 ≤ fr
 t : 0 ≤ to ∧ to ≤ 1099511627776
 ft : fr ≤ to
 l : fr = -1 → (its.length : Int) = bl
 i : ∀ k e, its[k]? = some e → lastB its k < e.1 ∧ e.1 < bl ∧ (e.2.length : Int) = sz
 len : its.length ≤ 256
def wholeI (S : List (List Int)) (k : Nat) : List (Int × List Int) := (List.range k).map (fun j : Nat => ((j : Int), S.getD j []))
theorem VolR.dsz {vo bl sz pe to ne fl : Int} {hi : Bool} {place pins : List Int} {ws : List PWr} (h : VolR vo bl sz pe to ne fl hi place pins ws) : ∀ e ∈ ws, ∀ x ∈ e.2, (0 ≤ x.1 ∧ x.1 < bl) ∧ (x.2.length : Int) = sz := fun e he x hx => by
 obtain ⟨h1, h2, h3, h4, h5, h6, h7, h8, h9⟩ := h
 obtain ⟨j, hj, rfl⟩ := List.getElem_of_mem he
 have h10 := (h9 j hj).2
 rw [List.getD, List.getElem?_eq_getElem hj] at h10
 obtain ⟨i, hi, rfl⟩ := List.getElem_of_mem hx
 have h11 := h10.2.2 i hi
 simp only [Option.getD_some] at h11
 rw [List.getD, List.getElem?_eq_getElem hi] at h11
 simp only [Option.getD_some] at h11
 exact ⟨⟨h11.1, h11.2.1⟩, h11.2.2.1⟩
theorem stSteps_sz {sz : Int} (l : List PI) (hl : ∀ x ∈ l, (x.2.length : Int) = sz) : ∀ (L : List (List Int)), (∀ d ∈ L, (d.length : Int) = sz) → ∀ d ∈ l.foldl stStep L, (d.length : Int) = sz := by
 induction l with
 | nil => intro L h; exact h
 | cons x l ih =>
   intro L h
   rw [List.foldl_cons]
   refine ih (fun y hy => hl y (List.mem_cons_of_mem _ hy)) _ (fun d hd => ?_)
   unfold stStep at hd
   split at hd
   · rcases List.mem_or_eq_of_mem_set hd with h1 | rfl
     · exact h d h1
     exact hl x List.mem_cons_self
   exact h d hd
theorem stWs_sz {sz : Int} (l : List PWr) (hl : ∀ e ∈ l, ∀ x ∈ e.2, (x.2.length : Int) = sz) : ∀ (L : List (List Int)), (∀ d ∈ L, (d.length : Int) = sz) → ∀ d ∈ l.foldl stW L, (d.length : Int) = sz := by
 induction l with
 | nil => intro L h; exact h
 | cons e l ih => intro L h; rw [List.foldl_cons]; exact ih (fun y hy => hl y (List.mem_cons_of_mem _ hy)) _ (stSteps_sz e.2 (hl e List.mem_cons_self) L h)
theorem stL_sz {vo bl sz pe to ne fl : Int} {hi : Bool} {place pins : List Int} {ws : List PWr} (h : VolR vo bl sz pe to ne fl hi place pins ws) (t k : Nat) (hk : k < (stL bl sz ws t).length) : (((stL bl sz ws t).getD k []).length : Int) = sz := by
 have hd := h.dsz
 obtain ⟨n1, n2, n3, n4, n5, n6, n7⟩ := h.1
 rw [List.getD, List.getElem?_eq_getElem hk]
 exact stWs_sz _ (fun e he x hx => (hd e (List.mem_of_mem_take he) x hx).2) _ (fun d hd9 => by rw [(List.mem_replicate.1 hd9).2, List.length_replicate]; omega) _ (List.getElem_mem hk)
set_option maxRecDepth 100000
set_option maxHeartbeats 4000000
theorem rlen_w (vo bl sz pe to ne fl : Int) (hi : Bool) (pp pn pw : Option Addr) (np cp nn cn : Nat) (ws : List PWr) (cw : Nat) (w0 : World) :
   Calls Tryd.prog 22 #[.agg #[.int .i64 vo, .int .i64 bl, .int .i64 sz, .int .i64 pe, .slice pp np cp, .int .i64 to, .int .i64 ne, .bool hi, .int .i64 fl, .slice pn nn cn, .slice pw (ws.map wrD).length cw]] w0 fun e w' => e = .returned (.int .i64 (ws.length : Int)) ∧ Below w0.heap.size w0 w' := by
 have h := rlen_any vo bl sz pe to ne fl hi pp pn pw np cp nn cn (ws.map wrD).length cw w0
 refine h.mono (fun e w' h => ⟨?_, h.2⟩)
 have h1 := h.1
 rwa [List.length_map] at h1
theorem headR_yes (bl sz fr to : Int) (w0 : World) (hb : 1 ≤ bl ∧ bl ≤ 256) (hz : 1 ≤ sz ∧ sz ≤ 32) (hf : -1 ≤ fr) (ht : 0 ≤ to ∧ to ≤ 1099511627776) (hft : fr ≤ to) :
   Calls Tryd.prog 45 #[.agg #[.int .i64 bl, .int .i64 sz, .int .i64 fr, .int .i64 to]] w0 fun e w' => e = .returned (.bool true) ∧ Below w0.heap.size w0 w' := by
 refine ent1 Tryd.func45 rfl Tryd.ntmps45 fun Az Hz => ?_
 have m0 := MemOk.start (fun _ => False) w0
 refine zsr fun K0 hK0 => ?_
 refine wpList_plain rfl (fun K hK => ?_)
 refine e_box Hz m0 20 (cs := [_, _, _, _]) rfl rfl rfl ?_
 clear Hz Az m0; intro g1 Az w2 Hz m2 hB2 hg2
 clear hB2 hg2
 refine hK _ _ ?_; clear hK
 refine goCh Hz (.assign rfl .nil) ?_
 clear Hz Az; intro Az Hz
 refine znl (hK0 _ _ ?_); clear hK0
 refine zsr fun K1 hK1 => ?_
 refine goCh Hz (.fa 0 rfl U96 <| .lb m2 20 U3 rfl rfl rfl <| .geq rfl rfl <| .move rfl <| .nil) ?_
 clear Hz Az; intro Az Hz
 refine bool_cases Hz (t := 6) rfl ?_ ?_
 rotate_left
 · intro hb _; exact absurd hb (by simp; omega)
 clear Hz; intro _ Hz
 refine goCh Hz (.faZ 0 rfl U96 <| .loadB1Z m2 (i := 20) rfl rfl rfl U3 rfl <| .leqZ rfl rfl <| .pickT rfl rfl <| .move rfl <| .nil) ?_
 clear Hz Az; intro Az Hz
 refine bool_cases Hz (t := 11) rfl ?_ ?_
 rotate_left
 · intro hb _; exact absurd hb (by simp; omega)
 clear Hz; intro _ Hz
 refine goCh Hz (.faZ 1 rfl U96 <| .loadB1Z m2 (i := 20) rfl rfl rfl U3 rfl <| .geqZ rfl rfl <| .pickT rfl rfl <| .move rfl <| .nil) ?_
 clear Hz Az; intro Az Hz
 refine bool_cases Hz (t := 16) rfl ?_ ?_
 rotate_left
 · intro hb _; exact absurd hb (by simp; omega)
 clear Hz; intro _ Hz
 refine goCh Hz (.faZ 1 rfl U96 <| .loadB1Z m2 (i := 20) rfl rfl rfl U3 rfl <| .leqZ rfl rfl <| .pickT rfl rfl <| .move rfl <| .nil) ?_
 clear Hz Az; intro Az Hz
 refine bool_cases Hz (t := 21) rfl ?_ ?_
 rotate_left
 · intro hb _; exact absurd hb (by simp; omega)
 clear Hz; intro _ Hz
 refine goCh Hz (.faZ 2 rfl U96 <| .loadB1Z m2 (i := 20) rfl rfl rfl U2 rfl <| .geqZ rfl rfl <| .pickT rfl rfl <| .move rfl <| .nil) ?_
 clear Hz Az; intro Az Hz
 refine bool_cases Hz (t := 26) rfl ?_ ?_
 rotate_left
 · intro hb _; exact absurd hb (by simp; omega)
 clear Hz; intro _ Hz
 refine goCh Hz (.faZ 3 rfl U96 <| .loadB1Z m2 (i := 20) rfl rfl rfl U2 rfl <| .geqZ rfl rfl <| .pickT rfl rfl <| .move rfl <| .nil) ?_
 clear Hz Az; intro Az Hz
 refine bool_cases Hz (t := 31) rfl ?_ ?_
 rotate_left
 · intro hb _; exact absurd hb (by simp; omega)
 clear Hz; intro _ Hz
 refine goCh Hz (.faZ 3 rfl U96 <| .loadB1Z m2 (i := 20) rfl rfl rfl U2 rfl <| .leqZ rfl rfl <| .pickT rfl rfl <| .move rfl <| .nil) ?_
 clear Hz Az; intro Az Hz
 refine bool_cases Hz (t := 36) rfl ?_ ?_
 rotate_left
 · intro hb _; exact absurd hb (by simp; omega)
 clear Hz; intro _ Hz
 refine goCh Hz (.faZ 2 rfl U96 <| .loadB1Z m2 (i := 20) rfl rfl rfl U2 rfl <| .faZ 3 rfl U96 <| .loadB1Z m2 (i := 20) rfl rfl rfl U2 rfl <| .leqZ rfl rfl <| .pickT rfl rfl <| .assign rfl <| .nil) ?_
 clear Hz Az; intro Az Hz
 refine znl (hK1 _ _ ?_); clear hK1
 refine wp_ret ?_
 try dsimp only [Exit.then, Exit.inBlock]
 refine (ret1 (fn := Tryd.f45) Hz rfl rfl ?_)
 exact ⟨by first | rfl | (simp; done) | (simp; omega), m2.below⟩
theorem headOf_any (bl sz fr to : Int) (pi : Option Addr) (ni ci : Nat) (w0 : World) :
   Calls Tryd.prog 44 #[.agg #[.int .i64 bl, .int .i64 sz, .int .i64 fr, .int .i64 to, .slice pi ni ci]] w0 fun e w' => e = .returned (.agg #[.int .i64 bl, .int .i64 sz, .int .i64 fr, .int .i64 to]) ∧ Below w0.heap.size w0 w' := by
 refine ent1 Tryd.func44 rfl Tryd.ntmps44 fun Az Hz => ?_
 have m0 := MemOk.start (fun _ => False) w0
 refine zsr fun K0 hK0 => ?_
 refine wpList_plain rfl (fun K hK => ?_)
 refine e_box Hz m0 20 (cs := [_, _, _, _, _]) rfl rfl rfl ?_
 clear Hz Az m0; intro g1 Az w2 Hz m2 hB2 hg2
 clear hB2 hg2
 refine hK _ _ ?_; clear hK
 refine wpList_plain rfl (fun K hK => ?_)
 refine e_alloc Hz m2 21 fct6 rfl ?_
 clear Hz Az m2; intro g3 Az w4 Hz m4 hB4 hg4
 clear hB4 hg4
 refine hK _ _ ?_; clear hK
 refine znl (hK0 _ _ ?_); clear hK0
 refine zsr fun K1 hK1 => ?_
 refine goCh Hz (.fa 0 rfl U35 <| .lb m4 20 U3 rfl rfl rfl <| .fa 1 rfl U35 <| .lb m4 20 U3 rfl rfl rfl <| .fa 2 rfl U35 <| .lb m4 20 U2 rfl rfl rfl <| .fa 3 rfl U35 <| .lb m4 20 U2 rfl rfl rfl <| .build rfl fct6 fl96sho rfl (by dsimp only [setL, List.set] <;> rfl) <| .nil) ?_
 clear Hz Az; intro Az Hz
 refine wpList_plain rfl (fun K hK => ?_)
 refine e_storeW Hz m4 21 rfl rfl rfl rfl rfl fct5 ?_
 clear m4; intro w23 m23 hB23
 clear hB23
 refine hK _ _ ?_; clear hK
 refine znl (hK1 _ _ ?_); clear hK1
 refine wp_ret ?_
 try dsimp only [Exit.then, Exit.inBlock]
 refine (retC (fn := Tryd.f44) Hz m23 (i := 21) rfl rfl rfl U96 rfl fct5 ?_)
 exact ⟨rfl, m23.below⟩
theorem sright_yes (bl sz fr to : Int) (its : List (Int × List Int)) (pi : Option Addr) (ni ci : Nat) (w0 : World) (h1 : Rd (fun _ => True) w0 (.slice pi ni ci) (.l 2 (its.map itD))) (hs : StreamOk bl sz fr to its) :
   Calls Tryd.prog 23 #[.agg #[.int .i64 bl, .int .i64 sz, .int .i64 fr, .int .i64 to, .slice pi ni ci]] w0 fun e w' => e = .returned (.bool true) ∧ Below w0.heap.size w0 w' := by
 obtain rfl : ni = its.length := by obtain ⟨pq, cq, hv, _⟩ := h1.l_shape; injection hv with _ e2 _; rw [List.length_map] at e2; exact e2
 refine ent1 Tryd.func23 rfl Tryd.ntmps23 fun Az Hz => ?_
 have m0 := MemOk.start (fun _ => False) w0
 have hil : its.length ≤ 256 := hs.len
 refine zsr fun K0 hK0 => ?_
 refine wpList_plain rfl (fun K hK => ?_)
 refine e_box Hz m0 20 (cs := [_, _, _, _, _]) rfl rfl rfl ?_
 clear Hz Az m0; intro g1 Az w2 Hz m2 hB2 hg2
 clear hB2 hg2
 refine hK _ _ ?_; clear hK
 refine goCh Hz (.assign rfl .nil) ?_
 clear Hz Az; intro Az Hz
 refine znl (hK0 _ _ ?_); clear hK0
 refine wp_seq_k (fun K1 hK1 => ?_)
 refine zsr fun K2 hK2 => ?_
 refine goCh Hz (.loadBR m2 (i := 20) rfl rfl U35 rfl fct7 (by simp) (by dsimp only [List.drop, List.take] <;> rfl) .nil) ?_
 clear Hz Az; intro Az Hz
 refine wpList_plain rfl (fun K hK => ?_)
 refine e_call Hz Tryd.func44 rfl rfl rfl rfl (headOf_any _ _ _ _ _ _ _ _) ?_
 rintro e w6 ⟨rfl, hb6⟩
 have m7 := m2.later hb6
 clear m2
 clear hb6
 refine ⟨_, rfl, ?_⟩; clear Hz Az; intro Az Hz
 refine hK _ _ ?_; clear hK
 refine wpList_plain rfl (fun K hK => ?_)
 refine e_call Hz Tryd.func45 rfl rfl rfl rfl (headR_yes _ _ _ _ _ hs.b hs.z hs.f hs.t hs.ft) ?_
 rintro e w9 ⟨rfl, hb9⟩
 have m10 := m7.later hb9
 clear m7
 clear hb9
 refine ⟨_, rfl, ?_⟩; clear Hz Az; intro Az Hz
 refine hK _ _ ?_; clear hK
 refine goCh Hz (.not rfl <| .move rfl <| .faZ 2 rfl U35 <| .loadB1Z m10 (i := 20) rfl rfl rfl U2 rfl <| .eqlZ rfl rfl <| .moveZ rfl <| .nil) ?_
 clear Hz Az; intro Az Hz
 refine bool_cases Hz (t := 14) rfl ?_ ?_
 ·
  clear Hz; intro hb18 Hz; try simp only [QQ, Qax] at hb18
  have hfl := hs.l (by omega)
  refine goCh Hz (.faZ 4 rfl U35 <| .loadB1Z m10 (i := 20) rfl rfl rfl U33 rfl <| .lenZ rfl U33 <| .faZ 0 rfl U35 <| .loadB1Z m10 (i := 20) rfl rfl rfl U3 rfl <| .neqZ rfl rfl <| .pickTZ rfl rfl <| .pickF rfl rfl <| .nil) ?_
  clear Hz Az; intro Az Hz
  refine znl (hK2 _ _ ?_); clear hK2
  refine bool_cases Hz (t := 22) rfl ?_ ?_
  · intro hb _; exact absurd hb (by simp; omega)
  clear Hz; intro _ Hz
  refine wp_cond_false (Hz.ev (x := .tmp 22) rfl) ?_
  refine zss (hK1 _ _ ?_); clear hK1
  replace Hz : Has 52 [(1, _), (2, _)] Az := Hz.only [1, 2]
  refine regS Hz (.assign rfl <| .nil) ?_
  clear Hz Az; intro Az Hz
  refine wp_seq_k (fun K3 hK3 => ?_)
  refine regS Hz (.fa 4 rfl U35 <| .lb m10 20 U33 rfl rfl rfl <| .len rfl U33 <| .move rfl <| .nil) ?_
  clear Hz Az; intro Az Hz
  refine wp_block ?_
  refine wp_loop_ghost (fun g a w => ∃ (k B : Nat), k ≤ its.length ∧ g = its.length - k ∧ Has 52 [(1, .pointer (some ⟨B, 0, none⟩)), (3, .int .i64 (lastB its k)), (24, .slice pi its.length ci), (25, .int .i64 its.length), (26, .int .i64 k)] a ∧ MemOk (cn w0) w0 [(9, .box B 35 [.int .i64 bl, .int .i64 sz, .int .i64 fr, .int .i64 to, .slice pi its.length ci])] w) (its.length) ?_ ?_
  · exact ⟨0, _, Nat.zero_le _, rfl, Hz.only [1, 3, 24, 25, 26], m10.ren [(9, 20)] (by decide)⟩
  clear Hz m10
  rintro g Az w34 ⟨k, B, hkl, hg, Hz, m34⟩
  refine regS Hz (.lss rfl rfl <| .nil) ?_
  clear Hz Az; intro Az Hz
  refine wp_seq_k (fun K4 hK4 => ?_)
  refine bool_cases Hz (t := 27) rfl ?_ ?_
  ·
   clear Hz; intro hb36 Hz; try simp only [QQ, Qax] at hb36
   have hk : k < its.length := by have := hb36; first | omega | (simp at this; omega)
   obtain ⟨⟨xb, xd⟩, hes⟩ : ∃ e, its[k]? = some e := ⟨_, List.getElem?_eq_getElem hk⟩
   obtain ⟨hx1, hx2, hx3⟩ := hs.i k _ hes
   dsimp only at hx1 hx2 hx3
   refine wp_cond_true (Hz.ev (x := .tmp 27) rfl) ?_
   refine zss (hK4 _ _ ?_); clear hK4
   refine wp_seq_k (fun K5 hK5 => ?_)
   refine wp_block ?_
   refine zsr fun K6 hK6 => ?_
   obtain ⟨gx38, ox38, vx38, hp38, hl38, hR38, hrg38⟩ := h1.extA (k) (r := [.v (.int .i64 xb), .ns .u8 xd]) (itD_get hes)
   cases hp38; clear hl38
   rcases hR38 with _ | ⟨hd38_0, _ | ⟨hd38_1, _ | _⟩⟩
   obtain rfl := hd38_0.v_out
   clear hd38_0
   obtain ⟨p39, c39, hv39, hw39⟩ := hd38_1.ns_shape; subst hv39
   refine goCh Hz (.c rfl (fun _ h => y_idx h rfl rfl U33 fct2 (k) rfl hk) <| .loadAt (hrg38 m34 rfl) rfl U58 rfl fct2 <| .nil) ?_
   clear Hz Az; intro Az Hz
   refine wpList_plain rfl (fun K hK => ?_)
   refine e_alloc Hz m34 101 fct3 rfl ?_
   clear Hz Az m34; intro g42 Az w43 Hz m43 hB43 hg43
   clear hB43 hg43
   refine hK _ _ ?_; clear hK
   refine wpList_plain rfl (fun K hK => ?_)
   refine e_storeW Hz m43 101 rfl rfl rfl rfl rfl fct2 ?_
   clear m43; intro w44 m44 hB44
   clear hB44
   refine hK _ _ ?_; clear hK
   refine znl (hK6 _ _ ?_); clear hK6
   refine wp_seq_k (fun K7 hK7 => ?_)
   refine zsr fun K8 hK8 => ?_
   refine goCh Hz (.fa 0 rfl U58 <| .lb m44 101 U3 rfl rfl rfl <| .move rfl <| .leq rfl rfl <| .move rfl <| .nil) ?_
   clear Hz Az; intro Az Hz
   refine bool_cases Hz (t := 34) rfl ?_ ?_
   · intro hb _; exact absurd hb (by simp; omega)
   clear Hz; intro _ Hz
   refine goCh Hz (.faZ 0 rfl U58 <| .loadB1Z m44 (i := 101) rfl rfl rfl U3 rfl <| .faZ 0 rfl U35 <| .loadB1Z m44 (i := 9) rfl rfl rfl U3 rfl <| .geqZ rfl rfl <| .pickF rfl rfl <| .move rfl <| .nil) ?_
   clear Hz Az; intro Az Hz
   refine bool_cases Hz (t := 41) rfl ?_ ?_
   · intro hb _; exact absurd hb (by simp; omega)
   clear Hz; intro _ Hz
   refine goCh Hz (.faZ 1 rfl U58 <| .loadB1Z m44 (i := 101) rfl rfl rfl U22 rfl <| .lenZ rfl U22 <| .faZ 1 rfl U35 <| .loadB1Z m44 (i := 9) rfl rfl rfl U3 rfl <| .neqZ rfl rfl <| .pickF rfl rfl <| .nil) ?_
   clear Hz Az; intro Az Hz
   refine znl (hK8 _ _ ?_); clear hK8
   refine bool_cases Hz (t := 48) rfl ?_ ?_
   · intro hb _; exact absurd hb (by simp; omega)
   clear Hz; intro _ Hz
   refine wp_cond_false (Hz.ev (x := .tmp 48) rfl) ?_
   refine zss (hK7 _ _ ?_); clear hK7
   replace Hz : Has 52 [(1, _), (3, _), (24, _), (25, _), (26, _), (5, _)] Az := Hz.only [1, 3, 24, 25, 26, 5]
   refine wp_region_lit ?_
   refine goCh Hz (.fa 0 rfl U58 <| .lb m44 101 U3 rfl rfl rfl <| .assign rfl <| .nil) ?_
   clear Hz Az; intro Az Hz
   refine znl (hK5 _ _ ?_); clear hK5
   refine wp_region_lit ?_
   refine goCh Hz (.add rfl rfl (r := ((k + 1 : Nat) : Int)) (by rw [IntWalk.i64_in _ (by omega)]; omega) <| .move rfl <| .nil) ?_
   clear Hz Az; intro Az Hz
   refine wpList_nil ?_
   show ∃ n', n' < _ ∧ _
   have hlb : xb = lastB its (k + 1) := (lastB_next hes).symm
   rw [hlb] at Hz
   exact ⟨its.length - (k + 1), by omega, k + 1, _, by omega, rfl, Hz.only [1, 3, 24, 25, 26], m44.ren [(9, 9)] (by decide)⟩
  clear Hz; intro hb36 Hz; try simp only [QQ, Qax] at hb36
  refine wp_cond_false (Hz.ev (x := .tmp 27) rfl) ?_
  refine wp_exit ?_
  refine hK3 _ _ ?_; clear hK3
  refine regS Hz (.assign rfl <| .nil) ?_
  clear Hz Az; intro Az Hz
  refine wp_ret ?_
  try dsimp only [Exit.then, Exit.inBlock]
  refine (ret1 (fn := Tryd.f23) Hz rfl rfl ?_)
  exact ⟨by first | rfl | (simp; done) | (simp; omega), m34.below⟩
 clear Hz; intro hb18 Hz; try simp only [QQ, Qax] at hb18
 refine goCh Hz (.sk <| .sk <| .sk <| .sk <| .sk <| .sk <| .pickFZ rfl rfl <| .pickF rfl rfl <| .nil) ?_
 clear Hz Az; intro Az Hz
 refine znl (hK2 _ _ ?_); clear hK2
 refine wp_cond_false (Hz.ev (x := .tmp 22) rfl) ?_
 refine zss (hK1 _ _ ?_); clear hK1
 replace Hz : Has 52 [(1, _), (2, _)] Az := Hz.only [1, 2]
 refine regS Hz (.assign rfl <| .nil) ?_
 clear Hz Az; intro Az Hz
 refine wp_seq_k (fun K9 hK9 => ?_)
 refine regS Hz (.fa 4 rfl U35 <| .lb m10 20 U33 rfl rfl rfl <| .len rfl U33 <| .move rfl <| .nil) ?_
 clear Hz Az; intro Az Hz
 refine wp_block ?_
 refine wp_loop_ghost (fun g a w => ∃ (k B : Nat), k ≤ its.length ∧ g = its.length - k ∧ Has 52 [(1, .pointer (some ⟨B, 0, none⟩)), (3, .int .i64 (lastB its k)), (24, .slice pi its.length ci), (25, .int .i64 its.length), (26, .int .i64 k)] a ∧ MemOk (cn w0) w0 [(9, .box B 35 [.int .i64 bl, .int .i64 sz, .int .i64 fr, .int .i64 to, .slice pi its.length ci])] w) (its.length) ?_ ?_
 · exact ⟨0, _, Nat.zero_le _, rfl, Hz.only [1, 3, 24, 25, 26], m10.ren [(9, 20)] (by decide)⟩
 clear Hz m10
 rintro g Az w93 ⟨k, B, hkl, hg, Hz, m93⟩
 refine regS Hz (.lss rfl rfl <| .nil) ?_
 clear Hz Az; intro Az Hz
 refine wp_seq_k (fun K10 hK10 => ?_)
 refine bool_cases Hz (t := 27) rfl ?_ ?_
 ·
  clear Hz; intro hb95 Hz; try simp only [QQ, Qax] at hb95
  have hk : k < its.length := by have := hb95; first | omega | (simp at this; omega)
  obtain ⟨⟨xb, xd⟩, hes⟩ : ∃ e, its[k]? = some e := ⟨_, List.getElem?_eq_getElem hk⟩
  obtain ⟨hx1, hx2, hx3⟩ := hs.i k _ hes
  dsimp only at hx1 hx2 hx3
  refine wp_cond_true (Hz.ev (x := .tmp 27) rfl) ?_
  refine zss (hK10 _ _ ?_); clear hK10
  refine wp_seq_k (fun K11 hK11 => ?_)
  refine wp_block ?_
  refine zsr fun K12 hK12 => ?_
  obtain ⟨gx97, ox97, vx97, hp97, hl97, hR97, hrg97⟩ := h1.extA (k) (r := [.v (.int .i64 xb), .ns .u8 xd]) (itD_get hes)
  cases hp97; clear hl97
  rcases hR97 with _ | ⟨hd97_0, _ | ⟨hd97_1, _ | _⟩⟩
  obtain rfl := hd97_0.v_out
  clear hd97_0
  obtain ⟨p98, c98, hv98, hw98⟩ := hd97_1.ns_shape; subst hv98
  refine goCh Hz (.c rfl (fun _ h => y_idx h rfl rfl U33 fct2 (k) rfl hk) <| .loadAt (hrg97 m93 rfl) rfl U58 rfl fct2 <| .nil) ?_
  clear Hz Az; intro Az Hz
  refine wpList_plain rfl (fun K hK => ?_)
  refine e_alloc Hz m93 101 fct3 rfl ?_
  clear Hz Az m93; intro g101 Az w102 Hz m102 hB102 hg102
  clear hB102 hg102
  refine hK _ _ ?_; clear hK
  refine wpList_plain rfl (fun K hK => ?_)
  refine e_storeW Hz m102 101 rfl rfl rfl rfl rfl fct2 ?_
  clear m102; intro w103 m103 hB103
  clear hB103
  refine hK _ _ ?_; clear hK
  refine znl (hK12 _ _ ?_); clear hK12
  refine wp_seq_k (fun K13 hK13 => ?_)
  refine zsr fun K14 hK14 => ?_
  refine goCh Hz (.fa 0 rfl U58 <| .lb m103 101 U3 rfl rfl rfl <| .move rfl <| .leq rfl rfl <| .move rfl <| .nil) ?_
  clear Hz Az; intro Az Hz
  refine bool_cases Hz (t := 34) rfl ?_ ?_
  · intro hb _; exact absurd hb (by simp; omega)
  clear Hz; intro _ Hz
  refine goCh Hz (.faZ 0 rfl U58 <| .loadB1Z m103 (i := 101) rfl rfl rfl U3 rfl <| .faZ 0 rfl U35 <| .loadB1Z m103 (i := 9) rfl rfl rfl U3 rfl <| .geqZ rfl rfl <| .pickF rfl rfl <| .move rfl <| .nil) ?_
  clear Hz Az; intro Az Hz
  refine bool_cases Hz (t := 41) rfl ?_ ?_
  · intro hb _; exact absurd hb (by simp; omega)
  clear Hz; intro _ Hz
  refine goCh Hz (.faZ 1 rfl U58 <| .loadB1Z m103 (i := 101) rfl rfl rfl U22 rfl <| .lenZ rfl U22 <| .faZ 1 rfl U35 <| .loadB1Z m103 (i := 9) rfl rfl rfl U3 rfl <| .neqZ rfl rfl <| .pickF rfl rfl <| .nil) ?_
  clear Hz Az; intro Az Hz
  refine znl (hK14 _ _ ?_); clear hK14
  refine bool_cases Hz (t := 48) rfl ?_ ?_
  · intro hb _; exact absurd hb (by simp; omega)
  clear Hz; intro _ Hz
  refine wp_cond_false (Hz.ev (x := .tmp 48) rfl) ?_
  refine zss (hK13 _ _ ?_); clear hK13
  replace Hz : Has 52 [(1, _), (3, _), (24, _), (25, _), (26, _), (5, _)] Az := Hz.only [1, 3, 24, 25, 26, 5]
  refine wp_region_lit ?_
  refine goCh Hz (.fa 0 rfl U58 <| .lb m103 101 U3 rfl rfl rfl <| .assign rfl <| .nil) ?_
  clear Hz Az; intro Az Hz
  refine znl (hK11 _ _ ?_); clear hK11
  refine wp_region_lit ?_
  refine goCh Hz (.add rfl rfl (r := ((k + 1 : Nat) : Int)) (by rw [IntWalk.i64_in _ (by omega)]; omega) <| .move rfl <| .nil) ?_
  clear Hz Az; intro Az Hz
  refine wpList_nil ?_
  show ∃ n', n' < _ ∧ _
  have hlb : xb = lastB its (k + 1) := (lastB_next hes).symm
  rw [hlb] at Hz
  exact ⟨its.length - (k + 1), by omega, k + 1, _, by omega, rfl, Hz.only [1, 3, 24, 25, 26], m103.ren [(9, 9)] (by decide)⟩
 clear Hz; intro hb95 Hz; try simp only [QQ, Qax] at hb95
 refine wp_cond_false (Hz.ev (x := .tmp 27) rfl) ?_
 refine wp_exit ?_
 refine hK9 _ _ ?_; clear hK9
 refine regS Hz (.assign rfl <| .nil) ?_
 clear Hz Az; intro Az Hz
 refine wp_ret ?_
 try dsimp only [Exit.then, Exit.inBlock]
 refine (ret1 (fn := Tryd.f23) Hz rfl rfl ?_)
 exact ⟨by first | rfl | (simp; done) | (simp; omega), m93.below⟩
end Go.Proofs.YtflcgpajodfkoaaDoor.K
