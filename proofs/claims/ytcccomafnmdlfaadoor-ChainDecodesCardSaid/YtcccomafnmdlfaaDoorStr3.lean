/- stream: which may be, of any items. -/
import Derived.Test.YtcccomafnmdlfaaDoorStr2
namespace Go.Proofs.YtcccomafnmdlfaaDoor.K
open Go.ChangeShapes Go.WideShapes Go.ChangeAt Go.RowKit
set_option linter.unusedVariables false
set_option linter.unusedSimpArgs false
def HeadOk (bl sz fr to : Int) : Prop := (1 ≤ bl ∧ bl ≤ 256) ∧ (1 ≤ sz ∧ sz ≤ 32) ∧ -1 ≤ fr ∧ (0 ≤ to ∧ to ≤ 1099511627776) ∧ fr ≤ to
instance (bl sz fr to : Int) : Decidable (HeadOk bl sz fr to) := by unfold HeadOk; infer_instance
theorem StreamOk.head {bl sz fr to : Int} {its : List (Int × List Int)} (h : StreamOk bl sz fr to its) : HeadOk bl sz fr to := ⟨h.b, h.z, h.f, h.t, h.ft⟩
set_option maxRecDepth 100000
set_option maxHeartbeats 4000000
theorem headR_no (bl sz fr to : Int) (w0 : World) (hno : ¬ HeadOk bl sz fr to) :
   Calls Tryd.prog 49 #[.agg #[.int .i64 bl, .int .i64 sz, .int .i64 fr, .int .i64 to]] w0 fun e w' => e = .returned (.bool false) ∧ Below w0.heap.size w0 w' := by
 refine ent1 Tryd.func49 rfl Tryd.ntmps49 fun Az Hz => ?_
 have m0 := MemOk.start (fun _ => False) w0
 refine zsr fun K0 hK0 => ?_
 refine plz (e_box Hz m0 20 (cs := [_, _, _, _]) rfl rfl rfl fun g1 Az w2 Hz m2 _ _ => ?_)
 refine gz hK0 Hz (.assign rfl .nil) fun Az Hz => ?_
 refine zsr fun K1 hK1 => ?_
 refine goCh Hz (.fa 0 rfl U105 <| .lb m2 20 U3 rfl rfl rfl <| .geq rfl rfl <| .move rfl .nil) fun Az Hz => ?_
 refine bc Hz 6 ?_ ?_
 ·
  intro hb12 Hz; try simp only [QQ, Qax] at hb12
  refine goCh Hz (.faZ 0 rfl U105 <| .loadB1Z m2 (i := 20) rfl rfl rfl U3 rfl <| .leqZ rfl rfl <| .pickT rfl rfl <| .move rfl .nil) fun Az Hz => ?_
  refine bc Hz 11 ?_ ?_
  ·
   intro hb18 Hz; try simp only [QQ, Qax] at hb18
   refine goCh Hz (.faZ 1 rfl U105 <| .loadB1Z m2 (i := 20) rfl rfl rfl U3 rfl <| .geqZ rfl rfl <| .pickT rfl rfl <| .move rfl .nil) fun Az Hz => ?_
   refine bc Hz 16 ?_ ?_
   ·
    intro hb24 Hz; try simp only [QQ, Qax] at hb24
    refine goCh Hz (.faZ 1 rfl U105 <| .loadB1Z m2 (i := 20) rfl rfl rfl U3 rfl <| .leqZ rfl rfl <| .pickT rfl rfl <| .move rfl .nil) fun Az Hz => ?_
    refine bc Hz 21 ?_ ?_
    ·
     intro hb30 Hz; try simp only [QQ, Qax] at hb30
     refine goCh Hz (.faZ 2 rfl U105 <| .loadB1Z m2 (i := 20) rfl rfl rfl U2 rfl <| .geqZ rfl rfl <| .pickT rfl rfl <| .move rfl .nil) fun Az Hz => ?_
     refine bc Hz 26 ?_ ?_
     ·
      intro hb36 Hz; try simp only [QQ, Qax] at hb36
      refine goCh Hz (.faZ 3 rfl U105 <| .loadB1Z m2 (i := 20) rfl rfl rfl U2 rfl <| .geqZ rfl rfl <| .pickT rfl rfl <| .move rfl .nil) fun Az Hz => ?_
      refine bc Hz 31 ?_ ?_
      ·
       intro hb42 Hz; try simp only [QQ, Qax] at hb42
       refine goCh Hz (.faZ 3 rfl U105 <| .loadB1Z m2 (i := 20) rfl rfl rfl U2 rfl <| .leqZ rfl rfl <| .pickT rfl rfl <| .move rfl .nil) fun Az Hz => ?_
       refine bc Hz 36 ?_ ?_
       ·
        intro hb48 Hz; try simp only [QQ, Qax] at hb48
        refine gz hK1 Hz (.faZ 2 rfl U105 <| .loadB1Z m2 (i := 20) rfl rfl rfl U2 rfl <| .faZ 3 rfl U105 <| .loadB1Z m2 (i := 20) rfl rfl rfl U2 rfl <| .leqZ rfl rfl <| .pickT rfl rfl <| .assign rfl <| .nil) fun Az Hz => ?_
        refine rt1 Hz ?_
        exact ⟨by (first | rfl | (simp; unfold HeadOk at hno; omega)), m2.below⟩
       intro hb48 Hz; try simp only [QQ, Qax] at hb48
       refine gz hK1 Hz (.sk <| .sk <| .sk <| .sk <| .sk <| .pickF rfl rfl <| .assign rfl <| .nil) fun Az Hz => ?_
       refine rt1 Hz ?_
       exact ⟨by (first | rfl | (simp; unfold HeadOk at hno; omega)), m2.below⟩
      intro hb42 Hz; try simp only [QQ, Qax] at hb42
      refine gz hK1 Hz (.sk <| .sk <| .sk <| .pickF rfl rfl <| .move rfl <| .sk <| .sk <| .sk <| .sk <| .sk <| .pickF rfl rfl <| .assign rfl <| .nil) fun Az Hz => ?_
      refine rt1 Hz ?_
      exact ⟨by (first | rfl | (simp; unfold HeadOk at hno; omega)), m2.below⟩
     intro hb36 Hz; try simp only [QQ, Qax] at hb36
     refine gz hK1 Hz (.sk <| .sk <| .sk <| .pickF rfl rfl <| .move rfl <| .sk <| .sk <| .sk <| .pickF rfl rfl <| .move rfl <| .sk <| .sk <| .sk <| .sk <| .sk <| .pickF rfl rfl <| .assign rfl <| .nil) fun Az Hz => ?_
     refine rt1 Hz ?_
     exact ⟨by (first | rfl | (simp; unfold HeadOk at hno; omega)), m2.below⟩
    intro hb30 Hz; try simp only [QQ, Qax] at hb30
    refine gz hK1 Hz (.sk <| .sk <| .sk <| .pickF rfl rfl <| .move rfl <| .sk <| .sk <| .sk <| .pickF rfl rfl <| .move rfl <| .sk <| .sk <| .sk <| .pickF rfl rfl <| .move rfl <| .sk <| .sk <| .sk <| .sk <| .sk <| .pickF rfl rfl <| .assign rfl <| .nil) fun Az Hz => ?_
    refine rt1 Hz ?_
    exact ⟨by (first | rfl | (simp; unfold HeadOk at hno; omega)), m2.below⟩
   intro hb24 Hz; try simp only [QQ, Qax] at hb24
   refine gz hK1 Hz (.sk <| .sk <| .sk <| .pickF rfl rfl <| .move rfl <| .sk <| .sk <| .sk <| .pickF rfl rfl <| .move rfl <| .sk <| .sk <| .sk <| .pickF rfl rfl <| .move rfl <| .sk <| .sk <| .sk <| .pickF rfl rfl <| .move rfl <| .sk <| .sk <| .sk <| .sk <| .sk <| .pickF rfl rfl <| .assign rfl <| .nil) fun Az Hz => ?_
   refine rt1 Hz ?_
   exact ⟨by (first | rfl | (simp; unfold HeadOk at hno; omega)), m2.below⟩
  intro hb18 Hz; try simp only [QQ, Qax] at hb18
  refine gz hK1 Hz (.sk <| .sk <| .sk <| .pickF rfl rfl <| .move rfl <| .sk <| .sk <| .sk <| .pickF rfl rfl <| .move rfl <| .sk <| .sk <| .sk <| .pickF rfl rfl <| .move rfl <| .sk <| .sk <| .sk <| .pickF rfl rfl <| .move rfl <| .sk <| .sk <| .sk <| .pickF rfl rfl <| .move rfl <| .sk <| .sk <| .sk <| .sk <| .sk <| .pickF rfl rfl <| .assign rfl <| .nil) fun Az Hz => ?_
  refine rt1 Hz ?_
  exact ⟨by (first | rfl | (simp; unfold HeadOk at hno; omega)), m2.below⟩
 intro hb12 Hz; try simp only [QQ, Qax] at hb12
 refine gz hK1 Hz (.sk <| .sk <| .sk <| .pickF rfl rfl <| .move rfl <| .sk <| .sk <| .sk <| .pickF rfl rfl <| .move rfl <| .sk <| .sk <| .sk <| .pickF rfl rfl <| .move rfl <| .sk <| .sk <| .sk <| .pickF rfl rfl <| .move rfl <| .sk <| .sk <| .sk <| .pickF rfl rfl <| .move rfl <| .sk <| .sk <| .sk <| .pickF rfl rfl <| .move rfl <| .sk <| .sk <| .sk <| .sk <| .sk <| .pickF rfl rfl <| .assign rfl <| .nil) fun Az Hz => ?_
 refine rt1 Hz ?_
 exact ⟨by (first | rfl | (simp; unfold HeadOk at hno; omega)), m2.below⟩
theorem sright_hno (bl sz fr to : Int) (pi : Option Addr) (ni ci : Nat) (w0 : World) (hno : ¬ HeadOk bl sz fr to) :
   Calls Tryd.prog 28 #[.agg #[.int .i64 bl, .int .i64 sz, .int .i64 fr, .int .i64 to, .slice pi ni ci]] w0 fun e w' => e = .returned (.bool false) ∧ Below w0.heap.size w0 w' := by
 refine ent1 Tryd.func28 rfl Tryd.ntmps28 fun Az Hz => ?_
 have m0 := MemOk.start (fun _ => False) w0
 refine zsr fun K0 hK0 => ?_
 refine plz (e_box Hz m0 20 (cs := [_, _, _, _, _]) rfl rfl rfl fun g1 Az w2 Hz m2 _ _ => ?_)
 refine gz hK0 Hz (.assign rfl .nil) fun Az Hz => ?_
 refine wsk fun K1 hK1 => ?_
 refine zsr fun K2 hK2 => ?_
 refine goCh Hz (.loadBR m2 (i := 20) rfl rfl U38 rfl fct2 (by simp) (by dsimp only [List.drop, List.take] <;> rfl) .nil) fun Az Hz => ?_
 refine plz (ecb Hz Tryd.func48 rfl m2 (headOf_any _ _ _ _ _ _ _ _) fun Az w6 Hz m7 => ?_)
 refine plz (ecb Hz Tryd.func49 rfl m7 (headR_no _ _ _ _ _ hno) fun Az w9 Hz m10 => ?_)
 refine goCh Hz (.not rfl <| .move rfl <| .sk <| .sk <| .sk <| .sk .nil) fun Az Hz => ?_
 refine st_skipU Hz rfl rfl rfl rfl fun Az Hz => ?_
 refine st_skipU Hz rfl rfl rfl rfl fun Az Hz => ?_
 refine st_skipU Hz rfl rfl rfl rfl fun Az Hz => ?_
 refine st_skipU Hz rfl rfl rfl rfl fun Az Hz => ?_
 refine st_skipU Hz rfl rfl rfl rfl fun Az Hz => ?_
 refine st_skipU Hz rfl rfl rfl rfl fun Az Hz => ?_
 refine gz hK2 Hz (.sk <| .pickT rfl rfl <| .nil) fun Az Hz => ?_
 refine wct Hz ?_
 replace Hz := Hz.oz [1, 2]
 refine regS Hz (.assign rfl .nil) fun Az Hz => ?_
 refine rt1 Hz ?_
 exact ⟨rfl, m10.below⟩
theorem sright_any (bl sz fr to : Int) (its : List (Int × List Int)) (pi : Option Addr) (ni ci : Nat) (w0 : World) (h1 : Rd (fun _ => True) w0 (.slice pi ni ci) (.l 2 (its.map itD))) (hs : HeadOk bl sz fr to) (hil : its.length ≤ 256) :
   Calls Tryd.prog 28 #[.agg #[.int .i64 bl, .int .i64 sz, .int .i64 fr, .int .i64 to, .slice pi ni ci]] w0 fun e w' => ∃ b, e = .returned (.bool b) ∧ (b = true ↔ StreamOk bl sz fr to its) ∧ Below w0.heap.size w0 w' := by
 obtain rfl : ni = its.length := by obtain ⟨pq, c9, hv, _⟩ := h1.l_shape; injection hv with _ e2 _; rw [List.length_map] at e2; exact e2
 refine ent1 Tryd.func28 rfl Tryd.ntmps28 fun Az Hz => ?_
 have m0 := MemOk.start (fun _ => False) w0
 refine zsr fun K0 hK0 => ?_
 refine plz (e_box Hz m0 20 (cs := [_, _, _, _, _]) rfl rfl rfl fun g1 Az w2 Hz m2 _ _ => ?_)
 refine gz hK0 Hz (.assign rfl .nil) fun Az Hz => ?_
 refine wsk fun K1 hK1 => ?_
 refine zsr fun K2 hK2 => ?_
 refine goCh Hz (.loadBR m2 (i := 20) rfl rfl U38 rfl fct2 (by simp) (by dsimp only [List.drop, List.take] <;> rfl) .nil) fun Az Hz => ?_
 refine plz (ecb Hz Tryd.func48 rfl m2 (headOf_any _ _ _ _ _ _ _ _) fun Az w6 Hz m7 => ?_)
 refine plz (ecb Hz Tryd.func49 rfl m7 (headR_yes _ _ _ _ _ hs.1 hs.2.1 hs.2.2.1 hs.2.2.2.1 hs.2.2.2.2) fun Az w9 Hz m10 => ?_)
 refine goCh Hz (.not rfl <| .move rfl <| .faZ 2 rfl U38 <| .loadB1Z m10 (i := 20) rfl rfl rfl U2 rfl <| .eqlZ rfl rfl <| .moveZ rfl .nil) fun Az Hz => ?_
 refine bc Hz 14 ?_ ?_
 ·
  intro hb18 Hz; try simp only [QQ, Qax] at hb18
  refine gz hK2 Hz (.faZ 4 rfl U38 <| .loadB1Z m10 (i := 20) rfl rfl rfl U36 rfl <| .lenZ rfl U36 <| .faZ 0 rfl U38 <| .loadB1Z m10 (i := 20) rfl rfl rfl U3 rfl <| .neqZ rfl rfl <| .pickTZ rfl rfl <| .pickF rfl rfl <| .nil) fun Az Hz => ?_
  refine bc Hz 22 ?_ ?_
  ·
   intro hb27 Hz; try simp only [QQ, Qax] at hb27
   refine wct Hz ?_
   replace Hz := Hz.oz [1, 2, 14, 22]
   refine regS Hz (.assign rfl .nil) fun Az Hz => ?_
   refine rt1 Hz ?_
   exact ⟨false, rfl, iff_of_false (by simp) (fun hh => by have h9 := hh.l; omega), m10.below⟩
  intro hb27 Hz; try simp only [QQ, Qax] at hb27
  refine wcf Hz ?_
  refine zss (hK1 _ _ ?_)
  replace Hz := Hz.oz [1, 2, 14, 22]
  refine regS Hz (.assign rfl .nil) fun Az Hz => ?_
  refine wsk fun K3 hK3 => ?_
  refine regS Hz (.fa 4 rfl U38 <| .lb m10 20 U36 rfl rfl rfl <| .len rfl U36 <| .move rfl .nil) fun Az Hz => ?_
  refine wp_block ?_
  refine wp_loop_ghost (fun g a w => ∃ (k B : Nat), k ≤ its.length ∧ g = its.length - k ∧ (∀ j e, j < k → its[j]? = some e → lastB its j < e.1 ∧ e.1 < bl ∧ (e.2.length : Int) = sz) ∧ Has 52 [(1, .pointer (some ⟨B, 0, none⟩)), (3, .int .i64 (lastB its k)), (24, .slice pi its.length ci), (25, .int .i64 its.length), (26, .int .i64 k)] a ∧ MemOk (cn w0) w0 [(9, .box B 38 [.int .i64 bl, .int .i64 sz, .int .i64 fr, .int .i64 to, .slice pi its.length ci])] w) (its.length) ?_ ?_
  · exact ⟨0, _, Nat.zero_le _, rfl, (fun j e hj => by omega), Hz.only [1, 3, 24, 25, 26], m10.ren [(9, 20)] (by decide)⟩
  clear Hz m10
  rintro g Az w36 ⟨k, B, hkl, hg, hall, Hz, m36⟩
  refine regS Hz (.lss rfl rfl .nil) fun Az Hz => ?_
  refine wsk fun K4 hK4 => ?_
  refine bc Hz 27 ?_ ?_
  ·
   intro hb38 Hz; try simp only [QQ, Qax] at hb38
   have hk : k < its.length := by have := hb38; first | omega | (simp at this; omega)
   obtain ⟨⟨xb, xd⟩, hes⟩ : ∃ e, its[k]? = some e := ⟨_, List.getElem?_eq_getElem hk⟩
   refine wct Hz ?_
   refine zss (hK4 _ _ ?_)
   refine wsk fun K5 hK5 => ?_
   refine wp_block ?_
   refine zsr fun K6 hK6 => ?_
   obtain ⟨gx40, ox40, vx40, hp40, hl40, hR40, hrg40⟩ := h1.extA (k) (r := [.v (.int .i64 xb), .ns .u8 xd]) (itD_get hes)
   revert Hz
   cases hp40
   rcases hR40 with _ | ⟨hd40_0, _ | ⟨hd40_1, _ | _⟩⟩
   obtain rfl := hd40_0.v_out
   clear hd40_0
   obtain ⟨p41, c41, hv41, hw41⟩ := hd40_1.ns_shape; subst hv41
   intro Hz
   refine goCh Hz (.c rfl (fun _ h => y_idx h rfl rfl U36 fct1 (k) rfl hk) <| .loadAt (hrg40 m36 rfl) rfl U48 rfl fct1 .nil) fun Az Hz => ?_
   refine plz (e_alloc Hz m36 101 fct3 rfl fun g44 Az w45 Hz m45 _ _ => ?_)
   refine plz (stw Hz m45 101 fct1 fun w46 m46 _ => ?_)
   refine znl (hK6 _ _ ?_)
   refine wsk fun K7 hK7 => ?_
   refine zsr fun K8 hK8 => ?_
   refine goCh Hz (.fa 0 rfl U48 <| .lb m46 101 U3 rfl rfl rfl <| .move rfl <| .leq rfl rfl <| .move rfl .nil) fun Az Hz => ?_
   refine bc Hz 34 ?_ ?_
   ·
    intro hb57 Hz; try simp only [QQ, Qax] at hb57
    refine gz hK8 Hz (.sk <| .sk <| .sk <| .sk <| .sk <| .pickT rfl rfl <| .move rfl <| .sk <| .sk <| .sk <| .sk <| .sk <| .sk <| .pickT rfl rfl <| .nil) fun Az Hz => ?_
    refine wct Hz ?_
    replace Hz := Hz.oz [1, 3, 24, 25, 26, 5, 34, 41, 48]
    refine regS Hz (.assign rfl .nil) fun Az Hz => ?_
    refine rt1 Hz ?_
    exact ⟨false, rfl, iff_of_false (by simp) (fun hh => by have h9 := hh.i k _ hes; dsimp only at h9; omega), m46.below⟩
   intro hb57 Hz; try simp only [QQ, Qax] at hb57
   refine goCh Hz (.faZ 0 rfl U48 <| .loadB1Z m46 (i := 101) rfl rfl rfl U3 rfl <| .faZ 0 rfl U38 <| .loadB1Z m46 (i := 9) rfl rfl rfl U3 rfl <| .geqZ rfl rfl <| .pickF rfl rfl <| .move rfl .nil) fun Az Hz => ?_
   refine bc Hz 41 ?_ ?_
   ·
    intro hb81 Hz; try simp only [QQ, Qax] at hb81
    refine gz hK8 Hz (.sk <| .sk <| .sk <| .sk <| .sk <| .sk <| .pickT rfl rfl <| .nil) fun Az Hz => ?_
    refine wct Hz ?_
    replace Hz := Hz.oz [1, 3, 24, 25, 26, 5, 34, 41, 48]
    refine regS Hz (.assign rfl .nil) fun Az Hz => ?_
    refine rt1 Hz ?_
    exact ⟨false, rfl, iff_of_false (by simp) (fun hh => by have h9 := hh.i k _ hes; dsimp only at h9; omega), m46.below⟩
   intro hb81 Hz; try simp only [QQ, Qax] at hb81
   refine gz hK8 Hz (.faZ 1 rfl U48 <| .loadB1Z m46 (i := 101) rfl rfl rfl U22 rfl <| .lenZ rfl U22 <| .faZ 1 rfl U38 <| .loadB1Z m46 (i := 9) rfl rfl rfl U3 rfl <| .neqZ rfl rfl <| .pickF rfl rfl <| .nil) fun Az Hz => ?_
   refine bc Hz 48 ?_ ?_
   ·
    intro hb98 Hz; try simp only [QQ, Qax] at hb98
    refine wct Hz ?_
    replace Hz := Hz.oz [1, 3, 24, 25, 26, 5, 34, 41, 48]
    refine regS Hz (.assign rfl .nil) fun Az Hz => ?_
    refine rt1 Hz ?_
    exact ⟨false, rfl, iff_of_false (by simp) (fun hh => by have h9 := hh.i k _ hes; dsimp only at h9; omega), m46.below⟩
   intro hb98 Hz; try simp only [QQ, Qax] at hb98
   refine wcf Hz ?_
   refine zss (hK7 _ _ ?_)
   replace Hz := Hz.oz [1, 3, 24, 25, 26, 5, 34, 41, 48]
   refine wp_region_lit ?_
   refine gz hK5 Hz (.fa 0 rfl U48 <| .lb m46 101 U3 rfl rfl rfl <| .assign rfl <| .nil) fun Az Hz => ?_
   refine wp_region_lit ?_
   refine goCh Hz (.inc (k + 1) <| .move rfl .nil) fun Az Hz => ?_
   refine wpList_nil ?_
   show ∃ n', n' < _ ∧ _
   have hall2 : ∀ j e, j < k + 1 → its[j]? = some e → lastB its j < e.1 ∧ e.1 < bl ∧ (e.2.length : Int) = sz := (fun j e hj he => by
     rcases Nat.lt_succ_iff_lt_or_eq.1 hj with h9 | h9
     · exact hall j e h9 he
     subst h9; rw [hes] at he; obtain rfl := Option.some.inj he; exact ⟨by dsimp only; omega, by dsimp only; omega, by dsimp only; omega⟩)
   have hlb : xb = lastB its (k + 1) := (lastB_next hes).symm
   rw [hlb] at Hz
   exact ⟨its.length - (k + 1), by omega, k + 1, _, by omega, rfl, hall2, Hz.only [1, 3, 24, 25, 26], m46.ren [(9, 9)] (by decide)⟩
  intro hb38 Hz; try simp only [QQ, Qax] at hb38
  have hke : k = its.length := by have := hb38; first | omega | (simp at this; omega)
  refine wcf Hz ?_
  refine wp_exit ?_
  refine hK3 _ _ ?_
  refine regS Hz (.assign rfl .nil) fun Az Hz => ?_
  refine rt1 Hz ?_
  exact ⟨true, rfl, iff_of_true rfl ⟨hs.1, hs.2.1, hs.2.2.1, hs.2.2.2.1, hs.2.2.2.2, (fun _ => by first | omega | (simp at *; omega)), (fun j e he => hall j e (by rw [hke]; exact (List.getElem?_eq_some_iff.1 he).1) he), hil⟩, m36.below⟩
 intro hb18 Hz; try simp only [QQ, Qax] at hb18
 refine gz hK2 Hz (.sk <| .sk <| .sk <| .sk <| .sk <| .sk <| .pickFZ rfl rfl <| .pickF rfl rfl <| .nil) fun Az Hz => ?_
 refine wcf Hz ?_
 refine zss (hK1 _ _ ?_)
 replace Hz := Hz.oz [1, 2, 14, 22]
 refine regS Hz (.assign rfl .nil) fun Az Hz => ?_
 refine wsk fun K9 hK9 => ?_
 refine regS Hz (.fa 4 rfl U38 <| .lb m10 20 U36 rfl rfl rfl <| .len rfl U36 <| .move rfl .nil) fun Az Hz => ?_
 refine wp_block ?_
 refine wp_loop_ghost (fun g a w => ∃ (k B : Nat), k ≤ its.length ∧ g = its.length - k ∧ (∀ j e, j < k → its[j]? = some e → lastB its j < e.1 ∧ e.1 < bl ∧ (e.2.length : Int) = sz) ∧ Has 52 [(1, .pointer (some ⟨B, 0, none⟩)), (3, .int .i64 (lastB its k)), (24, .slice pi its.length ci), (25, .int .i64 its.length), (26, .int .i64 k)] a ∧ MemOk (cn w0) w0 [(9, .box B 38 [.int .i64 bl, .int .i64 sz, .int .i64 fr, .int .i64 to, .slice pi its.length ci])] w) (its.length) ?_ ?_
 · exact ⟨0, _, Nat.zero_le _, rfl, (fun j e hj => by omega), Hz.only [1, 3, 24, 25, 26], m10.ren [(9, 20)] (by decide)⟩
 clear Hz m10
 rintro g Az w122 ⟨k, B, hkl, hg, hall, Hz, m122⟩
 refine regS Hz (.lss rfl rfl .nil) fun Az Hz => ?_
 refine wsk fun K10 hK10 => ?_
 refine bc Hz 27 ?_ ?_
 ·
  intro hb124 Hz; try simp only [QQ, Qax] at hb124
  have hk : k < its.length := by have := hb124; first | omega | (simp at this; omega)
  obtain ⟨⟨xb, xd⟩, hes⟩ : ∃ e, its[k]? = some e := ⟨_, List.getElem?_eq_getElem hk⟩
  refine wct Hz ?_
  refine zss (hK10 _ _ ?_)
  refine wsk fun K11 hK11 => ?_
  refine wp_block ?_
  refine zsr fun K12 hK12 => ?_
  obtain ⟨gx126, ox126, vx126, hp126, hl126, hR126, hrg126⟩ := h1.extA (k) (r := [.v (.int .i64 xb), .ns .u8 xd]) (itD_get hes)
  revert Hz
  cases hp126
  rcases hR126 with _ | ⟨hd126_0, _ | ⟨hd126_1, _ | _⟩⟩
  obtain rfl := hd126_0.v_out
  clear hd126_0
  obtain ⟨p127, c127, hv127, hw127⟩ := hd126_1.ns_shape; subst hv127
  intro Hz
  refine goCh Hz (.c rfl (fun _ h => y_idx h rfl rfl U36 fct1 (k) rfl hk) <| .loadAt (hrg126 m122 rfl) rfl U48 rfl fct1 .nil) fun Az Hz => ?_
  refine plz (e_alloc Hz m122 101 fct3 rfl fun g130 Az w131 Hz m131 _ _ => ?_)
  refine plz (stw Hz m131 101 fct1 fun w132 m132 _ => ?_)
  refine znl (hK12 _ _ ?_)
  refine wsk fun K13 hK13 => ?_
  refine zsr fun K14 hK14 => ?_
  refine goCh Hz (.fa 0 rfl U48 <| .lb m132 101 U3 rfl rfl rfl <| .move rfl <| .leq rfl rfl <| .move rfl .nil) fun Az Hz => ?_
  refine bc Hz 34 ?_ ?_
  ·
   intro hb143 Hz; try simp only [QQ, Qax] at hb143
   refine gz hK14 Hz (.sk <| .sk <| .sk <| .sk <| .sk <| .pickT rfl rfl <| .move rfl <| .sk <| .sk <| .sk <| .sk <| .sk <| .sk <| .pickT rfl rfl <| .nil) fun Az Hz => ?_
   refine wct Hz ?_
   replace Hz := Hz.oz [1, 3, 24, 25, 26, 5, 34, 41, 48]
   refine regS Hz (.assign rfl .nil) fun Az Hz => ?_
   refine rt1 Hz ?_
   exact ⟨false, rfl, iff_of_false (by simp) (fun hh => by have h9 := hh.i k _ hes; dsimp only at h9; omega), m132.below⟩
  intro hb143 Hz; try simp only [QQ, Qax] at hb143
  refine goCh Hz (.faZ 0 rfl U48 <| .loadB1Z m132 (i := 101) rfl rfl rfl U3 rfl <| .faZ 0 rfl U38 <| .loadB1Z m132 (i := 9) rfl rfl rfl U3 rfl <| .geqZ rfl rfl <| .pickF rfl rfl <| .move rfl .nil) fun Az Hz => ?_
  refine bc Hz 41 ?_ ?_
  ·
   intro hb167 Hz; try simp only [QQ, Qax] at hb167
   refine gz hK14 Hz (.sk <| .sk <| .sk <| .sk <| .sk <| .sk <| .pickT rfl rfl <| .nil) fun Az Hz => ?_
   refine wct Hz ?_
   replace Hz := Hz.oz [1, 3, 24, 25, 26, 5, 34, 41, 48]
   refine regS Hz (.assign rfl .nil) fun Az Hz => ?_
   refine rt1 Hz ?_
   exact ⟨false, rfl, iff_of_false (by simp) (fun hh => by have h9 := hh.i k _ hes; dsimp only at h9; omega), m132.below⟩
  intro hb167 Hz; try simp only [QQ, Qax] at hb167
  refine gz hK14 Hz (.faZ 1 rfl U48 <| .loadB1Z m132 (i := 101) rfl rfl rfl U22 rfl <| .lenZ rfl U22 <| .faZ 1 rfl U38 <| .loadB1Z m132 (i := 9) rfl rfl rfl U3 rfl <| .neqZ rfl rfl <| .pickF rfl rfl <| .nil) fun Az Hz => ?_
  refine bc Hz 48 ?_ ?_
  ·
   intro hb184 Hz; try simp only [QQ, Qax] at hb184
   refine wct Hz ?_
   replace Hz := Hz.oz [1, 3, 24, 25, 26, 5, 34, 41, 48]
   refine regS Hz (.assign rfl .nil) fun Az Hz => ?_
   refine rt1 Hz ?_
   exact ⟨false, rfl, iff_of_false (by simp) (fun hh => by have h9 := hh.i k _ hes; dsimp only at h9; omega), m132.below⟩
  intro hb184 Hz; try simp only [QQ, Qax] at hb184
  refine wcf Hz ?_
  refine zss (hK13 _ _ ?_)
  replace Hz := Hz.oz [1, 3, 24, 25, 26, 5, 34, 41, 48]
  refine wp_region_lit ?_
  refine gz hK11 Hz (.fa 0 rfl U48 <| .lb m132 101 U3 rfl rfl rfl <| .assign rfl <| .nil) fun Az Hz => ?_
  refine wp_region_lit ?_
  refine goCh Hz (.inc (k + 1) <| .move rfl .nil) fun Az Hz => ?_
  refine wpList_nil ?_
  show ∃ n', n' < _ ∧ _
  have hall2 : ∀ j e, j < k + 1 → its[j]? = some e → lastB its j < e.1 ∧ e.1 < bl ∧ (e.2.length : Int) = sz := (fun j e hj he => by
    rcases Nat.lt_succ_iff_lt_or_eq.1 hj with h9 | h9
    · exact hall j e h9 he
    subst h9; rw [hes] at he; obtain rfl := Option.some.inj he; exact ⟨by dsimp only; omega, by dsimp only; omega, by dsimp only; omega⟩)
  have hlb : xb = lastB its (k + 1) := (lastB_next hes).symm
  rw [hlb] at Hz
  exact ⟨its.length - (k + 1), by omega, k + 1, _, by omega, rfl, hall2, Hz.only [1, 3, 24, 25, 26], m132.ren [(9, 9)] (by decide)⟩
 intro hb124 Hz; try simp only [QQ, Qax] at hb124
 have hke : k = its.length := by have := hb124; first | omega | (simp at this; omega)
 refine wcf Hz ?_
 refine wp_exit ?_
 refine hK9 _ _ ?_
 refine regS Hz (.assign rfl .nil) fun Az Hz => ?_
 refine rt1 Hz ?_
 exact ⟨true, rfl, iff_of_true rfl ⟨hs.1, hs.2.1, hs.2.2.1, hs.2.2.2.1, hs.2.2.2.2, (fun _ => by first | omega | (simp at *; omega)), (fun j e he => hall j e (by rw [hke]; exact (List.getElem?_eq_some_iff.1 he).1) he), hil⟩, m122.below⟩
theorem rright21_any (bl sz fr to : Int) (its : List (Int × List Int)) (pi : Option Addr) (ni ci : Nat) (w0 : World) (h1 : Rd (fun _ => True) w0 (.slice pi ni ci) (.l 2 (its.map itD))) (hil : its.length ≤ 256) :
   Calls Tryd.prog 18 #[.agg #[.int .i64 bl, .int .i64 sz, .int .i64 fr, .int .i64 to, .slice pi ni ci]] w0 fun e w' => ∃ b, e = .returned (.bool b) ∧ (b = true ↔ StreamOk bl sz fr to its) ∧ Below w0.heap.size w0 w' := by
 obtain rfl : ni = its.length := by obtain ⟨pq, c9, hv, _⟩ := h1.l_shape; injection hv with _ e2 _; rw [List.length_map] at e2; exact e2
 refine ent1 Tryd.func18 rfl Tryd.ntmps18 fun Az Hz => ?_
 have m0 := MemOk.start (fun _ => False) w0
 refine zsr fun K0 hK0 => ?_
 refine plz (e_box Hz m0 20 (cs := [_, _, _, _, _]) rfl rfl rfl fun g1 Az w2 Hz m2 _ _ => ?_)
 refine gz hK0 Hz (.assign rfl .nil) fun Az Hz => ?_
 refine wsk fun K1 hK1 => ?_
 refine zsr fun K2 hK2 => ?_
 refine goCh Hz (.fa 0 rfl U38 <| .lb m2 20 U3 rfl rfl rfl <| .lss rfl rfl <| .move rfl .nil) fun Az Hz => ?_
 refine bc Hz 8 ?_ ?_
 ·
  intro hb12 Hz; try simp only [QQ, Qax] at hb12
  refine goCh Hz (.sk <| .sk <| .sk <| .pickT rfl rfl <| .move rfl <| .sk <| .sk <| .sk <| .pickT rfl rfl <| .move rfl <| .sk <| .sk <| .sk <| .pickT rfl rfl <| .move rfl <| .sk <| .sk <| .sk <| .pickT rfl rfl <| .move rfl <| .sk <| .sk <| .sk <| .pickT rfl rfl <| .move rfl <| .sk <| .sk <| .sk <| .pickT rfl rfl <| .move rfl <| .sk <| .sk <| .sk <| .sk <| .sk <| .pickT rfl rfl <| .move rfl <| .sk <| .sk <| .sk <| .sk .nil) fun Az Hz => ?_
  refine st_skipU Hz rfl rfl rfl rfl fun Az Hz => ?_
  refine st_skipU Hz rfl rfl rfl rfl fun Az Hz => ?_
  refine st_skipU Hz rfl rfl rfl rfl fun Az Hz => ?_
  refine st_skipU Hz rfl rfl rfl rfl fun Az Hz => ?_
  refine st_skipU Hz rfl rfl rfl rfl fun Az Hz => ?_
  refine st_skipU Hz rfl rfl rfl rfl fun Az Hz => ?_
  refine gz hK2 Hz (.sk <| .pickT rfl rfl <| .nil) fun Az Hz => ?_
  refine wct Hz ?_
  replace Hz := Hz.oz [1, 2, 8, 13, 18, 23, 28, 33, 38, 45, 49, 57]
  refine regS Hz (.assign rfl .nil) fun Az Hz => ?_
  refine rt1 Hz ?_
  exact ⟨false, rfl, iff_of_false (by simp) (fun hh => by obtain ⟨⟨a1, a2⟩, ⟨a3, a4⟩, a5, ⟨a6, a7⟩, a8, a9, a10, a11⟩ := hh; omega), m2.below⟩
 intro hb12 Hz; try simp only [QQ, Qax] at hb12
 refine goCh Hz (.faZ 0 rfl U38 <| .loadB1Z m2 (i := 20) rfl rfl rfl U3 rfl <| .gtrZ rfl rfl <| .pickF rfl rfl <| .move rfl .nil) fun Az Hz => ?_
 refine bc Hz 13 ?_ ?_
 ·
  intro hb69 Hz; try simp only [QQ, Qax] at hb69
  refine goCh Hz (.sk <| .sk <| .sk <| .pickT rfl rfl <| .move rfl <| .sk <| .sk <| .sk <| .pickT rfl rfl <| .move rfl <| .sk <| .sk <| .sk <| .pickT rfl rfl <| .move rfl <| .sk <| .sk <| .sk <| .pickT rfl rfl <| .move rfl <| .sk <| .sk <| .sk <| .pickT rfl rfl <| .move rfl <| .sk <| .sk <| .sk <| .sk <| .sk <| .pickT rfl rfl <| .move rfl <| .sk <| .sk <| .sk <| .sk .nil) fun Az Hz => ?_
  refine st_skipU Hz rfl rfl rfl rfl fun Az Hz => ?_
  refine st_skipU Hz rfl rfl rfl rfl fun Az Hz => ?_
  refine st_skipU Hz rfl rfl rfl rfl fun Az Hz => ?_
  refine st_skipU Hz rfl rfl rfl rfl fun Az Hz => ?_
  refine st_skipU Hz rfl rfl rfl rfl fun Az Hz => ?_
  refine st_skipU Hz rfl rfl rfl rfl fun Az Hz => ?_
  refine gz hK2 Hz (.sk <| .pickT rfl rfl <| .nil) fun Az Hz => ?_
  refine wct Hz ?_
  replace Hz := Hz.oz [1, 2, 8, 13, 18, 23, 28, 33, 38, 45, 49, 57]
  refine regS Hz (.assign rfl .nil) fun Az Hz => ?_
  refine rt1 Hz ?_
  exact ⟨false, rfl, iff_of_false (by simp) (fun hh => by obtain ⟨⟨a1, a2⟩, ⟨a3, a4⟩, a5, ⟨a6, a7⟩, a8, a9, a10, a11⟩ := hh; omega), m2.below⟩
 intro hb69 Hz; try simp only [QQ, Qax] at hb69
 refine goCh Hz (.faZ 1 rfl U38 <| .loadB1Z m2 (i := 20) rfl rfl rfl U3 rfl <| .lssZ rfl rfl <| .pickF rfl rfl <| .move rfl .nil) fun Az Hz => ?_
 refine bc Hz 18 ?_ ?_
 ·
  intro hb121 Hz; try simp only [QQ, Qax] at hb121
  refine goCh Hz (.sk <| .sk <| .sk <| .pickT rfl rfl <| .move rfl <| .sk <| .sk <| .sk <| .pickT rfl rfl <| .move rfl <| .sk <| .sk <| .sk <| .pickT rfl rfl <| .move rfl <| .sk <| .sk <| .sk <| .pickT rfl rfl <| .move rfl <| .sk <| .sk <| .sk <| .sk <| .sk <| .pickT rfl rfl <| .move rfl <| .sk <| .sk <| .sk <| .sk .nil) fun Az Hz => ?_
  refine st_skipU Hz rfl rfl rfl rfl fun Az Hz => ?_
  refine st_skipU Hz rfl rfl rfl rfl fun Az Hz => ?_
  refine st_skipU Hz rfl rfl rfl rfl fun Az Hz => ?_
  refine st_skipU Hz rfl rfl rfl rfl fun Az Hz => ?_
  refine st_skipU Hz rfl rfl rfl rfl fun Az Hz => ?_
  refine st_skipU Hz rfl rfl rfl rfl fun Az Hz => ?_
  refine gz hK2 Hz (.sk <| .pickT rfl rfl <| .nil) fun Az Hz => ?_
  refine wct Hz ?_
  replace Hz := Hz.oz [1, 2, 8, 13, 18, 23, 28, 33, 38, 45, 49, 57]
  refine regS Hz (.assign rfl .nil) fun Az Hz => ?_
  refine rt1 Hz ?_
  exact ⟨false, rfl, iff_of_false (by simp) (fun hh => by obtain ⟨⟨a1, a2⟩, ⟨a3, a4⟩, a5, ⟨a6, a7⟩, a8, a9, a10, a11⟩ := hh; omega), m2.below⟩
 intro hb121 Hz; try simp only [QQ, Qax] at hb121
 refine goCh Hz (.faZ 1 rfl U38 <| .loadB1Z m2 (i := 20) rfl rfl rfl U3 rfl <| .gtrZ rfl rfl <| .pickF rfl rfl <| .move rfl .nil) fun Az Hz => ?_
 refine bc Hz 23 ?_ ?_
 ·
  intro hb168 Hz; try simp only [QQ, Qax] at hb168
  refine goCh Hz (.sk <| .sk <| .sk <| .pickT rfl rfl <| .move rfl <| .sk <| .sk <| .sk <| .pickT rfl rfl <| .move rfl <| .sk <| .sk <| .sk <| .pickT rfl rfl <| .move rfl <| .sk <| .sk <| .sk <| .sk <| .sk <| .pickT rfl rfl <| .move rfl <| .sk <| .sk <| .sk <| .sk .nil) fun Az Hz => ?_
  refine st_skipU Hz rfl rfl rfl rfl fun Az Hz => ?_
  refine st_skipU Hz rfl rfl rfl rfl fun Az Hz => ?_
  refine st_skipU Hz rfl rfl rfl rfl fun Az Hz => ?_
  refine st_skipU Hz rfl rfl rfl rfl fun Az Hz => ?_
  refine st_skipU Hz rfl rfl rfl rfl fun Az Hz => ?_
  refine st_skipU Hz rfl rfl rfl rfl fun Az Hz => ?_
  refine gz hK2 Hz (.sk <| .pickT rfl rfl <| .nil) fun Az Hz => ?_
  refine wct Hz ?_
  replace Hz := Hz.oz [1, 2, 8, 13, 18, 23, 28, 33, 38, 45, 49, 57]
  refine regS Hz (.assign rfl .nil) fun Az Hz => ?_
  refine rt1 Hz ?_
  exact ⟨false, rfl, iff_of_false (by simp) (fun hh => by obtain ⟨⟨a1, a2⟩, ⟨a3, a4⟩, a5, ⟨a6, a7⟩, a8, a9, a10, a11⟩ := hh; omega), m2.below⟩
 intro hb168 Hz; try simp only [QQ, Qax] at hb168
 refine goCh Hz (.faZ 2 rfl U38 <| .loadB1Z m2 (i := 20) rfl rfl rfl U2 rfl <| .lssZ rfl rfl <| .pickF rfl rfl <| .move rfl .nil) fun Az Hz => ?_
 refine bc Hz 28 ?_ ?_
 ·
  intro hb210 Hz; try simp only [QQ, Qax] at hb210
  refine goCh Hz (.sk <| .sk <| .sk <| .pickT rfl rfl <| .move rfl <| .sk <| .sk <| .sk <| .pickT rfl rfl <| .move rfl <| .sk <| .sk <| .sk <| .sk <| .sk <| .pickT rfl rfl <| .move rfl <| .sk <| .sk <| .sk <| .sk .nil) fun Az Hz => ?_
  refine st_skipU Hz rfl rfl rfl rfl fun Az Hz => ?_
  refine st_skipU Hz rfl rfl rfl rfl fun Az Hz => ?_
  refine st_skipU Hz rfl rfl rfl rfl fun Az Hz => ?_
  refine st_skipU Hz rfl rfl rfl rfl fun Az Hz => ?_
  refine st_skipU Hz rfl rfl rfl rfl fun Az Hz => ?_
  refine st_skipU Hz rfl rfl rfl rfl fun Az Hz => ?_
  refine gz hK2 Hz (.sk <| .pickT rfl rfl <| .nil) fun Az Hz => ?_
  refine wct Hz ?_
  replace Hz := Hz.oz [1, 2, 8, 13, 18, 23, 28, 33, 38, 45, 49, 57]
  refine regS Hz (.assign rfl .nil) fun Az Hz => ?_
  refine rt1 Hz ?_
  exact ⟨false, rfl, iff_of_false (by simp) (fun hh => by obtain ⟨⟨a1, a2⟩, ⟨a3, a4⟩, a5, ⟨a6, a7⟩, a8, a9, a10, a11⟩ := hh; omega), m2.below⟩
 intro hb210 Hz; try simp only [QQ, Qax] at hb210
 refine goCh Hz (.faZ 3 rfl U38 <| .loadB1Z m2 (i := 20) rfl rfl rfl U2 rfl <| .lssZ rfl rfl <| .pickF rfl rfl <| .move rfl .nil) fun Az Hz => ?_
 refine bc Hz 33 ?_ ?_
 ·
  intro hb247 Hz; try simp only [QQ, Qax] at hb247
  refine goCh Hz (.sk <| .sk <| .sk <| .pickT rfl rfl <| .move rfl <| .sk <| .sk <| .sk <| .sk <| .sk <| .pickT rfl rfl <| .move rfl <| .sk <| .sk <| .sk <| .sk .nil) fun Az Hz => ?_
  refine st_skipU Hz rfl rfl rfl rfl fun Az Hz => ?_
  refine st_skipU Hz rfl rfl rfl rfl fun Az Hz => ?_
  refine st_skipU Hz rfl rfl rfl rfl fun Az Hz => ?_
  refine st_skipU Hz rfl rfl rfl rfl fun Az Hz => ?_
  refine st_skipU Hz rfl rfl rfl rfl fun Az Hz => ?_
  refine st_skipU Hz rfl rfl rfl rfl fun Az Hz => ?_
  refine gz hK2 Hz (.sk <| .pickT rfl rfl <| .nil) fun Az Hz => ?_
  refine wct Hz ?_
  replace Hz := Hz.oz [1, 2, 8, 13, 18, 23, 28, 33, 38, 45, 49, 57]
  refine regS Hz (.assign rfl .nil) fun Az Hz => ?_
  refine rt1 Hz ?_
  exact ⟨false, rfl, iff_of_false (by simp) (fun hh => by obtain ⟨⟨a1, a2⟩, ⟨a3, a4⟩, a5, ⟨a6, a7⟩, a8, a9, a10, a11⟩ := hh; omega), m2.below⟩
 intro hb247 Hz; try simp only [QQ, Qax] at hb247
 refine goCh Hz (.faZ 3 rfl U38 <| .loadB1Z m2 (i := 20) rfl rfl rfl U2 rfl <| .gtrZ rfl rfl <| .pickF rfl rfl <| .move rfl .nil) fun Az Hz => ?_
 refine bc Hz 38 ?_ ?_
 ·
  intro hb279 Hz; try simp only [QQ, Qax] at hb279
  refine goCh Hz (.sk <| .sk <| .sk <| .sk <| .sk <| .pickT rfl rfl <| .move rfl <| .sk <| .sk <| .sk <| .sk .nil) fun Az Hz => ?_
  refine st_skipU Hz rfl rfl rfl rfl fun Az Hz => ?_
  refine st_skipU Hz rfl rfl rfl rfl fun Az Hz => ?_
  refine st_skipU Hz rfl rfl rfl rfl fun Az Hz => ?_
  refine st_skipU Hz rfl rfl rfl rfl fun Az Hz => ?_
  refine st_skipU Hz rfl rfl rfl rfl fun Az Hz => ?_
  refine st_skipU Hz rfl rfl rfl rfl fun Az Hz => ?_
  refine gz hK2 Hz (.sk <| .pickT rfl rfl <| .nil) fun Az Hz => ?_
  refine wct Hz ?_
  replace Hz := Hz.oz [1, 2, 8, 13, 18, 23, 28, 33, 38, 45, 49, 57]
  refine regS Hz (.assign rfl .nil) fun Az Hz => ?_
  refine rt1 Hz ?_
  exact ⟨false, rfl, iff_of_false (by simp) (fun hh => by obtain ⟨⟨a1, a2⟩, ⟨a3, a4⟩, a5, ⟨a6, a7⟩, a8, a9, a10, a11⟩ := hh; omega), m2.below⟩
 intro hb279 Hz; try simp only [QQ, Qax] at hb279
 refine goCh Hz (.faZ 3 rfl U38 <| .loadB1Z m2 (i := 20) rfl rfl rfl U2 rfl <| .faZ 2 rfl U38 <| .loadB1Z m2 (i := 20) rfl rfl rfl U2 rfl <| .lssZ rfl rfl <| .pickF rfl rfl <| .move rfl .nil) fun Az Hz => ?_
 refine bc Hz 45 ?_ ?_
 ·
  intro hb308 Hz; try simp only [QQ, Qax] at hb308
  refine goCh Hz (.sk <| .sk <| .sk <| .sk .nil) fun Az Hz => ?_
  refine st_skipU Hz rfl rfl rfl rfl fun Az Hz => ?_
  refine st_skipU Hz rfl rfl rfl rfl fun Az Hz => ?_
  refine st_skipU Hz rfl rfl rfl rfl fun Az Hz => ?_
  refine st_skipU Hz rfl rfl rfl rfl fun Az Hz => ?_
  refine st_skipU Hz rfl rfl rfl rfl fun Az Hz => ?_
  refine st_skipU Hz rfl rfl rfl rfl fun Az Hz => ?_
  refine gz hK2 Hz (.sk <| .pickT rfl rfl <| .nil) fun Az Hz => ?_
  refine wct Hz ?_
  replace Hz := Hz.oz [1, 2, 8, 13, 18, 23, 28, 33, 38, 45, 49, 57]
  refine regS Hz (.assign rfl .nil) fun Az Hz => ?_
  refine rt1 Hz ?_
  exact ⟨false, rfl, iff_of_false (by simp) (fun hh => by obtain ⟨⟨a1, a2⟩, ⟨a3, a4⟩, a5, ⟨a6, a7⟩, a8, a9, a10, a11⟩ := hh; omega), m2.below⟩
 intro hb308 Hz; try simp only [QQ, Qax] at hb308
 refine goCh Hz (.faZ 2 rfl U38 <| .loadB1Z m2 (i := 20) rfl rfl rfl U2 rfl <| .lssZ rfl rfl <| .moveZ rfl .nil) fun Az Hz => ?_
 refine bc Hz 49 ?_ ?_
 ·
  intro hb327 Hz; try simp only [QQ, Qax] at hb327
  refine gz hK2 Hz (.faZ 4 rfl U38 <| .loadB1Z m2 (i := 20) rfl rfl rfl U36 rfl <| .lenZ rfl U36 <| .faZ 0 rfl U38 <| .loadB1Z m2 (i := 20) rfl rfl rfl U3 rfl <| .neqZ rfl rfl <| .pickTZ rfl rfl <| .pickF rfl rfl <| .nil) fun Az Hz => ?_
  refine bc Hz 57 ?_ ?_
  ·
   intro hb336 Hz; try simp only [QQ, Qax] at hb336
   refine wct Hz ?_
   replace Hz := Hz.oz [1, 2, 8, 13, 18, 23, 28, 33, 38, 45, 49, 57]
   refine regS Hz (.assign rfl .nil) fun Az Hz => ?_
   refine rt1 Hz ?_
   exact ⟨false, rfl, iff_of_false (by simp) (fun hh => by obtain ⟨⟨a1, a2⟩, ⟨a3, a4⟩, a5, ⟨a6, a7⟩, a8, a9, a10, a11⟩ := hh; omega), m2.below⟩
  intro hb336 Hz; try simp only [QQ, Qax] at hb336
  refine wcf Hz ?_
  refine zss (hK1 _ _ ?_)
  replace Hz := Hz.oz [1, 2, 8, 13, 18, 23, 28, 33, 38, 45, 49, 57]
  refine regS Hz (.assign rfl .nil) fun Az Hz => ?_
  refine wsk fun K3 hK3 => ?_
  refine regS Hz (.assign rfl .nil) fun Az Hz => ?_
  refine wp_block ?_
  refine wp_loop_ghost (fun g a w => ∃ (k B : Nat), k ≤ its.length ∧ g = its.length - k ∧ (∀ j e, j < k → its[j]? = some e → lastB its j < e.1 ∧ e.1 < bl ∧ (e.2.length : Int) = sz) ∧ Has 102 [(1, .pointer (some ⟨B, 0, none⟩)), (3, .int .i64 (lastB its k)), (4, .int .i64 k)] a ∧ MemOk (cn w0) w0 [(9, .box B 38 [.int .i64 bl, .int .i64 sz, .int .i64 fr, .int .i64 to, .slice pi its.length ci])] w) (its.length) ?_ ?_
  · exact ⟨0, _, Nat.zero_le _, rfl, (fun j e hj => by omega), Hz.only [1, 3, 4], m2.ren [(9, 20)] (by decide)⟩
  clear Hz m2
  rintro g Az w342 ⟨k, B, hkl, hg, hall, Hz, m342⟩
  refine wsk fun K4 hK4 => ?_
  refine regS Hz (.move rfl <| .fa 4 rfl U38 <| .lb m342 9 U36 rfl rfl rfl <| .len rfl U36 <| .lss rfl rfl .nil) fun Az Hz => ?_
  refine bc Hz 62 ?_ ?_
  ·
   intro hb348 Hz; try simp only [QQ, Qax] at hb348
   have hk : k < its.length := by have := hb348; first | omega | (simp at this; omega)
   obtain ⟨⟨xb, xd⟩, hes⟩ : ∃ e, its[k]? = some e := ⟨_, List.getElem?_eq_getElem hk⟩
   refine wct Hz ?_
   refine zss (hK4 _ _ ?_)
   refine wsk fun K5 hK5 => ?_
   refine wp_block ?_
   refine wsk fun K6 hK6 => ?_
   refine wsk fun K7 hK7 => ?_
   obtain ⟨gx350, ox350, vx350, hp350, hl350, hR350, hrg350⟩ := h1.extA (k) (r := [.v (.int .i64 xb), .ns .u8 xd]) (itD_get hes)
   revert Hz
   cases hp350
   rcases hR350 with _ | ⟨hd350_0, _ | ⟨hd350_1, _ | _⟩⟩
   obtain rfl := hd350_0.v_out
   clear hd350_0
   obtain ⟨p351, c351, hv351, hw351⟩ := hd350_1.ns_shape; subst hv351
   intro Hz
   obtain ⟨gx353, ox353, vx353, hp353, hl353, hR353, hrg353⟩ := h1.extA (k) (r := [.v (.int .i64 xb), .ns .u8 xd]) (itD_get hes)
   revert Hz
   cases hp353
   rcases hR353 with _ | ⟨hd353_0, _ | ⟨hd353_1, _ | _⟩⟩
   obtain rfl := hd353_0.v_out
   clear hd353_0
   obtain ⟨p354, c354, hv354, hw354⟩ := hd353_1.ns_shape; subst hv354
   intro Hz
   obtain ⟨gx356, ox356, vx356, hp356, hl356, hR356, hrg356⟩ := h1.extA (k) (r := [.v (.int .i64 xb), .ns .u8 xd]) (itD_get hes)
   revert Hz
   cases hp356
   rcases hR356 with _ | ⟨hd356_0, _ | ⟨hd356_1, _ | _⟩⟩
   obtain rfl := hd356_0.v_out
   clear hd356_0
   obtain ⟨p357, c357, hv357, hw357⟩ := hd356_1.ns_shape; subst hv357
   intro Hz
   have m358 := m342.oz [9]
   refine region_p 31 (B := [(9, _)]) (m358.to ⟨il, trivial⟩) m358 (by kernel_rfl) (fun w359 hP359 m359 => ?_); clear m358
   refine goR hP359 [0, 1, 2, 3, 4, 5, 6, 7, 8] [1, 5] 9 0 511 Hz (m359.to ⟨il, trivial⟩) (.fa 4 rfl U38 <| .lb hh 9 U36 rfl rfl rfl <| .move rfl <| .p (fun _ _ h => y_idx h rfl rfl U36 fct1 (k) rfl hk) <| .fieldAddrQ 0 rfl U48 rfl (s := 0) (by kernel_rfl) rfl <| .loadAt1 (fun _ h => (hrg350 h rfl)) (q := 0) rfl rfl rfl U3 rfl <| .move rfl <| .leq rfl rfl <| .move rfl .nil) fun Az Hz => ?_
   refine bc Hz 73 ?_ ?_
   ·
    intro hb369 Hz; try simp only [QQ, Qax] at hb369
    refine goA hP359 [9, 10, 11, 12, 13, 14, 15, 16, 17, 18, 19, 20, 21, 22, 23, 24, 25, 26, 27, 28, 29, 30] 22 511 2147483647 Hz (m359.to ⟨il, trivial⟩) (.s <| .s <| .s <| .s <| .s <| .s <| .s <| .s <| .s <| .pickT rfl rfl <| .move rfl <| .s <| .s <| .s <| .s <| .s <| .s <| .s <| .s <| .s <| .s <| .pickT rfl rfl .nil) fun Az Hz => ?_
    refine wpAnyE_done (by kernel_rfl) ?_ _
    refine hK7 _ _ ?_
    refine wct Hz ?_
    replace Hz := Hz.oz [1, 3, 4, 73, 84, 95]
    refine regS Hz (.assign rfl .nil) fun Az Hz => ?_
    refine rt1 Hz ?_
    exact ⟨false, rfl, iff_of_false (by simp) (fun hh => by have h9 := hh.i k _ hes; dsimp only at h9; omega), m359.below⟩
   intro hb369 Hz; try simp only [QQ, Qax] at hb369
   refine goR hP359 [9, 10, 11, 12, 13, 14, 15, 16, 17, 18, 19] [10, 14, 16] 11 511 1048575 Hz (m359.to ⟨il, trivial⟩) (.fa 4 rfl U38 <| .lb hh 9 U36 rfl rfl rfl <| .move rfl <| .p (fun _ _ h => y_idx h rfl rfl U36 fct1 (k) rfl hk) <| .fieldAddrQ 0 rfl U48 rfl (s := 0) (by kernel_rfl) rfl <| .loadAt1 (fun _ h => (hrg353 h rfl)) (q := 0) rfl rfl rfl U3 rfl <| .fa 0 rfl U38 <| .lb hh 9 U3 rfl rfl rfl <| .geq rfl rfl <| .pickF rfl rfl <| .move rfl .nil) fun Az Hz => ?_
   refine bc Hz 84 ?_ ?_
   ·
    intro hb405 Hz; try simp only [QQ, Qax] at hb405
    refine goA hP359 [20, 21, 22, 23, 24, 25, 26, 27, 28, 29, 30] 11 1048575 2147483647 Hz (m359.to ⟨il, trivial⟩) (.s <| .s <| .s <| .s <| .s <| .s <| .s <| .s <| .s <| .s <| .pickT rfl rfl .nil) fun Az Hz => ?_
    refine wpAnyE_done (by kernel_rfl) ?_ _
    refine hK7 _ _ ?_
    refine wct Hz ?_
    replace Hz := Hz.oz [1, 3, 4, 73, 84, 95]
    refine regS Hz (.assign rfl .nil) fun Az Hz => ?_
    refine rt1 Hz ?_
    exact ⟨false, rfl, iff_of_false (by simp) (fun hh => by have h9 := hh.i k _ hes; dsimp only at h9; omega), m359.below⟩
   intro hb405 Hz; try simp only [QQ, Qax] at hb405
   refine goR hP359 [20, 21, 22, 23, 24, 25, 26, 27, 28, 29, 30] [21, 25, 28] 11 1048575 2147483647 Hz (m359.to ⟨il, trivial⟩) (.fa 4 rfl U38 <| .lb hh 9 U36 rfl rfl rfl <| .move rfl <| .p (fun _ _ h => y_idx h rfl rfl U36 fct1 (k) rfl hk) <| .fieldAddrQ 1 rfl U48 rfl (s := 0) (by kernel_rfl) rfl <| .loadAt1 (fun _ h => (hrg356 h rfl)) (q := 1) rfl rfl rfl U22 rfl <| .len rfl U22 <| .fa 1 rfl U38 <| .lb hh 9 U3 rfl rfl rfl <| .neq rfl rfl <| .pickF rfl rfl .nil) fun Az Hz => ?_
   refine wpAnyE_done (by kernel_rfl) ?_ _
   refine hK7 _ _ ?_
   refine bc Hz 95 ?_ ?_
   ·
    intro hb430 Hz; try simp only [QQ, Qax] at hb430
    refine wct Hz ?_
    replace Hz := Hz.oz [1, 3, 4, 73, 84, 95]
    refine regS Hz (.assign rfl .nil) fun Az Hz => ?_
    refine rt1 Hz ?_
    exact ⟨false, rfl, iff_of_false (by simp) (fun hh => by have h9 := hh.i k _ hes; dsimp only at h9; omega), m359.below⟩
   intro hb430 Hz; try simp only [QQ, Qax] at hb430
   refine wcf Hz ?_
   refine zss (hK6 _ _ ?_)
   replace Hz := Hz.oz [1, 3, 4, 73, 84, 95]
   refine wp_region_lit ?_
   refine goCh Hz (.fa 4 rfl U38 <| .lb m359 9 U36 rfl rfl rfl <| .move rfl .nil) fun Az Hz => ?_
   obtain ⟨gx437, ox437, vx437, hp437, hl437, hR437, hrg437⟩ := h1.extA (k) (r := [.v (.int .i64 xb), .ns .u8 xd]) (itD_get hes)
   revert Hz
   cases hp437
   rcases hR437 with _ | ⟨hd437_0, _ | ⟨hd437_1, _ | _⟩⟩
   obtain rfl := hd437_0.v_out
   clear hd437_0
   obtain ⟨p438, c438, hv438, hw438⟩ := hd437_1.ns_shape; subst hv438
   intro Hz
   refine gz hK5 Hz (.c rfl (fun _ h => y_idx h rfl rfl U36 fct1 (k) rfl hk) <| .fieldAddrQ 0 rfl U48 rfl (s := 0) (by kernel_rfl) rfl <| .loadAt1 (hrg437 m359 rfl) (q := 0) rfl rfl rfl U3 rfl <| .assign rfl <| .nil) fun Az Hz => ?_
   replace Hz := Hz.oz [1, 3, 4, 73, 84, 95]
   refine wp_region_lit ?_
   refine goCh Hz (.move rfl <| .inc (k + 1) <| .assign rfl .nil) fun Az Hz => ?_
   refine wpList_nil ?_
   show ∃ n', n' < _ ∧ _
   have hall2 : ∀ j e, j < k + 1 → its[j]? = some e → lastB its j < e.1 ∧ e.1 < bl ∧ (e.2.length : Int) = sz := (fun j e hj he => by
     rcases Nat.lt_succ_iff_lt_or_eq.1 hj with h9 | h9
     · exact hall j e h9 he
     subst h9; rw [hes] at he; obtain rfl := Option.some.inj he; exact ⟨by dsimp only; omega, by dsimp only; omega, by dsimp only; omega⟩)
   have hlb : xb = lastB its (k + 1) := (lastB_next hes).symm
   rw [hlb] at Hz
   exact ⟨its.length - (k + 1), by omega, k + 1, _, by omega, rfl, hall2, Hz.only [1, 3, 4], m359.ren [(9, 9)] (by decide)⟩
  intro hb348 Hz; try simp only [QQ, Qax] at hb348
  have hke : k = its.length := by have := hb348; first | omega | (simp at this; omega)
  refine wcf Hz ?_
  refine wp_exit ?_
  refine hK3 _ _ ?_
  refine regS Hz (.assign rfl .nil) fun Az Hz => ?_
  refine rt1 Hz ?_
  exact ⟨true, rfl, iff_of_true rfl ⟨⟨by omega, by omega⟩, ⟨by omega, by omega⟩, by omega, ⟨by omega, by omega⟩, by omega, (fun _ => by first | omega | (simp at *; omega)), (fun j e he => hall j e (by rw [hke]; exact (List.getElem?_eq_some_iff.1 he).1) he), hil⟩, m342.below⟩
 intro hb327 Hz; try simp only [QQ, Qax] at hb327
 refine gz hK2 Hz (.sk <| .sk <| .sk <| .sk <| .sk <| .sk <| .pickFZ rfl rfl <| .pickF rfl rfl <| .nil) fun Az Hz => ?_
 refine wcf Hz ?_
 refine zss (hK1 _ _ ?_)
 replace Hz := Hz.oz [1, 2, 8, 13, 18, 23, 28, 33, 38, 45, 49, 57]
 refine regS Hz (.assign rfl .nil) fun Az Hz => ?_
 refine wsk fun K8 hK8 => ?_
 refine regS Hz (.assign rfl .nil) fun Az Hz => ?_
 refine wp_block ?_
 refine wp_loop_ghost (fun g a w => ∃ (k B : Nat), k ≤ its.length ∧ g = its.length - k ∧ (∀ j e, j < k → its[j]? = some e → lastB its j < e.1 ∧ e.1 < bl ∧ (e.2.length : Int) = sz) ∧ Has 102 [(1, .pointer (some ⟨B, 0, none⟩)), (3, .int .i64 (lastB its k)), (4, .int .i64 k)] a ∧ MemOk (cn w0) w0 [(9, .box B 38 [.int .i64 bl, .int .i64 sz, .int .i64 fr, .int .i64 to, .slice pi its.length ci])] w) (its.length) ?_ ?_
 · exact ⟨0, _, Nat.zero_le _, rfl, (fun j e hj => by omega), Hz.only [1, 3, 4], m2.ren [(9, 20)] (by decide)⟩
 clear Hz m2
 rintro g Az w459 ⟨k, B, hkl, hg, hall, Hz, m459⟩
 refine wsk fun K9 hK9 => ?_
 refine regS Hz (.move rfl <| .fa 4 rfl U38 <| .lb m459 9 U36 rfl rfl rfl <| .len rfl U36 <| .lss rfl rfl .nil) fun Az Hz => ?_
 refine bc Hz 62 ?_ ?_
 ·
  intro hb465 Hz; try simp only [QQ, Qax] at hb465
  have hk : k < its.length := by have := hb465; first | omega | (simp at this; omega)
  obtain ⟨⟨xb, xd⟩, hes⟩ : ∃ e, its[k]? = some e := ⟨_, List.getElem?_eq_getElem hk⟩
  refine wct Hz ?_
  refine zss (hK9 _ _ ?_)
  refine wsk fun K10 hK10 => ?_
  refine wp_block ?_
  refine wsk fun K11 hK11 => ?_
  refine wsk fun K12 hK12 => ?_
  obtain ⟨gx467, ox467, vx467, hp467, hl467, hR467, hrg467⟩ := h1.extA (k) (r := [.v (.int .i64 xb), .ns .u8 xd]) (itD_get hes)
  revert Hz
  cases hp467
  rcases hR467 with _ | ⟨hd467_0, _ | ⟨hd467_1, _ | _⟩⟩
  obtain rfl := hd467_0.v_out
  clear hd467_0
  obtain ⟨p468, c468, hv468, hw468⟩ := hd467_1.ns_shape; subst hv468
  intro Hz
  obtain ⟨gx470, ox470, vx470, hp470, hl470, hR470, hrg470⟩ := h1.extA (k) (r := [.v (.int .i64 xb), .ns .u8 xd]) (itD_get hes)
  revert Hz
  cases hp470
  rcases hR470 with _ | ⟨hd470_0, _ | ⟨hd470_1, _ | _⟩⟩
  obtain rfl := hd470_0.v_out
  clear hd470_0
  obtain ⟨p471, c471, hv471, hw471⟩ := hd470_1.ns_shape; subst hv471
  intro Hz
  obtain ⟨gx473, ox473, vx473, hp473, hl473, hR473, hrg473⟩ := h1.extA (k) (r := [.v (.int .i64 xb), .ns .u8 xd]) (itD_get hes)
  revert Hz
  cases hp473
  rcases hR473 with _ | ⟨hd473_0, _ | ⟨hd473_1, _ | _⟩⟩
  obtain rfl := hd473_0.v_out
  clear hd473_0
  obtain ⟨p474, c474, hv474, hw474⟩ := hd473_1.ns_shape; subst hv474
  intro Hz
  have m475 := m459.oz [9]
  refine region_p 31 (B := [(9, _)]) (m475.to ⟨il, trivial⟩) m475 (by kernel_rfl) (fun w476 hP476 m476 => ?_); clear m475
  refine goR hP476 [0, 1, 2, 3, 4, 5, 6, 7, 8] [1, 5] 9 0 511 Hz (m476.to ⟨il, trivial⟩) (.fa 4 rfl U38 <| .lb hh 9 U36 rfl rfl rfl <| .move rfl <| .p (fun _ _ h => y_idx h rfl rfl U36 fct1 (k) rfl hk) <| .fieldAddrQ 0 rfl U48 rfl (s := 0) (by kernel_rfl) rfl <| .loadAt1 (fun _ h => (hrg467 h rfl)) (q := 0) rfl rfl rfl U3 rfl <| .move rfl <| .leq rfl rfl <| .move rfl .nil) fun Az Hz => ?_
  refine bc Hz 73 ?_ ?_
  ·
   intro hb486 Hz; try simp only [QQ, Qax] at hb486
   refine goA hP476 [9, 10, 11, 12, 13, 14, 15, 16, 17, 18, 19, 20, 21, 22, 23, 24, 25, 26, 27, 28, 29, 30] 22 511 2147483647 Hz (m476.to ⟨il, trivial⟩) (.s <| .s <| .s <| .s <| .s <| .s <| .s <| .s <| .s <| .pickT rfl rfl <| .move rfl <| .s <| .s <| .s <| .s <| .s <| .s <| .s <| .s <| .s <| .s <| .pickT rfl rfl .nil) fun Az Hz => ?_
   refine wpAnyE_done (by kernel_rfl) ?_ _
   refine hK12 _ _ ?_
   refine wct Hz ?_
   replace Hz := Hz.oz [1, 3, 4, 73, 84, 95]
   refine regS Hz (.assign rfl .nil) fun Az Hz => ?_
   refine rt1 Hz ?_
   exact ⟨false, rfl, iff_of_false (by simp) (fun hh => by have h9 := hh.i k _ hes; dsimp only at h9; omega), m476.below⟩
  intro hb486 Hz; try simp only [QQ, Qax] at hb486
  refine goR hP476 [9, 10, 11, 12, 13, 14, 15, 16, 17, 18, 19] [10, 14, 16] 11 511 1048575 Hz (m476.to ⟨il, trivial⟩) (.fa 4 rfl U38 <| .lb hh 9 U36 rfl rfl rfl <| .move rfl <| .p (fun _ _ h => y_idx h rfl rfl U36 fct1 (k) rfl hk) <| .fieldAddrQ 0 rfl U48 rfl (s := 0) (by kernel_rfl) rfl <| .loadAt1 (fun _ h => (hrg470 h rfl)) (q := 0) rfl rfl rfl U3 rfl <| .fa 0 rfl U38 <| .lb hh 9 U3 rfl rfl rfl <| .geq rfl rfl <| .pickF rfl rfl <| .move rfl .nil) fun Az Hz => ?_
  refine bc Hz 84 ?_ ?_
  ·
   intro hb522 Hz; try simp only [QQ, Qax] at hb522
   refine goA hP476 [20, 21, 22, 23, 24, 25, 26, 27, 28, 29, 30] 11 1048575 2147483647 Hz (m476.to ⟨il, trivial⟩) (.s <| .s <| .s <| .s <| .s <| .s <| .s <| .s <| .s <| .s <| .pickT rfl rfl .nil) fun Az Hz => ?_
   refine wpAnyE_done (by kernel_rfl) ?_ _
   refine hK12 _ _ ?_
   refine wct Hz ?_
   replace Hz := Hz.oz [1, 3, 4, 73, 84, 95]
   refine regS Hz (.assign rfl .nil) fun Az Hz => ?_
   refine rt1 Hz ?_
   exact ⟨false, rfl, iff_of_false (by simp) (fun hh => by have h9 := hh.i k _ hes; dsimp only at h9; omega), m476.below⟩
  intro hb522 Hz; try simp only [QQ, Qax] at hb522
  refine goR hP476 [20, 21, 22, 23, 24, 25, 26, 27, 28, 29, 30] [21, 25, 28] 11 1048575 2147483647 Hz (m476.to ⟨il, trivial⟩) (.fa 4 rfl U38 <| .lb hh 9 U36 rfl rfl rfl <| .move rfl <| .p (fun _ _ h => y_idx h rfl rfl U36 fct1 (k) rfl hk) <| .fieldAddrQ 1 rfl U48 rfl (s := 0) (by kernel_rfl) rfl <| .loadAt1 (fun _ h => (hrg473 h rfl)) (q := 1) rfl rfl rfl U22 rfl <| .len rfl U22 <| .fa 1 rfl U38 <| .lb hh 9 U3 rfl rfl rfl <| .neq rfl rfl <| .pickF rfl rfl .nil) fun Az Hz => ?_
  refine wpAnyE_done (by kernel_rfl) ?_ _
  refine hK12 _ _ ?_
  refine bc Hz 95 ?_ ?_
  ·
   intro hb547 Hz; try simp only [QQ, Qax] at hb547
   refine wct Hz ?_
   replace Hz := Hz.oz [1, 3, 4, 73, 84, 95]
   refine regS Hz (.assign rfl .nil) fun Az Hz => ?_
   refine rt1 Hz ?_
   exact ⟨false, rfl, iff_of_false (by simp) (fun hh => by have h9 := hh.i k _ hes; dsimp only at h9; omega), m476.below⟩
  intro hb547 Hz; try simp only [QQ, Qax] at hb547
  refine wcf Hz ?_
  refine zss (hK11 _ _ ?_)
  replace Hz := Hz.oz [1, 3, 4, 73, 84, 95]
  refine wp_region_lit ?_
  refine goCh Hz (.fa 4 rfl U38 <| .lb m476 9 U36 rfl rfl rfl <| .move rfl .nil) fun Az Hz => ?_
  obtain ⟨gx554, ox554, vx554, hp554, hl554, hR554, hrg554⟩ := h1.extA (k) (r := [.v (.int .i64 xb), .ns .u8 xd]) (itD_get hes)
  revert Hz
  cases hp554
  rcases hR554 with _ | ⟨hd554_0, _ | ⟨hd554_1, _ | _⟩⟩
  obtain rfl := hd554_0.v_out
  clear hd554_0
  obtain ⟨p555, c555, hv555, hw555⟩ := hd554_1.ns_shape; subst hv555
  intro Hz
  refine gz hK10 Hz (.c rfl (fun _ h => y_idx h rfl rfl U36 fct1 (k) rfl hk) <| .fieldAddrQ 0 rfl U48 rfl (s := 0) (by kernel_rfl) rfl <| .loadAt1 (hrg554 m476 rfl) (q := 0) rfl rfl rfl U3 rfl <| .assign rfl <| .nil) fun Az Hz => ?_
  replace Hz := Hz.oz [1, 3, 4, 73, 84, 95]
  refine wp_region_lit ?_
  refine goCh Hz (.move rfl <| .inc (k + 1) <| .assign rfl .nil) fun Az Hz => ?_
  refine wpList_nil ?_
  show ∃ n', n' < _ ∧ _
  have hall2 : ∀ j e, j < k + 1 → its[j]? = some e → lastB its j < e.1 ∧ e.1 < bl ∧ (e.2.length : Int) = sz := (fun j e hj he => by
    rcases Nat.lt_succ_iff_lt_or_eq.1 hj with h9 | h9
    · exact hall j e h9 he
    subst h9; rw [hes] at he; obtain rfl := Option.some.inj he; exact ⟨by dsimp only; omega, by dsimp only; omega, by dsimp only; omega⟩)
  have hlb : xb = lastB its (k + 1) := (lastB_next hes).symm
  rw [hlb] at Hz
  exact ⟨its.length - (k + 1), by omega, k + 1, _, by omega, rfl, hall2, Hz.only [1, 3, 4], m476.ren [(9, 9)] (by decide)⟩
 intro hb465 Hz; try simp only [QQ, Qax] at hb465
 have hke : k = its.length := by have := hb465; first | omega | (simp at this; omega)
 refine wcf Hz ?_
 refine wp_exit ?_
 refine hK8 _ _ ?_
 refine regS Hz (.assign rfl .nil) fun Az Hz => ?_
 refine rt1 Hz ?_
 exact ⟨true, rfl, iff_of_true rfl ⟨⟨by omega, by omega⟩, ⟨by omega, by omega⟩, by omega, ⟨by omega, by omega⟩, by omega, (fun _ => by first | omega | (simp at *; omega)), (fun j e he => hall j e (by rw [hke]; exact (List.getElem?_eq_some_iff.1 he).1) he), hil⟩, m459.below⟩
end Go.Proofs.YtcccomafnmdlfaaDoor.K
