/- chain: Decode of any bytes, the program's and the reference's. -/
import Derived.Test.YtcccomafnmdlfaaDoorCha8m
namespace Go.Proofs.YtcccomafnmdlfaaDoor.K
open Go.ChangeShapes Go.WideShapes Go.ChangeAt Go.RowKit
set_option linter.unusedVariables false
set_option linter.unusedSimpArgs false
def BadIs (l : List StrV) (kb : Int) : Prop := (l.length = 0 ∧ kb = 0) ∨ (l.length ≠ 0 ∧ ∃ k, FB l k ∧ kb = if k < l.length then (k : Int) else -1)
theorem bad_pos {l : List StrV} {kb : Int} (h : BadIs l kb) (h0 : 0 ≤ kb) : ∃ k : Nat, FB l k ∧ (l.length = 0 ∨ k < l.length) ∧ kb = (k : Int) := by
 rcases h with ⟨h1, rfl⟩ | ⟨h1, k, h2, h3⟩
 · exact ⟨0, ⟨Nat.zero_le _, fun i hi => absurd hi (Nat.not_lt_zero _), fun h => by omega⟩, .inl h1, rfl⟩
 by_cases hk : k < l.length
 · rw [if_pos hk] at h3; exact ⟨k, h2, .inr hk, h3⟩
 rw [if_neg hk] at h3; omega
theorem bad_neg {l : List StrV} {kb : Int} (h : BadIs l kb) (h0 : kb < 0) : ∃ k : Nat, FB l k ∧ l.length ≠ 0 ∧ k = l.length := by
 rcases h with ⟨h1, rfl⟩ | ⟨h1, k, h2, h3⟩
 · omega
 by_cases hk : k < l.length
 · rw [if_pos hk] at h3; omega
 exact ⟨k, h2, h1, Nat.le_antisymm h2.1 (by omega)⟩
theorem all_one {l : List StrV} (hk : OkAt l 0) : ∀ i, i < 1 → OkAt l i := fun i hi => by
 obtain rfl : i = 0 := by omega
 exact hk
theorem all_next {l : List StrV} {k : Nat} (h : ∀ i, i < k → OkAt l i) (hk : OkAt l k) : ∀ i, i < k + 1 → OkAt l i := fun i hi => by
 rcases Nat.lt_or_ge i k with h9 | h9
 · exact h i h9
 obtain rfl : i = k := by omega
 exact hk
set_option maxRecDepth 100000
set_option maxHeartbeats 4000000
theorem pdecode_any (bs : List (List Int)) (p : Option Addr) (n c : Nat) (w0 : World) (hT : TabOk w0) (h01 : 1 ≤ w0.heap.size) (h1 : Rd (fun _ => True) w0 (.slice p n c) (.l 1 (bs.map bD))) (hl : bs.length ≤ 100) (hyb : ∀ k, k < bs.length → BytesL (bs.getD k []) ∧ (bs.getD k []).length ≤ 10000) :
   Calls Tryd.prog 7 #[.slice p n c] w0 fun e w' => ∃ (ss : List StrV) (i er : Int) (pa : Option Addr) (ca : Nat), e = .returned (.tuple #[.slice pa ss.length ca, .int .i64 i, .int .i64 er]) ∧ DecIs bs ss i er ∧ Rd (New w0) w' (.slice pa ss.length ca) (.l 5 (ss.map strD)) ∧ Below w0.heap.size w0 w' := by
 obtain rfl : n = bs.length := by obtain ⟨pq, cq, hv, _⟩ := h1.l_shape; injection hv with _ e2 _; rw [List.length_map] at e2; exact e2
 refine ent1 Tryd.func7 rfl Tryd.ntmps7 fun Az Hz => ?_
 have m0 := MemOk.start (fun _ => False) w0
 refine regS Hz (.assign rfl <| .assign rfl <| .assign rfl .nil) fun Az Hz => ?_
 refine regS Hz (.assign rfl .nil) fun Az Hz => ?_
 refine wsk fun K0 hK0 => ?_
 refine regS Hz (.move rfl <| .len rfl U23 <| .move rfl .nil) fun Az Hz => ?_
 refine wp_block ?_
 refine wp_loop_ghost (fun g a w => ∃ (k : Nat) (vs : List StrV) (p5 : Option Addr) (c5 : Nat), k ≤ bs.length ∧ g = bs.length - k ∧ RdAll bs k vs ∧ Has 45 [(5, .slice p5 (vs.map strD).length c5), (11, .slice p bs.length c), (12, .int .i64 (bs.length : Int)), (13, .int .i64 (k : Int))] a ∧ MemOk (cn w0) w0 [(9, .row (.slice p5 (vs.map strD).length c5) 38 5 (vs.map strD))] w) (bs.length) ?_ ?_
 · have mz := m0.nilR 9 38 5
   exact ⟨0, [], _, _, Nat.zero_le _, rfl, ⟨rfl, fun j hj => absurd hj (Nat.not_lt_zero _)⟩, Hz.only [5, 11, 12, 13], mz.only [9]⟩
 clear Hz m0
 rintro g Az w8 ⟨k, vs, p5, c5, hkl, hg, hvs, Hz, m8⟩
 refine regS Hz (.lss rfl rfl .nil) fun Az Hz => ?_
 refine wsk fun K1 hK1 => ?_
 refine bc Hz 14 ?_ ?_
 ·
  intro hb10 Hz; try simp only [QQ, Qax] at hb10
  have hk : k < bs.length := by have := hb10; first | omega | (simp at this; omega)
  refine wct Hz ?_
  refine zss (hK1 _ _ ?_)
  refine wsk fun K2 hK2 => ?_
  refine wp_block ?_
  refine zsr fun K3 hK3 => ?_
  refine goCh Hz (.move rfl .nil) fun Az Hz => ?_
  obtain ⟨gx14, ox14, vx14, hp14, hl14, hR14, hrg14⟩ := h1.extA (k) (r := [.ns .u8 (bs.getD k [])]) (bD_get hk)
  revert Hz
  cases hp14
  rcases hR14 with _ | ⟨hd14_0, _ | _⟩
  obtain ⟨p15, c15, hv15, hw15⟩ := hd14_0.ns_shape; subst hv15
  intro Hz
  refine gz hK3 Hz (.c rfl (fun _ h => y_idx h rfl rfl U23 fct8 (k) rfl hk) <| .loadAt1 (hrg14 m8 rfl) (q := 0) rfl rfl rfl U22 rfl <| .assign rfl <| .assign rfl <| .nil) fun Az Hz => ?_
  refine zsr fun K4 hK4 => ?_
  refine goCh Hz (.move rfl .nil) fun Az Hz => ?_
  refine plz (ecl Hz Tryd.func23 rfl (sread_any (bs.getD k []) _ _ _ (hT.below m8.below h01) (Nat.le_trans h01 m8.below.size) ((hd14_0.now' m8 rfl).any) (hyb k hk).1 (hyb k hk).2) ?_)
  rintro e w22 ⟨bl, sz, fr, to, its, pa22, ca22, er, rfl, hR, hd22, hb22⟩
  have m23 := m8.callF 101 rfl hb22 hd22
  refine ⟨_, rfl, ?_⟩; intro Az Hz
  refine goCh Hz (.move rfl <| .extract rfl rfl <| .extract rfl rfl .nil) fun Az Hz => ?_
  refine plz (e_alloc Hz m23 102 fct17 rfl fun g28 Az w29 Hz m29 _ _ => ?_)
  refine plz (stw Hz m29 102 fct2 fun w30 m30 _ => ?_)
  refine gz hK4 Hz (.assign rfl .nil) fun Az Hz => ?_
  refine wsk fun K5 hK5 => ?_
  replace Hz := Hz.oz [5, 11, 12, 13, 6, 8, 9]
  refine regS Hz (.move rfl <| .neq rfl rfl .nil) fun Az Hz => ?_
  refine bc Hz 24 ?_ ?_
  ·
   intro hb35 Hz; try simp only [QQ, Qax] at hb35
   have h9 : er ≠ 0 := by have := hb35; first | omega | (simp at this; omega)
   obtain ⟨hE, hno⟩ : er = errE (bs.getD k []) ∧ ∀ v, ¬ RdOk (bs.getD k []) v := by rcases hR.two with ⟨h8, _⟩ | ⟨_, h7, h8⟩; (exact absurd h8 h9); (exact ⟨h7, h8⟩)
   refine wct Hz ?_
   refine regS Hz (.move rfl <| .move rfl <| .assign rfl <| .assign rfl <| .assign rfl .nil) fun Az Hz => ?_
   refine rt3 Hz ?_
   exact ⟨[], _, _, none, 0, rfl, .inl ⟨vs, k, hk, hvs, hno, rfl, hE, rfl⟩, .l0 none 0 5, m30.below⟩
  intro hb35 Hz; try simp only [QQ, Qax] at hb35
  have h9 : er = 0 := by have := hb35; first | omega | (simp at this; omega)
  have hrd : RdOk (bs.getD k []) (⟨bl, sz, fr, to, its⟩ : StrV) := by rcases hR.two with ⟨_, h8⟩ | ⟨h7, _⟩; (exact h8); (exact absurd h9 h7)
  have hE9 : (vs.map strD) ++ [[D.v (.int .i64 bl), .v (.int .i64 sz), .v (.int .i64 fr), .v (.int .i64 to), .l 2 (its.map itD)]] = ((vs ++ [(⟨bl, sz, fr, to, its⟩ : StrV)]).map strD) := by rw [List.map_append]; rfl
  refine wcf Hz ?_
  refine zss (hK5 _ _ ?_)
  refine wp_region_lit ?_
  refine goCh Hz (.move rfl <| .loadBR m30 (i := 102) rfl rfl U38 rfl fct2 (by simp) (by dsimp only [List.drop, List.take] <;> rfl) .nil) fun Az Hz => ?_
  refine plz (e_litR Hz m30 103 (mm := 5) rfl (.cons rfl rfl (.cons (.v _) (.cons (.v _) (.cons (.v _) (.cons (.v _) (.cons (m30.rd (i := 101) rfl) .nil))))) .nil) U26 fct23 rfl rfl rfl rfl rfl fun g43 Az w44 Hz m44 => ?_)
  have m46 := m44.freezeR 103 rfl
  refine plz (e_appR Hz m46 9 rfl rfl rfl (m46.rd (i := 103) rfl) U26 fct23 rfl rfl (by decide) (by rw [List.length_map, hvs.1]; simp; omega) rfl fun p45 c45 Az w47 Hz m47 => ?_)
  refine gz hK2 Hz (.assign rfl .nil) fun Az Hz => ?_
  replace Hz := Hz.oz [5, 11, 12, 13, 24]
  refine wp_region_lit ?_
  refine goCh Hz (.inc (k + 1) <| .move rfl .nil) fun Az Hz => ?_
  refine wpList_nil ?_
  show ∃ n', n' < _ ∧ _
  rw [hE9] at m47 Hz
  exact ⟨bs.length - (k + 1), by omega, k + 1, _, _, _, by omega, rfl, hvs.snoc hrd, Hz.only [5, 11, 12, 13], m47.ren [(9, 9)] (by decide)⟩
 intro hb10 Hz; try simp only [QQ, Qax] at hb10
 have hk9 : k = bs.length := by have := hb10; first | omega | (simp at this; omega)
 rw [hk9] at hvs
 refine wcf Hz ?_
 refine wp_exit ?_
 refine hK0 _ _ ?_
 refine wsk fun K6 hK6 => ?_
 refine zsr fun K7 hK7 => ?_
 refine goCh Hz (.move rfl .nil) fun Az Hz => ?_
 have m54 := m8.freezeR 9 rfl
 refine plz (ecl Hz Tryd.func24 rfl (broken_any vs _ _ _ _ ((m54.rd (i := 9) rfl).any) (by rw [hvs.1]; omega) hvs.oks) ?_)
 rintro e w55 ⟨kb, rfl, hk1, hk2, hk3, hb55⟩
 have hFB : FB vs kb := ⟨hk1, hk2, hk3⟩
 have m56 := m54.later hb55
 refine ⟨_, rfl, ?_⟩; intro Az Hz
 refine gz hK7 Hz (.assign rfl .nil) fun Az Hz => ?_
 refine zsr fun K8 hK8 => ?_
 refine goCh Hz (.move rfl <| .len rfl U26 <| .eql rfl rfl <| .move rfl .nil) fun Az Hz => ?_
 refine bc Hz 37 ?_ ?_
 ·
  intro hb67 Hz; try simp only [QQ, Qax] at hb67
  have hz : vs.length = 0 := by have := hb67; rw [List.length_map] at this; omega
  refine gz hK8 Hz (.sk <| .sk <| .sk <| .sk <| .pickT rfl rfl <| .nil) fun Az Hz => ?_
  refine wct Hz ?_
  replace Hz := Hz.oz [5, 11, 12, 13, 10, 37, 42]
  refine regS Hz (.move rfl <| .assign rfl <| .assign rfl <| .assign rfl .nil) fun Az Hz => ?_
  refine rt3 Hz ?_
  exact ⟨[], _, _, none, 0, rfl, .inr ⟨vs, kb, hvs, hFB, .inl ⟨by first | exact .inl hz | exact .inr hkb, rfl, rfl, rfl⟩⟩, .l0 none 0 5, m56.below⟩
 intro hb67 Hz; try simp only [QQ, Qax] at hb67
 have hnz : vs.length ≠ 0 := by have := hb67; rw [List.length_map] at this; omega
 refine gz hK8 Hz (.moveZ rfl <| .moveZ rfl <| .lenZ rfl U26 <| .lssZ rfl rfl <| .pickF rfl rfl <| .nil) fun Az Hz => ?_
 refine bc Hz 42 ?_ ?_
 ·
  intro hb83 Hz; try simp only [QQ, Qax] at hb83
  have hkb : kb < vs.length := by have := hb83; rw [List.length_map] at this; first | omega | (simp at this; omega)
  refine wct Hz ?_
  replace Hz := Hz.oz [5, 11, 12, 13, 10, 37, 42]
  refine regS Hz (.move rfl <| .assign rfl <| .assign rfl <| .assign rfl .nil) fun Az Hz => ?_
  refine rt3 Hz ?_
  exact ⟨[], _, _, none, 0, rfl, .inr ⟨vs, kb, hvs, hFB, .inl ⟨by first | exact .inl hz | exact .inr hkb, rfl, rfl, rfl⟩⟩, .l0 none 0 5, m56.below⟩
 intro hb83 Hz; try simp only [QQ, Qax] at hb83
 have hkb : kb = vs.length := by have := hb83; rw [List.length_map] at this; first | omega | (simp at this; omega)
 refine wcf Hz ?_
 refine zss (hK6 _ _ ?_)
 replace Hz := Hz.oz [5, 11, 12, 13, 37, 42]
 refine regS Hz (.move rfl <| .assign rfl <| .assign rfl <| .assign rfl .nil) fun Az Hz => ?_
 refine rt3 Hz ?_
 exact ⟨vs, _, _, _, _, by rw [List.length_map], .inr ⟨vs, kb, hvs, hFB, .inr ⟨⟨hnz, hkb⟩, rfl, rfl, rfl⟩⟩, by have h9 := m56.outF (i := 9) rfl; rwa [List.length_map] at h9, m56.below⟩
theorem rfollows_any (x y : StrV) (pa pb : Option Addr) (na nb ca cb : Nat) (w0 : World) (h1 : Rd (fun _ => True) w0 (.slice pa na ca) (.l 2 (x.its.map itD))) (h2 : Rd (fun _ => True) w0 (.slice pb nb cb) (.l 2 (y.its.map itD))) (hsx : StreamOk x.bl x.sz x.fr x.to x.its) (hsy : StreamOk y.bl y.sz y.fr y.to y.its) :
   Calls Tryd.prog 47 #[.agg #[.int .i64 x.bl, .int .i64 x.sz, .int .i64 x.fr, .int .i64 x.to, .slice pa na ca], .agg #[.int .i64 y.bl, .int .i64 y.sz, .int .i64 y.fr, .int .i64 y.to, .slice pb nb cb]] w0 fun e w' => ∃ b : Bool, e = .returned (.bool b) ∧ (b = true ↔ FolB x y) ∧ Below w0.heap.size w0 w' := by
 obtain rfl : na = x.its.length := by obtain ⟨pq, cq, hv, _⟩ := h1.l_shape; injection hv with _ e2 _; rw [List.length_map] at e2; exact e2
 obtain rfl : nb = y.its.length := by obtain ⟨pq, cq, hv, _⟩ := h2.l_shape; injection hv with _ e2 _; rw [List.length_map] at e2; exact e2
 refine ent2 Tryd.func47 rfl Tryd.ntmps47 fun Az Hz => ?_
 have m0 := MemOk.start (fun _ => False) w0
 refine zsr fun K0 hK0 => ?_
 refine plz (e_box Hz m0 20 (cs := [_, _, _, _, _]) rfl rfl rfl fun g1 Az w2 Hz m2 _ _ => ?_)
 refine plz (e_box Hz m2 21 (cs := [_, _, _, _, _]) rfl rfl rfl fun g3 Az w4 Hz m4 _ _ => ?_)
 refine gz hK0 Hz (.assign rfl .nil) fun Az Hz => ?_
 refine zsr fun K1 hK1 => ?_
 refine goCh Hz (.loadBR m4 (i := 20) rfl rfl U38 rfl fct2 (by simp) (by dsimp only [List.drop, List.take] <;> rfl) .nil) fun Az Hz => ?_
 refine plz (ecb Hz Tryd.func18 rfl m4 (rright21_yes x.bl x.sz x.fr x.to x.its _ _ _ _ ((h1.now' m4 rfl).any) hsx) fun Az w8 Hz m9 => ?_)
 refine goCh Hz (.move rfl <| .loadBRZ m9 (i := 21) rfl rfl U38 rfl fct2 (by simp) (by dsimp only [List.drop, List.take] <;> rfl) .nil) fun Az Hz => ?_
 refine stz Hz (ecb Hz Tryd.func18 rfl m9 (rright21_yes y.bl y.sz y.fr y.to y.its _ _ _ _ ((h2.now' m9 rfl).any) hsy) fun Az w13 Hz m14 => ?_)
 refine goCh Hz (.pickT rfl rfl <| .move rfl <| .faZ 0 rfl U38 <| .loadB1Z m14 (i := 20) rfl rfl rfl U3 rfl <| .faZ 0 rfl U38 <| .loadB1Z m14 (i := 21) rfl rfl rfl U3 rfl <| .eqlZ rfl rfl <| .pickT rfl rfl <| .move rfl .nil) fun Az Hz => ?_
 refine bc Hz 18 ?_ ?_
 ·
  intro hb25 Hz; try simp only [QQ, Qax] at hb25
  have hbl := hb25
  refine goCh Hz (.faZ 1 rfl U38 <| .loadB1Z m14 (i := 20) rfl rfl rfl U3 rfl <| .faZ 1 rfl U38 <| .loadB1Z m14 (i := 21) rfl rfl rfl U3 rfl <| .eqlZ rfl rfl <| .pickT rfl rfl <| .move rfl .nil) fun Az Hz => ?_
  refine bc Hz 25 ?_ ?_
  ·
   intro hb33 Hz; try simp only [QQ, Qax] at hb33
   have hsz := hb33
   refine gz hK1 Hz (.faZ 2 rfl U38 <| .loadB1Z m14 (i := 21) rfl rfl rfl U2 rfl <| .faZ 3 rfl U38 <| .loadB1Z m14 (i := 20) rfl rfl rfl U2 rfl <| .eqlZ rfl rfl <| .pickT rfl rfl <| .assign rfl <| .nil) fun Az Hz => ?_
   refine rt1 Hz ?_
   exact ⟨_, rfl, by first | exact ⟨fun h => Bool.noConfusion h, fun h => absurd h.1 hbl⟩ | exact ⟨fun h => Bool.noConfusion h, fun h => absurd h.2.1 hsz⟩ | exact ⟨fun h => ⟨hbl, hsz, by simpa using h⟩, fun h => by simpa using h.2.2⟩, m14.below⟩
  intro hb33 Hz; try simp only [QQ, Qax] at hb33
  have hsz := hb33
  refine gz hK1 Hz (.sk <| .sk <| .sk <| .sk <| .sk <| .pickF rfl rfl <| .assign rfl <| .nil) fun Az Hz => ?_
  refine rt1 Hz ?_
  exact ⟨_, rfl, by first | exact ⟨fun h => Bool.noConfusion h, fun h => absurd h.1 hbl⟩ | exact ⟨fun h => Bool.noConfusion h, fun h => absurd h.2.1 hsz⟩ | exact ⟨fun h => ⟨hbl, hsz, by simpa using h⟩, fun h => by simpa using h.2.2⟩, m14.below⟩
 intro hb25 Hz; try simp only [QQ, Qax] at hb25
 have hbl := hb25
 refine gz hK1 Hz (.sk <| .sk <| .sk <| .sk <| .sk <| .pickF rfl rfl <| .move rfl <| .sk <| .sk <| .sk <| .sk <| .sk <| .pickF rfl rfl <| .assign rfl <| .nil) fun Az Hz => ?_
 refine rt1 Hz ?_
 exact ⟨_, rfl, by first | exact ⟨fun h => Bool.noConfusion h, fun h => absurd h.1 hbl⟩ | exact ⟨fun h => Bool.noConfusion h, fun h => absurd h.2.1 hsz⟩ | exact ⟨fun h => ⟨hbl, hsz, by simpa using h⟩, fun h => by simpa using h.2.2⟩, m14.below⟩
theorem rbad_any (l : List StrV) (p : Option Addr) (nn c : Nat) (w0 : World) (h1 : Rd (fun _ => True) w0 (.slice p nn c) (.l 5 (l.map strD))) (hl : l.length ≤ 1000) (hs : ∀ s ∈ l, StreamOk s.bl s.sz s.fr s.to s.its) :
   Calls Tryd.prog 26 #[.slice p nn c] w0 fun e w' => ∃ kb : Int, e = .returned (.int .i64 kb) ∧ BadIs l kb ∧ Below w0.heap.size w0 w' := by
 obtain rfl : nn = l.length := by obtain ⟨pq, cq, hv, _⟩ := h1.l_shape; injection hv with _ e2 _; rw [List.length_map] at e2; exact e2
 show Calls _ _ _ _ fun e w' => ∃ kb : Int, e = .returned (.int .i64 kb) ∧ ((l.length = 0 ∧ kb = 0) ∨ (l.length ≠ 0 ∧ ∃ k, FB l k ∧ kb = if k < l.length then (k : Int) else -1)) ∧ Below w0.heap.size w0 w'
 refine ent1 Tryd.func26 rfl Tryd.ntmps26 fun Az Hz => ?_
 have m0 := MemOk.start (fun _ => False) w0
 refine regS Hz (.assign rfl .nil) fun Az Hz => ?_
 refine wsk fun K0 hK0 => ?_
 refine zsr fun K1 hK1 => ?_
 refine goCh Hz (.move rfl <| .len rfl U26 <| .eql rfl rfl <| .move rfl .nil) fun Az Hz => ?_
 refine bc Hz 7 ?_ ?_
 ·
  intro hb10 Hz; try simp only [QQ, Qax] at hb10
  have hz : l.length = 0 := by have := hb10; first | omega | (simp at this; omega)
  refine gz hK1 Hz (.sk <| .sk <| .sk <| .sk <| .sk <| .pickT rfl rfl <| .move rfl <| .sk <| .sk <| .sk <| .sk <| .sk <| .pickT rfl rfl <| .nil) fun Az Hz => ?_
  refine wct Hz ?_
  replace Hz := Hz.oz [0, 2]
  refine regS Hz (.assign rfl .nil) fun Az Hz => ?_
  refine rt1 Hz ?_
  first | exact ⟨0, rfl, .inl ⟨hz, rfl⟩, m0.below⟩ | exact ⟨0, rfl, .inr ⟨hnz, 0, ⟨Nat.zero_le _, fun i hi => absurd hi (Nat.not_lt_zero _), fun _ => hno9⟩, by rw [if_pos (by omega)]; rfl⟩, m0.below⟩ | exact ⟨k, rfl, .inr ⟨hnz, k, ⟨by omega, hall, fun _ => hno9⟩, by rw [if_pos hk]⟩, m0.below⟩ | exact ⟨-1, rfl, .inr ⟨hnz, k, ⟨hkl, hall, fun h => by omega⟩, by rw [if_neg (by omega)]⟩, m0.below⟩
 intro hb10 Hz; try simp only [QQ, Qax] at hb10
 have hnz : l.length ≠ 0 := by have := hb10; first | omega | (simp at this; omega)
 obtain ⟨v0, hes0⟩ : ∃ e, l[0]? = some e := ⟨_, List.getElem?_eq_getElem (by omega)⟩
 refine goCh Hz (.moveZ rfl .nil) fun Az Hz => ?_
 obtain ⟨gx27, ox27, vx27, hp27, hl27, hR27, hrg27⟩ := h1.extA (0) (r := [.v (.int .i64 v0.bl), .v (.int .i64 v0.sz), .v (.int .i64 v0.fr), .v (.int .i64 v0.to), .l 2 (v0.its.map itD)]) (strD_get hes0)
 revert Hz
 cases hp27
 rcases hR27 with _ | ⟨hd27_0, _ | ⟨hd27_1, _ | ⟨hd27_2, _ | ⟨hd27_3, _ | ⟨hd27_4, _ | _⟩⟩⟩⟩⟩
 obtain rfl := hd27_0.v_out
 clear hd27_0
 obtain rfl := hd27_1.v_out
 clear hd27_1
 obtain rfl := hd27_2.v_out
 clear hd27_2
 obtain rfl := hd27_3.v_out
 clear hd27_3
 obtain ⟨p28, c28, hv28, hw28⟩ := hd27_4.l_shape; subst hv28
 intro Hz
 refine goCh Hz (.g rfl rfl rfl rfl (fun _ h => y_idx h rfl rfl U26 fct2 (0) rfl (by omega)) <| .loadAtZ (hrg27 m0 rfl) rfl U38 rfl fct2 .nil) fun Az Hz => ?_
 refine stz Hz (ecb Hz Tryd.func18 rfl m0 (rright21_yes v0.bl v0.sz v0.fr v0.to v0.its _ _ _ _ ((hd27_4.now' m0 rfl).any) (hs _ (List.mem_of_getElem? hes0))) fun Az w31 Hz m32 => ?_)
 refine goCh Hz (.notZ rfl <| .pickF rfl rfl <| .move rfl <| .moveZ rfl .nil) fun Az Hz => ?_
 obtain ⟨gx38, ox38, vx38, hp38, hl38, hR38, hrg38⟩ := h1.extA (0) (r := [.v (.int .i64 v0.bl), .v (.int .i64 v0.sz), .v (.int .i64 v0.fr), .v (.int .i64 v0.to), .l 2 (v0.its.map itD)]) (strD_get hes0)
 revert Hz
 cases hp38
 rcases hR38 with _ | ⟨hd38_0, _ | ⟨hd38_1, _ | ⟨hd38_2, _ | ⟨hd38_3, _ | ⟨hd38_4, _ | _⟩⟩⟩⟩⟩
 obtain rfl := hd38_0.v_out
 clear hd38_0
 obtain rfl := hd38_1.v_out
 clear hd38_1
 obtain rfl := hd38_2.v_out
 clear hd38_2
 obtain rfl := hd38_3.v_out
 clear hd38_3
 obtain ⟨p39, c39, hv39, hw39⟩ := hd38_4.l_shape; subst hv39
 intro Hz
 refine gz hK1 Hz (.g rfl rfl rfl rfl (fun _ h => y_idx h rfl rfl U26 fct2 (0) rfl (by omega)) <| .fieldAddrQZ 2 rfl U38 rfl (s := 0) (by kernel_rfl) rfl <| .loadAt1Z (hrg38 m32 rfl) (q := 2) rfl rfl rfl U2 rfl <| .geqZ rfl rfl <| .pickF rfl rfl <| .nil) fun Az Hz => ?_
 refine bc Hz 20 ?_ ?_
 ·
  intro hb45 Hz; try simp only [QQ, Qax] at hb45
  have hno9 : ¬ OkAt l 0 := fun h9 => by have h8 := (OkAt.of_zero hes0).1 h9; have h7 := hb45; first | omega | (simp at h7; omega)
  refine wct Hz ?_
  replace Hz := Hz.oz [0, 2]
  refine regS Hz (.assign rfl .nil) fun Az Hz => ?_
  refine rt1 Hz ?_
  first | exact ⟨0, rfl, .inl ⟨hz, rfl⟩, m32.below⟩ | exact ⟨0, rfl, .inr ⟨hnz, 0, ⟨Nat.zero_le _, fun i hi => absurd hi (Nat.not_lt_zero _), fun _ => hno9⟩, by rw [if_pos (by omega)]; rfl⟩, m32.below⟩ | exact ⟨k, rfl, .inr ⟨hnz, k, ⟨by omega, hall, fun _ => hno9⟩, by rw [if_pos hk]⟩, m32.below⟩ | exact ⟨-1, rfl, .inr ⟨hnz, k, ⟨hkl, hall, fun h => by omega⟩, by rw [if_neg (by omega)]⟩, m32.below⟩
 intro hb45 Hz; try simp only [QQ, Qax] at hb45
 have hok9 : OkAt l 0 := (OkAt.of_zero hes0).2 (by have h7 := hb45; first | omega | (simp at h7; omega))
 refine wcf Hz ?_
 refine zss (hK0 _ _ ?_)
 refine wsk fun K2 hK2 => ?_
 replace Hz := Hz.oz [0, 2]
 refine regS Hz (.assign rfl .nil) fun Az Hz => ?_
 refine wp_block ?_
 refine wp_loop_ghost (fun g a w => ∃ (k : Nat), 1 ≤ k ∧ k ≤ l.length ∧ g = l.length - k ∧ (∀ i, i < k → OkAt l i) ∧ Has 39 [(0, .slice (some ⟨gx27, ox27, none⟩) l.length c), (3, .int .i64 k)] a ∧ MemOk (cn w0) w0 [] w) ((l.length - 1)) ?_ ?_
 · exact ⟨1, Nat.le_refl _, by omega, rfl, all_one hok9, Hz.only [0, 3], m32.only []⟩
 clear Hz m32
 rintro g Az w50 ⟨k, hk1, hkl, hg, hall, Hz, m50⟩
 refine wsk fun K3 hK3 => ?_
 refine regS Hz (.move rfl <| .move rfl <| .len rfl U26 <| .lss rfl rfl .nil) fun Az Hz => ?_
 refine bc Hz 24 ?_ ?_
 ·
  intro hb55 Hz; try simp only [QQ, Qax] at hb55
  have hk : k < l.length := by have := hb55; first | omega | (simp at this; omega)
  obtain ⟨v1, hes1⟩ : ∃ e, l[k - 1]? = some e := ⟨_, List.getElem?_eq_getElem (by omega)⟩
  obtain ⟨v2, hes2⟩ : ∃ e, l[k]? = some e := ⟨_, List.getElem?_eq_getElem hk⟩
  refine wct Hz ?_
  refine zss (hK3 _ _ ?_)
  refine wsk fun K4 hK4 => ?_
  refine wp_block ?_
  refine wsk fun K5 hK5 => ?_
  obtain ⟨gx57, ox57, vx57, hp57, hl57, hR57, hrg57⟩ := h1.extA ((k - 1)) (r := [.v (.int .i64 v1.bl), .v (.int .i64 v1.sz), .v (.int .i64 v1.fr), .v (.int .i64 v1.to), .l 2 (v1.its.map itD)]) (strD_get hes1)
  revert Hz
  cases hp57
  rcases hR57 with _ | ⟨hd57_0, _ | ⟨hd57_1, _ | ⟨hd57_2, _ | ⟨hd57_3, _ | ⟨hd57_4, _ | _⟩⟩⟩⟩⟩
  obtain rfl := hd57_0.v_out
  clear hd57_0
  obtain rfl := hd57_1.v_out
  clear hd57_1
  obtain rfl := hd57_2.v_out
  clear hd57_2
  obtain rfl := hd57_3.v_out
  clear hd57_3
  obtain ⟨p58, c58, hv58, hw58⟩ := hd57_4.l_shape; subst hv58
  intro Hz
  obtain ⟨gx60, ox60, vx60, hp60, hl60, hR60, hrg60⟩ := h1.extA (k) (r := [.v (.int .i64 v2.bl), .v (.int .i64 v2.sz), .v (.int .i64 v2.fr), .v (.int .i64 v2.to), .l 2 (v2.its.map itD)]) (strD_get hes2)
  revert Hz
  cases hp60
  rcases hR60 with _ | ⟨hd60_0, _ | ⟨hd60_1, _ | ⟨hd60_2, _ | ⟨hd60_3, _ | ⟨hd60_4, _ | _⟩⟩⟩⟩⟩
  obtain rfl := hd60_0.v_out
  clear hd60_0
  obtain rfl := hd60_1.v_out
  clear hd60_1
  obtain rfl := hd60_2.v_out
  clear hd60_2
  obtain rfl := hd60_3.v_out
  clear hd60_3
  obtain ⟨p61, c61, hv61, hw61⟩ := hd60_4.l_shape; subst hv61
  intro Hz
  have m62 : MemOk _ _ [] _ := m50.only []; clear m50
  refine region_p 9 (B := []) (m62.to trivial) m62 (by kernel_rfl) (fun w63 hP63 m63 => ?_); clear m62
  refine goR hP63 [0, 1, 2, 3, 4, 5, 6, 7, 8] [4, 8] 9 0 511 Hz (m63.to trivial) (.move rfl <| .move rfl <| .sub rfl rfl (r := (k : Int) - 1) (IntWalk.i64_in _ (by omega)) <| .p (fun _ _ h => y_idx h rfl rfl U26 fct2 ((k - 1)) (by omega) (by omega)) <| .loadAt (fun _ h => (hrg57 h rfl)) rfl U38 rfl fct2 <| .move rfl <| .move rfl <| .p (fun _ _ h => y_idx h rfl rfl U26 fct2 (k) rfl hk) <| .loadAt (fun _ h => (hrg60 h rfl)) rfl U38 rfl fct2 .nil) fun Az Hz => ?_
  refine se 9 ?_
  refine ecl Hz Tryd.func47 rfl (rfollows_any v1 v2 _ _ _ _ _ _ _ ((hd57_4.now' m63 rfl).any) ((hd60_4.now' m63 rfl).any) (hs _ (List.mem_of_getElem? hes1)) (hs _ (List.mem_of_getElem? hes2))) ?_
  rintro e w73 ⟨fb, rfl, hfb, hb73⟩
  have m74 := m63.later hb73
  refine ⟨_, rfl, ?_⟩; intro Az Hz
  refine goB hP63 [10] 1 1023 2047 Hz (.not rfl .nil) fun Az Hz => ?_
  refine wpAnyE_done (by kernel_rfl) ?_ _
  refine hK5 _ _ ?_
  refine bc Hz 37 ?_ ?_
  ·
   intro hb77 Hz; try simp only [QQ, Qax] at hb77
   have hno9 : ¬ OkAt l k := fun h9 => by have h8 := hfb.2 ((OkAt.of_get (by omega) hes1 hes2).1 h9); have h7 := hb77; rw [h8] at h7; simp at h7
   refine wct Hz ?_
   replace Hz := Hz.oz [0, 3]
   refine regS Hz (.move rfl <| .assign rfl .nil) fun Az Hz => ?_
   refine rt1 Hz ?_
   first | exact ⟨0, rfl, .inl ⟨hz, rfl⟩, m74.below⟩ | exact ⟨0, rfl, .inr ⟨hnz, 0, ⟨Nat.zero_le _, fun i hi => absurd hi (Nat.not_lt_zero _), fun _ => hno9⟩, by rw [if_pos (by omega)]; rfl⟩, m74.below⟩ | exact ⟨k, rfl, .inr ⟨hnz, k, ⟨by omega, hall, fun _ => hno9⟩, by rw [if_pos hk]⟩, m74.below⟩ | exact ⟨-1, rfl, .inr ⟨hnz, k, ⟨hkl, hall, fun h => by omega⟩, by rw [if_neg (by omega)]⟩, m74.below⟩
  intro hb77 Hz; try simp only [QQ, Qax] at hb77
  have hok9 : OkAt l k := (OkAt.of_get (by omega) hes1 hes2).2 (hfb.1 (by simpa using hb77))
  refine wcf Hz ?_
  refine zss (hK4 _ _ ?_)
  replace Hz := Hz.oz [0, 3]
  refine wp_region_lit ?_
  refine goCh Hz (.move rfl <| .inc (k + 1) <| .assign rfl .nil) fun Az Hz => ?_
  refine wpList_nil ?_
  show ∃ n', n' < _ ∧ _
  exact ⟨l.length - (k + 1), by omega, k + 1, by omega, by omega, rfl, all_next hall hok9, Hz.only [0, 3], m74.only []⟩
 intro hb55 Hz; try simp only [QQ, Qax] at hb55
 have hke : k = l.length := by have := hb55; first | omega | (simp at this; omega)
 refine wcf Hz ?_
 refine wp_exit ?_
 refine hK2 _ _ ?_
 refine regS Hz (.assign rfl .nil) fun Az Hz => ?_
 refine rt1 Hz ?_
 first | exact ⟨0, rfl, .inl ⟨hz, rfl⟩, m50.below⟩ | exact ⟨0, rfl, .inr ⟨hnz, 0, ⟨Nat.zero_le _, fun i hi => absurd hi (Nat.not_lt_zero _), fun _ => hno9⟩, by rw [if_pos (by omega)]; rfl⟩, m50.below⟩ | exact ⟨k, rfl, .inr ⟨hnz, k, ⟨by omega, hall, fun _ => hno9⟩, by rw [if_pos hk]⟩, m50.below⟩ | exact ⟨-1, rfl, .inr ⟨hnz, k, ⟨hkl, hall, fun h => by omega⟩, by rw [if_neg (by omega)]⟩, m50.below⟩
theorem rdecode_any (X : Cx) (bs : List (List Int)) (p : Option Addr) (n c : Nat) (w0 : World) (hn : n = bs.length) (hl : bs.length ≤ 100) (hyb : ∀ k, k < bs.length → BytesL (bs.getD k []) ∧ (bs.getD k []).length ≤ 10000) (m0 : MemOk X w0 [(1, .dat (.slice p n c) (.l 1 (bs.map bD)))] w0) :
   Calls Tryd.prog 8 #[.slice p n c] w0 fun e w' => ∃ (ss : List StrV) (i er : Int) (pa : Option Addr) (ca : Nat), e = .returned (.tuple #[.slice pa ss.length ca, .int .i64 i, .int .i64 er]) ∧ DecIs bs ss i er ∧ MemOk X w0 [(1, .dat (.slice p n c) (.l 1 (bs.map bD))), (2, .dat (.slice pa ss.length ca) (.l 5 (ss.map strD)))] w' := by
 subst hn
 refine ent1 Tryd.func8 rfl Tryd.ntmps8 fun Az Hz => ?_
 refine regS Hz (.assign rfl <| .assign rfl <| .assign rfl .nil) fun Az Hz => ?_
 refine regS Hz (.assign rfl .nil) fun Az Hz => ?_
 refine wsk fun K0 hK0 => ?_
 refine regS Hz (.assign rfl .nil) fun Az Hz => ?_
 refine wp_block ?_
 refine wp_loop_ghost (fun g a w => ∃ (k : Nat) (vs : List StrV) (p5 : Option Addr) (c5 : Nat), k ≤ bs.length ∧ g = bs.length - k ∧ RdAll bs k vs ∧ Has 38 [(0, .slice p bs.length c), (5, .slice p5 (vs.map strD).length c5), (6, .int .i64 (k : Int))] a ∧ MemOk X w0 [(1, .dat (.slice p bs.length c) (.l 1 (bs.map bD))), (9, .row (.slice p5 (vs.map strD).length c5) 38 5 (vs.map strD))] w) (bs.length) ?_ ?_
 · have mz := m0.nilR 9 38 5
   exact ⟨0, [], _, _, Nat.zero_le _, rfl, ⟨rfl, fun j hj => absurd hj (Nat.not_lt_zero _)⟩, Hz.only [0, 5, 6], mz.only [1, 9]⟩
 clear Hz m0
 rintro g Az w6 ⟨k, vs, p5, c5, hkl, hg, hvs, Hz, m6⟩
 refine wsk fun K1 hK1 => ?_
 refine regS Hz (.move rfl <| .move rfl <| .len rfl U23 <| .lss rfl rfl .nil) fun Az Hz => ?_
 refine bc Hz 13 ?_ ?_
 ·
  intro hb11 Hz; try simp only [QQ, Qax] at hb11
  have hk : k < bs.length := by have := hb11; first | omega | (simp at this; omega)
  refine wct Hz ?_
  refine zss (hK1 _ _ ?_)
  refine wsk fun K2 hK2 => ?_
  refine wp_block ?_
  refine zsr fun K3 hK3 => ?_
  refine goCh Hz (.move rfl <| .move rfl .nil) fun Az Hz => ?_
  obtain ⟨b17, o17, vs17, hp17, hR17, ho17, m17⟩ := m6.openR (i := 1) rfl (k) (r := [.ns .u8 (bs.getD k [])]) (bD_get hk) 100 rfl
  revert Hz
  cases hp17; clear m6 ho17
  rcases hR17 with _ | ⟨hd17_0, _ | _⟩
  obtain ⟨p18, c18, hv18, hc18⟩ := hd17_0.ns_shape; subst hv18
  intro Hz
  have m18 := m17.dat 101 rfl (hd17_0.cast (fun _ h => (free_add rfl h))); clear m17 hd17_0
  refine goCh Hz (.c rfl (fun _ h => y_idx h rfl rfl U23 fct8 (k) rfl hk) <| .loadC0 m18 (i := 100) rfl rfl U22 rfl .nil) fun Az Hz => ?_
  refine plz (ecl Hz Tryd.func25 rfl (rread_any _ (bs.getD k []) _ _ _ (hyb k hk).1 (hyb k hk).2 (m18.into [(1, 101)] (by decide) rfl)) ?_)
  rintro e w21 ⟨bl, sz, fr, to, its, pa21, ca21, er, rfl, hR, hm21⟩
  have mx21 := m18.back hm21 [(101, 1), (102, 2)] (by decide); clear hm21 m18
  have m21 := mx21.oz [101, 102, 1, 9, 100]
  refine ⟨_, rfl, ?_⟩; intro Az Hz
  refine goCh Hz (.move rfl <| .extract rfl rfl <| .extract rfl rfl .nil) fun Az Hz => ?_
  refine plz (e_alloc Hz m21 103 fct17 rfl fun g26 Az w27 Hz m27 _ _ => ?_)
  refine plz (stw Hz m27 103 fct2 fun w28 m28 _ => ?_)
  refine gz hK3 Hz (.assign rfl .nil) fun Az Hz => ?_
  refine wsk fun K4 hK4 => ?_
  replace Hz := Hz.oz [0, 5, 6, 7, 8]
  refine regS Hz (.move rfl <| .neq rfl rfl .nil) fun Az Hz => ?_
  refine bc Hz 25 ?_ ?_
  ·
   intro hb33 Hz; try simp only [QQ, Qax] at hb33
   have h9 : er ≠ 0 := by have := hb33; first | omega | (simp at this; omega)
   obtain ⟨hE, hno⟩ : er = errE (bs.getD k []) ∧ ∀ v, ¬ RdOk (bs.getD k []) v := by rcases hR.two with ⟨h8, _⟩ | ⟨_, h7, h8⟩; (exact absurd h8 h9); (exact ⟨h7, h8⟩)
   refine wct Hz ?_
   refine regS Hz (.move rfl <| .move rfl <| .assign rfl <| .assign rfl <| .assign rfl .nil) fun Az Hz => ?_
   refine rt3 Hz ?_
   have m39 := m28.dat 91 rfl (.l0 none 0 5)
   exact ⟨[], _, _, none, 0, rfl, .inl ⟨vs, k, hk, hvs, hno, rfl, hE, rfl⟩, m39.ren [(1, 1), (2, 91)] (by decide)⟩
  intro hb33 Hz; try simp only [QQ, Qax] at hb33
  have h9 : er = 0 := by have := hb33; first | omega | (simp at this; omega)
  have hrd : RdOk (bs.getD k []) (⟨bl, sz, fr, to, its⟩ : StrV) := by rcases hR.two with ⟨_, h8⟩ | ⟨h7, _⟩; (exact h8); (exact absurd h9 h7)
  have hE9 : (vs.map strD) ++ [[D.v (.int .i64 bl), .v (.int .i64 sz), .v (.int .i64 fr), .v (.int .i64 to), .l 2 (its.map itD)]] = ((vs ++ [(⟨bl, sz, fr, to, its⟩ : StrV)]).map strD) := by rw [List.map_append]; rfl
  refine wcf Hz ?_
  refine zss (hK4 _ _ ?_)
  refine wp_region_lit ?_
  refine goCh Hz (.move rfl <| .loadBR m28 (i := 103) rfl rfl U38 rfl fct2 (by simp) (by dsimp only [List.drop, List.take] <;> rfl) .nil) fun Az Hz => ?_
  refine plz (e_litR Hz m28 104 (mm := 5) rfl (.cons rfl rfl (.cons (.v _) (.cons (.v _) (.cons (.v _) (.cons (.v _) (.cons (m28.rd (i := 102) rfl) .nil))))) .nil) U26 fct23 rfl rfl rfl rfl rfl fun g42 Az w43 Hz m43 => ?_)
  have m45 := m43.freezeR 104 rfl
  refine plz (e_appR Hz m45 9 rfl rfl rfl (m45.rd (i := 104) rfl) U26 fct23 rfl rfl (by decide) (by rw [List.length_map, hvs.1]; simp; omega) rfl fun p44 c44 Az w46 Hz m46 => ?_)
  refine gz hK2 Hz (.assign rfl .nil) fun Az Hz => ?_
  replace Hz := Hz.oz [0, 5, 6, 25]
  refine wp_region_lit ?_
  refine goCh Hz (.move rfl <| .inc (k + 1) <| .assign rfl .nil) fun Az Hz => ?_
  refine wpList_nil ?_
  show ∃ n', n' < _ ∧ _
  rw [hE9] at m46 Hz
  exact ⟨bs.length - (k + 1), by omega, k + 1, _, _, _, by omega, rfl, hvs.snoc hrd, Hz.only [0, 5, 6], m46.ren [(1, 1), (9, 9)] (by decide)⟩
 intro hb11 Hz; try simp only [QQ, Qax] at hb11
 have hk9 : k = bs.length := by have := hb11; first | omega | (simp at this; omega)
 rw [hk9] at hvs
 refine wcf Hz ?_
 refine wp_exit ?_
 refine hK0 _ _ ?_
 refine wsk fun K5 hK5 => ?_
 refine zsr fun K6 hK6 => ?_
 refine goCh Hz (.move rfl .nil) fun Az Hz => ?_
 have m54 := m6.freezeR 9 rfl
 refine plz (ecl Hz Tryd.func26 rfl (rbad_any vs _ _ _ _ ((m54.rd (i := 9) rfl).any) (by rw [hvs.1]; omega) hvs.oks) ?_)
 rintro e w55 ⟨kb, rfl, hkb, hb55⟩
 have m56 := m54.later hb55
 refine ⟨_, rfl, ?_⟩; intro Az Hz
 refine gz hK6 Hz (.assign rfl .nil) fun Az Hz => ?_
 replace Hz := Hz.oz [0, 5, 6, 9]
 refine regS Hz (.move rfl <| .geq rfl rfl .nil) fun Az Hz => ?_
 refine bc Hz 35 ?_ ?_
 ·
  intro hb62 Hz; try simp only [QQ, Qax] at hb62
  have hb9 : 0 ≤ kb := by have := hb62; first | omega | (simp at this; omega)
  refine wct Hz ?_
  refine regS Hz (.move rfl <| .assign rfl <| .assign rfl <| .assign rfl .nil) fun Az Hz => ?_
  refine rt3 Hz ?_
  revert Hz
  obtain ⟨k9, hFB, hlt, rfl⟩ := bad_pos hkb hb9
  intro Hz
  have m67 := m56.dat 91 rfl (.l0 none 0 5)
  exact ⟨[], _, _, none, 0, rfl, .inr ⟨vs, k9, hvs, hFB, .inl ⟨hlt, rfl, rfl, rfl⟩⟩, m67.ren [(1, 1), (2, 91)] (by decide)⟩
 intro hb62 Hz; try simp only [QQ, Qax] at hb62
 have hb9 : kb < 0 := by have := hb62; first | omega | (simp at this; omega)
 refine wcf Hz ?_
 refine zss (hK5 _ _ ?_)
 refine regS Hz (.move rfl <| .assign rfl <| .assign rfl <| .assign rfl .nil) fun Az Hz => ?_
 refine rt3 Hz ?_
 obtain ⟨k9, hFB, hnz, hke⟩ := bad_neg hkb hb9
 have mq := m56.ren [(1, 1), (2, 9)] (by decide)
 rw [List.length_map] at mq
 exact ⟨vs, _, _, _, _, by rw [List.length_map], .inr ⟨vs, k9, hvs, hFB, .inr ⟨⟨hnz, hke⟩, rfl, rfl, rfl⟩⟩, mq⟩
end Go.Proofs.YtcccomafnmdlfaaDoor.K
