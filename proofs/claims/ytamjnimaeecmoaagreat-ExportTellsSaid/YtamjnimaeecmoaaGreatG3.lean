/- General laws of walks. -/
import Derived.Test.YtamjnimaeecmoaaGreatG2
import Derived.Sort.OwnSortedInts
import Derived.Lib.Slices
namespace Go.Proofs.YtamjnimaeecmoaaGreat.K
open Go.ChangeShapes Go.WideShapes Go.ChangeAt Go.RowKit
set_option linter.unusedVariables false
set_option linter.unusedSimpArgs false
section
theorem fl90pu : flatS Tryz.prog 90 [.int .i64 0, .int .i64 0, .int .i64 0, .int .i64 0, .int .i64 0, .int .i64 0, .int .i64 0, .slice none 0 0] = true := by kernel_rfl
theorem fl109pu : flatS Tryz.prog 109 [.int .i64 0, .slice none 0 0] = true := by kernel_rfl
def pushL (fi cnt : Int) (W : List (Int × List (Int × List Int))) : List (Int × List (Int × List Int)) := (W.map (fun w => (w.1, itemsL fi cnt w.2))).filter (fun w => decide (0 < w.2.length))
theorem push_yes {fi cnt : Int} {W : List (Int × List (Int × List Int))} {k : Nat} {xs : Int} {xl : List (Int × List Int)} (h : W[k]? = some (xs, xl)) (hb : 0 < (itemsL fi cnt xl).length) : pushL fi cnt (W.take (k + 1)) = pushL fi cnt (W.take k) ++ [(xs, itemsL fi cnt xl)] := by
 unfold pushL
 rw [take_snoc h, List.map_append, List.filter_append]
 simp [hb]
theorem push_no {fi cnt : Int} {W : List (Int × List (Int × List Int))} {k : Nat} {xs : Int} {xl : List (Int × List Int)} (h : W[k]? = some (xs, xl)) (hb : ¬ 0 < (itemsL fi cnt xl).length) : pushL fi cnt (W.take (k + 1)) = pushL fi cnt (W.take k) := by
 unfold pushL
 rw [take_snoc h, List.map_append, List.filter_append]
 simp; simpa using hb
theorem push_len (fi cnt : Int) (W : List (Int × List (Int × List Int))) : (pushL fi cnt W).length ≤ W.length := by
 unfold pushL; exact Nat.le_trans (List.length_filter_le _ _) (by simp)
section
variable {P : Program} {n : Nat} {T : List (Nat × Value)} {a : Act} {w : World} {d : Option Tmp} {tt : TypeId} {pos : String} {af : Array Edge} {gd : Option (Nat × Bool)}
theorem y_sliceLHn (h : Has n T a) {t e : TypeId} {x y z : Operand} {p p2 : Option Addr} {l c c2 l2 : Nat} {k k2 : IntKind} {q r : Int} (i j : Nat) (hx : evT T x = some (.slice p l c)) (hy : evT T y = some (.int k q)) (hz : evT T z = some (.int k2 r)) (hu : P.underlying t = some (.slice e)) {s : Nat} (hs : (P.info? e).map (·.size) = some s) (hq : q = i) (hr : r = j) (h1 : i ≤ j) (h2 : j ≤ c) (hp : (if c = i then p else p.map (·.add (i * s))) = p2) (hc : c - i = c2) (hl : j - i = l2) : Yl P a w ⟨d, .slice t x (some y) (some z) none, tt, pos, af, gd⟩ (.slice p2 l2 c2) := by
 subst hq; subst hr; subst hc; subst hl; rw [← hp]
 have := y_sliceLH (P := P) (w := w) (tt := tt) (pos := pos) (af := af) (gd := gd) (d := d) h hx hy hz hu hs (by omega) (by omega) (by omega)
 rwa [Int.toNat_natCast, Int.toNat_natCast] at this
end
set_option maxRecDepth 100000
set_option maxHeartbeats 4000000
theorem push_any (vo bl sz pe to ne fl : Int) (hi : Bool) (pp pn pw : Option Addr) (cp nn9 cn9 cw : Nat) (place : List Int) (ws : List (Int × List (Int × List Int))) (ch fi cnt : Int) (mk tq : Nat) (w0 : World) (h2 : Rd (fun _ => True) w0 (.slice pw ws.length cw) (.l 2 (ws.map wrD))) (hl : ws.length ≤ 1000000) (hpl : place.length ≤ 1000000) (hok : WrsOk ws) (hch : 0 ≤ ch ∧ ch < place.length) (hmk : mk ≤ ws.length) (hfi : ch * pe = fi) (hfb : 0 ≤ fi ∧ fi ≤ 1000000) (hcnt : (ch = place.length - 1 → bl - fi = cnt) ∧ (ch ≠ place.length - 1 → cnt = pe)) (hcb : 0 ≤ cnt ∧ cnt ≤ 1000000) (htq : min ((mk : Int) + 4) ws.length = tq) :
   Calls Tryz.prog 45 #[.agg #[.int .i64 vo, .int .i64 bl, .int .i64 sz, .int .i64 pe, .slice pp place.length cp, .int .i64 to, .int .i64 ne, .bool hi, .int .i64 fl, .slice pn nn9 cn9, .slice pw ws.length cw], .int .i64 ch, .int .i64 (mk : Int)] w0 fun e w' => ∃ p c, e = .returned (.tuple #[.agg #[.int .i64 vo, .int .i64 ch, .int .i64 cnt, .int .i64 sz, .int .i64 (mk : Int), .int .i64 (tq : Int), .int .i64 (min fl tq), .slice p ((pushL fi cnt ((ws.take tq).drop mk)).map wrD).length c], .bool true]) ∧ Rd (New w0) w' (.slice p ((pushL fi cnt ((ws.take tq).drop mk)).map wrD).length c) (.l 2 ((pushL fi cnt ((ws.take tq).drop mk)).map wrD)) ∧ Below w0.heap.size w0 w' := by
 refine ent3 Tryz.func45 rfl Tryz.ntmps45 fun Az Hz => ?_
 have m0 := MemOk.start (fun _ => False) w0
 have hcap : ws.length ≤ cw := by obtain ⟨pq, cq, hv, hcap⟩ := h2.l_shape; injection hv with _ _ e3; rw [List.length_map] at hcap; omega
 refine zsr fun K0 hK0 => ?_
 refine plz (e_box Hz m0 20 (cs := [_, _, _, _, _, _, _, _, _, _, _]) rfl rfl rfl fun g1 Az w2 Hz m2 _ _ => ?_)
 refine plz (e_alloc Hz m2 21 fct28 rfl fun g3 Az w4 Hz m4 _ _ => ?_)
 refine gz hK0 Hz (.assign rfl .nil) fun Az Hz => ?_
 refine wsk fun K1 hK1 => ?_
 refine zsr fun K2 hK2 => ?_
 refine goCh Hz (.move rfl <| .lss rfl rfl <| .move rfl .nil) fun Az Hz => ?_
 refine bc Hz 15 ?_ ?_
 · intro hb _; exact absurd hb (by first | (simp; done) | (simp; omega))
 clear Hz; intro _ Hz
 refine goCh Hz (.moveZ rfl <| .faZ 4 rfl U33 <| .loadB1Z m4 (i := 20) rfl rfl rfl U29 rfl <| .lenZ rfl U29 <| .geqZ rfl rfl <| .pickF rfl rfl <| .move rfl .nil) fun Az Hz => ?_
 refine bc Hz 22 ?_ ?_
 · intro hb _; exact absurd hb (by first | (simp; done) | (simp; omega))
 clear Hz; intro _ Hz
 refine goCh Hz (.moveZ rfl <| .lssZ rfl rfl <| .pickF rfl rfl <| .move rfl .nil) fun Az Hz => ?_
 refine bc Hz 26 ?_ ?_
 · intro hb _; exact absurd hb (by first | (simp; done) | (simp; omega))
 clear Hz; intro _ Hz
 refine goCh Hz (.moveZ rfl <| .loadBRZ m4 (i := 20) rfl rfl U33 rfl fct1 (by simp) (by dsimp only [List.drop, List.take] <;> rfl) .nil) fun Az Hz => ?_
 refine stz Hz (ecb Hz Tryz.func69 rfl m4 (vlen_any _ _ _ _ _ _ _ _ _ _ _ _ _ _ _ _ _ _) fun Az w28 Hz m29 => ?_)
 refine gz hK2 Hz (.gtrZ rfl rfl <| .pickF rfl rfl <| .nil) fun Az Hz => ?_
 refine bc Hz 31 ?_ ?_
 · intro hb _; exact absurd hb (by first | (simp; done) | (simp; omega))
 clear Hz; intro _ Hz
 refine wcf Hz ?_
 refine zss (hK1 _ _ ?_)
 replace Hz := Hz.oz [1, 2, 3, 6, 7]
 refine regS Hz (.move rfl <| .fa 3 rfl U33 <| .lb m29 20 U3 rfl rfl rfl <| .mul rfl rfl (r := fi) (by rw [hfi]; exact IntWalk.i64_in _ (by omega)) <| .assign rfl .nil) fun Az Hz => ?_
 refine wsk fun K3 hK3 => ?_
 have m40 := m29.oz [20, 21]
 refine region_p 16 (B := [(20, _)]) (m40.to ⟨il, trivial⟩) m40 (by kernel_rfl) (fun w41 hP41 m41 => ?_); clear m40
 refine goR hP41 [0, 1, 2, 3, 4, 5, 6, 7, 8, 9, 10] [1, 4, 6, 10] 11 0 2047 Hz (m41.to ⟨il, trivial⟩) (.fa 0 rfl U33 <| .lb hh 20 U3 rfl rfl rfl <| .move rfl <| .fa 3 rfl U33 <| .lb hh 20 U3 rfl rfl rfl <| .fa 2 rfl U33 <| .lb hh 20 U3 rfl rfl rfl <| .move rfl <| .move rfl <| .add rfl rfl (r := (mk : Int) + 4) (IntWalk.i64_in _ (by omega)) <| .loadBR hh (i := 20) rfl rfl U33 rfl fct1 (by simp) (by dsimp only [List.drop, List.take] <;> rfl) .nil) fun Az Hz => ?_
 refine dtw 11 14 ?_ ?_
 ·
  refine ecb Hz Tryz.func69 rfl m41 (vlen_any _ _ _ _ _ _ _ _ _ _ _ _ _ _ _ _ _ _) fun Az w53 Hz m54 => ?_
  refine ⟨fun _ => (m54.to ⟨il, trivial⟩), ?_⟩
  refine goA hP41 [12, 13] 2 4095 16383 Hz (m54.to ⟨il, trivial⟩) (.p (fun _ _ h_ => y_min h_ rfl rfl (r := (tq : Int)) htq) <| .build rfl fct28 fl90pu rfl (by dsimp only [setL, List.set] <;> rfl) .nil) fun Az Hz => ?_
  refine so 14 ?_
  refine e_alloc Hz m54 22 fct28 rfl fun g58 Az w59 Hz m59 _ _ => ?_
  refine ⟨m59.to ⟨il, trivial⟩, ?_⟩
  refine so 15 ?_
  refine stw Hz m59 22 fct14 fun w60 m60 _ => ?_
  refine ⟨m60.to ⟨il, trivial⟩, ?_⟩
  refine wpAnyE_done (by kernel_rfl) ?_ _
  refine hK3 _ _ ?_
  refine wsk fun K4 hK4 => ?_
  replace Hz := Hz.oz [1, 2, 3, 6, 7, 8, 9]
  refine regS Hz (.move rfl <| .fa 4 rfl U33 <| .lb m60 20 U29 rfl rfl rfl <| .len rfl U29 <| .sub rfl rfl (r := (place.length : Int) - 1) (IntWalk.i64_in _ (by omega)) <| .eql rfl rfl .nil) fun Az Hz => ?_
  refine bc Hz 56 ?_ ?_
  ·
   intro hb68 Hz; try simp only [QQ, Qax] at hb68
   refine wct Hz ?_
   replace Hz := Hz.oz [2, 3, 6, 7, 8, 9]
   refine wp_region_lit ?_
   refine goCh Hz (.fa 1 rfl U33 <| .lb m60 20 U3 rfl rfl rfl <| .move rfl <| .sub rfl rfl (r := cnt) (by rw [← hcnt.1 (by omega)]; exact IntWalk.i64_in _ (by omega)) <| .fa 2 rfl U90 .nil) fun Az Hz => ?_
   refine plz (st1 Hz m60 22 fct23 fun w75 m75 _ => ?_)
   refine znl (hK4 _ _ ?_)
   refine zsr fun K5 hK5 => ?_
   refine goCh Hz (.fa 8 rfl U33 <| .lb m75 20 U2 rfl rfl rfl <| .fa 5 rfl U90 <| .lb m75 22 U2 rfl rfl rfl <| .c rfl (fun _ h_ => y_min h_ rfl rfl rfl) <| .fa 6 rfl U90 .nil) fun Az Hz => ?_
   refine plz (st1 Hz m75 22 fct10 fun w88 m88 _ => ?_)
   refine znl (hK5 _ _ ?_)
   refine wsk fun K6 hK6 => ?_
   replace Hz := Hz.oz [2, 3, 6, 7, 8, 9]
   refine zsr fun K7 hK7 => ?_
   refine goCh Hz (.fa 10 rfl U33 <| .lb m88 20 U31 rfl rfl rfl <| .move rfl <| .fa 5 rfl U90 <| .lb m88 22 U2 rfl rfl rfl .nil) fun Az Hz => ?_
   obtain ⟨P2, hP2⟩ : ∃ x, (if cw = mk then pw else pw.map (·.add (mk * 2))) = x := ⟨_, rfl⟩
   obtain ⟨W2, hW2⟩ : ∃ x, (ws.take tq).drop mk = x := ⟨_, rfl⟩
   obtain ⟨C2, hC2⟩ : ∃ x, cw - mk = x := ⟨_, rfl⟩
   have hW2l : W2.length = tq - mk := by rw [← hW2, List.length_drop, List.length_take]; omega
   have hW2o : WrsOk W2 := fun e he => hok e (by rw [← hW2] at he; exact List.mem_of_mem_take (List.mem_of_mem_drop he))
   have h2b := (h2.takeL tq (by rw [List.length_map]; omega)).dropL mk (by rw [List.length_take, List.length_map]; omega)
   rw [hP2, hC2, ← List.map_take, ← List.map_drop, hW2, ← hW2l] at h2b
   refine gz hK7 Hz (.c rfl (fun _ h_ => y_sliceLHn h_ mk tq rfl rfl rfl U31 fct15 rfl rfl (by omega) (by omega) hP2 hC2 hW2l.symm) <| .len rfl U31 <| .move rfl <| .nil) fun Az Hz => ?_
   refine wp_block ?_
   refine wp_loop_ghost (fun g a w => ∃ (k B B6 : Nat) (p : Option Addr) (c : Nat), k ≤ W2.length ∧ g = W2.length - k ∧ Has 98 [(6, .pointer (some ⟨B6, 0, none⟩)), (8, .int .i64 fi), (9, .pointer (some ⟨B, 0, none⟩)), (73, .slice P2 W2.length C2), (74, .int .i64 W2.length), (75, .int .i64 k)] a ∧ MemOk (cn w0) w0 [(6, .box B6 90 [.int .i64 0, .int .i64 0, .int .i64 0, .int .i64 0, .int .i64 0, .int .i64 0, .int .i64 0, .slice none 0 0]), (9, .box B 90 [.int .i64 vo, .int .i64 ch, .int .i64 cnt, .int .i64 sz, .int .i64 mk, .int .i64 tq, .int .i64 (min fl tq), .slice p ((pushL fi cnt (W2.take k)).map wrD).length c]), (10, .row (.slice p ((pushL fi cnt (W2.take k)).map wrD).length c) 109 2 ((pushL fi cnt (W2.take k)).map wrD))] w) (W2.length) ?_ ?_
   · have mz := m88.nilR 10 109 2
     exact ⟨0, _, _, _, _, Nat.zero_le _, rfl, Hz.only [6, 8, 9, 73, 74, 75], mz.ren [(6, 21), (9, 22), (10, 10)] (by decide)⟩
   clear Hz m88
   rintro g Az w103 ⟨k, B, B6, p, c, hkl, hg, Hz, m103⟩
   refine regS Hz (.lss rfl rfl .nil) fun Az Hz => ?_
   refine wsk fun K8 hK8 => ?_
   refine bc Hz 76 ?_ ?_
   ·
    intro hb105 Hz; try simp only [QQ, Qax] at hb105
    have hk : k < W2.length := by omega
    obtain ⟨⟨xs, xl⟩, hes⟩ : ∃ e, W2[k]? = some e := ⟨_, List.getElem?_eq_getElem hk⟩
    have hok2 := hW2o _ (List.mem_of_getElem? hes)
    dsimp only at hok2
    refine wct Hz ?_
    refine zss (hK8 _ _ ?_)
    refine wsk fun K9 hK9 => ?_
    refine wp_block ?_
    refine zsr fun K10 hK10 => ?_
    obtain ⟨gx107, ox107, vx107, hp107, hl107, hR107, hrg107⟩ := h2b.extA (k) (r := [.v (.int .i64 xs), .l 2 (xl.map itD)]) (wrD_get hes)
    revert Hz
    cases hp107
    rcases hR107 with _ | ⟨hd107_0, _ | ⟨hd107_1, _ | _⟩⟩
    obtain rfl := hd107_0.v_out
    clear hd107_0
    obtain ⟨p108, c108, hv108, hw108⟩ := hd107_1.l_shape; subst hv108
    intro Hz
    refine goCh Hz (.c rfl (fun _ h_ => y_idx h_ rfl rfl U31 fct15 (k) rfl hk) <| .loadAt (hrg107 m103 rfl) rfl U109 rfl fct15 .nil) fun Az Hz => ?_
    refine plz (e_alloc Hz m103 101 fct18 rfl fun g111 Az w112 Hz m112 _ _ => ?_)
    refine plz (stw Hz m112 101 fct15 fun w113 m113 _ => ?_)
    refine znl (hK10 _ _ ?_)
    refine zsr fun K11 hK11 => ?_
    refine goCh Hz (.loadBR m113 (i := 101) rfl rfl U109 rfl fct15 (by simp) (by dsimp only [List.drop, List.take] <;> rfl) <| .move rfl <| .fa 2 rfl U90 <| .lb m113 9 U3 rfl rfl rfl .nil) fun Az Hz => ?_
    refine plz (ecl Hz Tryz.func74 rfl (itemsOf_any fi cnt _ xl _ _ _ _ ((hd107_1.now' m113 rfl).any) hok2.1 hok2.2 hfb hcb) ?_)
    rintro e w122 ⟨p122, c122, rfl, hd122, hb122⟩
    have m123 := m113.callF 102 rfl hb122 hd122
    refine ⟨_, rfl, ?_⟩; intro Az Hz
    refine gz hK11 Hz (.assign rfl .nil) fun Az Hz => ?_
    replace Hz := Hz.oz [6, 8, 9, 73, 74, 75, 11, 12]
    refine regS Hz (.move rfl <| .len rfl U40 <| .gtr rfl rfl .nil) fun Az Hz => ?_
    refine bc Hz 86 ?_ ?_
    ·
     intro hb130 Hz; try simp only [QQ, Qax] at hb130
     refine wct Hz ?_
     refine wp_region_lit ?_
     refine goCh Hz (.fa 7 rfl U90 <| .lb m123 9 U31 rfl rfl rfl <| .fa 0 rfl U109 <| .lb m123 101 U2 rfl rfl rfl <| .move rfl <| .build rfl fct18 fl109pu rfl (by dsimp only [setL, List.set] <;> rfl) .nil) fun Az Hz => ?_
     refine plz (e_litR Hz m123 103 (mm := 2) rfl (.cons rfl rfl (.cons (.v _) (.cons (m123.rd (i := 102) rfl) .nil)) .nil) U31 fct26 rfl rfl rfl rfl rfl fun g137 Az w138 Hz m138 => ?_)
     have m140 := m138.freezeR 103 rfl
     refine plz (e_appR Hz m140 10 rfl rfl rfl (m140.rd (i := 103) rfl) U31 fct26 rfl rfl (by decide) (by have := push_len fi cnt (W2.take k); rw [List.length_take] at this; simp; omega) rfl fun p139 c139 Az w141 Hz m141 => ?_)
     refine goCh Hz (.fieldAddr (off := 7) rfl U90 rfl (s := 0) (by kernel_rfl) rfl .nil) fun Az Hz => ?_
     refine plz (st1 Hz m141 9 fct27 fun w143 m143 _ => ?_)
     refine znl (hK9 _ _ ?_)
     replace Hz := Hz.oz [6, 8, 9, 73, 74, 75, 86, 90]
     refine wp_region_lit ?_
     refine goCh Hz (.inc (k + 1) <| .move rfl .nil) fun Az Hz => ?_
     refine wpList_nil ?_
     show ∃ n', n' < _ ∧ _
     have hE : (pushL fi cnt (W2.take k)).map wrD ++ [[D.v (.int .i64 xs), .l 2 ((itemsL fi cnt xl).map itD)]] = (pushL fi cnt (W2.take (k + 1))).map wrD := by rw [push_yes hes (by have h9 := hb130; rw [List.length_map] at h9; omega), List.map_append]; rfl
     rw [hE] at m143
     exact ⟨W2.length - (k + 1), by omega, k + 1, _, _, _, _, by omega, rfl, Hz.only [6, 8, 9, 73, 74, 75], m143.only [6, 9, 10]⟩
    intro hb130 Hz; try simp only [QQ, Qax] at hb130
    refine wcf Hz ?_
    refine zss (hK9 _ _ ?_)
    refine wp_region_lit ?_
    refine goCh Hz (.inc (k + 1) <| .move rfl .nil) fun Az Hz => ?_
    refine wpList_nil ?_
    show ∃ n', n' < _ ∧ _
    have hE : (pushL fi cnt (W2.take k)) = pushL fi cnt (W2.take (k + 1)) := (push_no hes (by have h9 := hb130; rw [List.length_map] at h9; omega)).symm
    rw [hE] at m123
    exact ⟨W2.length - (k + 1), by omega, k + 1, _, _, _, _, by omega, rfl, Hz.only [6, 8, 9, 73, 74, 75], m123.only [6, 9, 10]⟩
   intro hb105 Hz; try simp only [QQ, Qax] at hb105
   revert Hz
   obtain rfl : k = W2.length := by omega
   intro Hz
   refine wcf Hz ?_
   refine wp_exit ?_
   refine hK6 _ _ ?_
   refine zsr fun K12 hK12 => ?_
   refine goCh Hz (.loadBR m103 (i := 9) rfl rfl U90 rfl fct14 (by simp) (by dsimp only [List.drop, List.take] <;> rfl) .nil) fun Az Hz => ?_
   refine plz (stw Hz m103 6 fct14 fun w151 m151 _ => ?_)
   refine gz hK12 Hz (.assign rfl .nil) fun Az Hz => ?_
   refine rtd (retCT (fn := Tryz.f45) Hz m151 (i := 6) rfl rfl rfl rfl U90 rfl fct14 ?_)
   rw [List.take_length] at *
   have m153 := m151.freezeR 10 rfl
   rw [hW2]
   exact ⟨_, _, rfl, m153.outF (i := 10) rfl, m153.below⟩
  intro hb68 Hz; try simp only [QQ, Qax] at hb68
  revert Hz
  obtain rfl : cnt = pe := hcnt.2 (by omega)
  intro Hz
  refine wcf Hz ?_
  refine zss (hK4 _ _ ?_)
  replace Hz := Hz.oz [2, 3, 6, 7, 8, 9]
  refine zsr fun K13 hK13 => ?_
  refine goCh Hz (.fa 8 rfl U33 <| .lb m60 20 U2 rfl rfl rfl <| .fa 5 rfl U90 <| .lb m60 22 U2 rfl rfl rfl <| .c rfl (fun _ h_ => y_min h_ rfl rfl rfl) <| .fa 6 rfl U90 .nil) fun Az Hz => ?_
  refine plz (st1 Hz m60 22 fct10 fun w167 m167 _ => ?_)
  refine znl (hK13 _ _ ?_)
  refine wsk fun K14 hK14 => ?_
  replace Hz := Hz.oz [2, 3, 6, 7, 8, 9]
  refine zsr fun K15 hK15 => ?_
  refine goCh Hz (.fa 10 rfl U33 <| .lb m167 20 U31 rfl rfl rfl <| .move rfl <| .fa 5 rfl U90 <| .lb m167 22 U2 rfl rfl rfl .nil) fun Az Hz => ?_
  obtain ⟨P2, hP2⟩ : ∃ x, (if cw = mk then pw else pw.map (·.add (mk * 2))) = x := ⟨_, rfl⟩
  obtain ⟨W2, hW2⟩ : ∃ x, (ws.take tq).drop mk = x := ⟨_, rfl⟩
  obtain ⟨C2, hC2⟩ : ∃ x, cw - mk = x := ⟨_, rfl⟩
  have hW2l : W2.length = tq - mk := by rw [← hW2, List.length_drop, List.length_take]; omega
  have hW2o : WrsOk W2 := fun e he => hok e (by rw [← hW2] at he; exact List.mem_of_mem_take (List.mem_of_mem_drop he))
  have h2b := (h2.takeL tq (by rw [List.length_map]; omega)).dropL mk (by rw [List.length_take, List.length_map]; omega)
  rw [hP2, hC2, ← List.map_take, ← List.map_drop, hW2, ← hW2l] at h2b
  refine gz hK15 Hz (.c rfl (fun _ h_ => y_sliceLHn h_ mk tq rfl rfl rfl U31 fct15 rfl rfl (by omega) (by omega) hP2 hC2 hW2l.symm) <| .len rfl U31 <| .move rfl <| .nil) fun Az Hz => ?_
  refine wp_block ?_
  refine wp_loop_ghost (fun g a w => ∃ (k B B6 : Nat) (p : Option Addr) (c : Nat), k ≤ W2.length ∧ g = W2.length - k ∧ Has 98 [(6, .pointer (some ⟨B6, 0, none⟩)), (8, .int .i64 fi), (9, .pointer (some ⟨B, 0, none⟩)), (73, .slice P2 W2.length C2), (74, .int .i64 W2.length), (75, .int .i64 k)] a ∧ MemOk (cn w0) w0 [(6, .box B6 90 [.int .i64 0, .int .i64 0, .int .i64 0, .int .i64 0, .int .i64 0, .int .i64 0, .int .i64 0, .slice none 0 0]), (9, .box B 90 [.int .i64 vo, .int .i64 ch, .int .i64 cnt, .int .i64 sz, .int .i64 mk, .int .i64 tq, .int .i64 (min fl tq), .slice p ((pushL fi cnt (W2.take k)).map wrD).length c]), (10, .row (.slice p ((pushL fi cnt (W2.take k)).map wrD).length c) 109 2 ((pushL fi cnt (W2.take k)).map wrD))] w) (W2.length) ?_ ?_
  · have mz := m167.nilR 10 109 2
    exact ⟨0, _, _, _, _, Nat.zero_le _, rfl, Hz.only [6, 8, 9, 73, 74, 75], mz.ren [(6, 21), (9, 22), (10, 10)] (by decide)⟩
  clear Hz m167
  rintro g Az w182 ⟨k, B, B6, p, c, hkl, hg, Hz, m182⟩
  refine regS Hz (.lss rfl rfl .nil) fun Az Hz => ?_
  refine wsk fun K16 hK16 => ?_
  refine bc Hz 76 ?_ ?_
  ·
   intro hb184 Hz; try simp only [QQ, Qax] at hb184
   have hk : k < W2.length := by omega
   obtain ⟨⟨xs, xl⟩, hes⟩ : ∃ e, W2[k]? = some e := ⟨_, List.getElem?_eq_getElem hk⟩
   have hok2 := hW2o _ (List.mem_of_getElem? hes)
   dsimp only at hok2
   refine wct Hz ?_
   refine zss (hK16 _ _ ?_)
   refine wsk fun K17 hK17 => ?_
   refine wp_block ?_
   refine zsr fun K18 hK18 => ?_
   obtain ⟨gx186, ox186, vx186, hp186, hl186, hR186, hrg186⟩ := h2b.extA (k) (r := [.v (.int .i64 xs), .l 2 (xl.map itD)]) (wrD_get hes)
   revert Hz
   cases hp186
   rcases hR186 with _ | ⟨hd186_0, _ | ⟨hd186_1, _ | _⟩⟩
   obtain rfl := hd186_0.v_out
   clear hd186_0
   obtain ⟨p187, c187, hv187, hw187⟩ := hd186_1.l_shape; subst hv187
   intro Hz
   refine goCh Hz (.c rfl (fun _ h_ => y_idx h_ rfl rfl U31 fct15 (k) rfl hk) <| .loadAt (hrg186 m182 rfl) rfl U109 rfl fct15 .nil) fun Az Hz => ?_
   refine plz (e_alloc Hz m182 101 fct18 rfl fun g190 Az w191 Hz m191 _ _ => ?_)
   refine plz (stw Hz m191 101 fct15 fun w192 m192 _ => ?_)
   refine znl (hK18 _ _ ?_)
   refine zsr fun K19 hK19 => ?_
   refine goCh Hz (.loadBR m192 (i := 101) rfl rfl U109 rfl fct15 (by simp) (by dsimp only [List.drop, List.take] <;> rfl) <| .move rfl <| .fa 2 rfl U90 <| .lb m192 9 U3 rfl rfl rfl .nil) fun Az Hz => ?_
   refine plz (ecl Hz Tryz.func74 rfl (itemsOf_any fi cnt _ xl _ _ _ _ ((hd186_1.now' m192 rfl).any) hok2.1 hok2.2 hfb hcb) ?_)
   rintro e w201 ⟨p201, c201, rfl, hd201, hb201⟩
   have m202 := m192.callF 102 rfl hb201 hd201
   refine ⟨_, rfl, ?_⟩; intro Az Hz
   refine gz hK19 Hz (.assign rfl .nil) fun Az Hz => ?_
   replace Hz := Hz.oz [6, 8, 9, 73, 74, 75, 11, 12]
   refine regS Hz (.move rfl <| .len rfl U40 <| .gtr rfl rfl .nil) fun Az Hz => ?_
   refine bc Hz 86 ?_ ?_
   ·
    intro hb209 Hz; try simp only [QQ, Qax] at hb209
    refine wct Hz ?_
    refine wp_region_lit ?_
    refine goCh Hz (.fa 7 rfl U90 <| .lb m202 9 U31 rfl rfl rfl <| .fa 0 rfl U109 <| .lb m202 101 U2 rfl rfl rfl <| .move rfl <| .build rfl fct18 fl109pu rfl (by dsimp only [setL, List.set] <;> rfl) .nil) fun Az Hz => ?_
    refine plz (e_litR Hz m202 103 (mm := 2) rfl (.cons rfl rfl (.cons (.v _) (.cons (m202.rd (i := 102) rfl) .nil)) .nil) U31 fct26 rfl rfl rfl rfl rfl fun g216 Az w217 Hz m217 => ?_)
    have m219 := m217.freezeR 103 rfl
    refine plz (e_appR Hz m219 10 rfl rfl rfl (m219.rd (i := 103) rfl) U31 fct26 rfl rfl (by decide) (by have := push_len fi cnt (W2.take k); rw [List.length_take] at this; simp; omega) rfl fun p218 c218 Az w220 Hz m220 => ?_)
    refine goCh Hz (.fieldAddr (off := 7) rfl U90 rfl (s := 0) (by kernel_rfl) rfl .nil) fun Az Hz => ?_
    refine plz (st1 Hz m220 9 fct27 fun w222 m222 _ => ?_)
    refine znl (hK17 _ _ ?_)
    replace Hz := Hz.oz [6, 8, 9, 73, 74, 75, 86, 90]
    refine wp_region_lit ?_
    refine goCh Hz (.inc (k + 1) <| .move rfl .nil) fun Az Hz => ?_
    refine wpList_nil ?_
    show ∃ n', n' < _ ∧ _
    have hE : (pushL fi cnt (W2.take k)).map wrD ++ [[D.v (.int .i64 xs), .l 2 ((itemsL fi cnt xl).map itD)]] = (pushL fi cnt (W2.take (k + 1))).map wrD := by rw [push_yes hes (by have h9 := hb209; rw [List.length_map] at h9; omega), List.map_append]; rfl
    rw [hE] at m222
    exact ⟨W2.length - (k + 1), by omega, k + 1, _, _, _, _, by omega, rfl, Hz.only [6, 8, 9, 73, 74, 75], m222.only [6, 9, 10]⟩
   intro hb209 Hz; try simp only [QQ, Qax] at hb209
   refine wcf Hz ?_
   refine zss (hK17 _ _ ?_)
   refine wp_region_lit ?_
   refine goCh Hz (.inc (k + 1) <| .move rfl .nil) fun Az Hz => ?_
   refine wpList_nil ?_
   show ∃ n', n' < _ ∧ _
   have hE : (pushL fi cnt (W2.take k)) = pushL fi cnt (W2.take (k + 1)) := (push_no hes (by have h9 := hb209; rw [List.length_map] at h9; omega)).symm
   rw [hE] at m202
   exact ⟨W2.length - (k + 1), by omega, k + 1, _, _, _, _, by omega, rfl, Hz.only [6, 8, 9, 73, 74, 75], m202.only [6, 9, 10]⟩
  intro hb184 Hz; try simp only [QQ, Qax] at hb184
  revert Hz
  obtain rfl : k = W2.length := by omega
  intro Hz
  refine wcf Hz ?_
  refine wp_exit ?_
  refine hK14 _ _ ?_
  refine zsr fun K20 hK20 => ?_
  refine goCh Hz (.loadBR m182 (i := 9) rfl rfl U90 rfl fct14 (by simp) (by dsimp only [List.drop, List.take] <;> rfl) .nil) fun Az Hz => ?_
  refine plz (stw Hz m182 6 fct14 fun w230 m230 _ => ?_)
  refine gz hK20 Hz (.assign rfl .nil) fun Az Hz => ?_
  refine rtd (retCT (fn := Tryz.f45) Hz m230 (i := 6) rfl rfl rfl rfl U90 rfl fct14 ?_)
  rw [List.take_length] at *
  have m232 := m230.freezeR 10 rfl
  rw [hW2]
  exact ⟨_, _, rfl, m232.outF (i := 10) rfl, m232.below⟩
 refine e_alloc Hz m41 22 fct28 rfl fun g233 Az w234 Hz m234 _ _ => ?_
 refine ⟨fun _ => (m234.to ⟨il, trivial⟩), ?_⟩
 refine so 11 ?_
 refine ecb Hz Tryz.func69 rfl m234 (vlen_any _ _ _ _ _ _ _ _ _ _ _ _ _ _ _ _ _ _) fun Az w235 Hz m236 => ?_
 refine ⟨m236.to ⟨il, trivial⟩, ?_⟩
 refine goA hP41 [12, 13] 2 20479 32767 Hz (m236.to ⟨il, trivial⟩) (.p (fun _ _ h_ => y_min h_ rfl rfl (r := (tq : Int)) htq) <| .build rfl fct28 fl90pu rfl (by dsimp only [setL, List.set] <;> rfl) .nil) fun Az Hz => ?_
 refine so 15 ?_
 refine stw Hz m236 22 fct14 fun w240 m240 _ => ?_
 refine ⟨m240.to ⟨il, trivial⟩, ?_⟩
 refine wpAnyE_done (by kernel_rfl) ?_ _
 refine hK3 _ _ ?_
 refine wsk fun K21 hK21 => ?_
 replace Hz := Hz.oz [1, 2, 3, 6, 7, 8, 9]
 refine regS Hz (.move rfl <| .fa 4 rfl U33 <| .lb m240 20 U29 rfl rfl rfl <| .len rfl U29 <| .sub rfl rfl (r := (place.length : Int) - 1) (IntWalk.i64_in _ (by omega)) <| .eql rfl rfl .nil) fun Az Hz => ?_
 refine bc Hz 56 ?_ ?_
 ·
  intro hb248 Hz; try simp only [QQ, Qax] at hb248
  refine wct Hz ?_
  replace Hz := Hz.oz [2, 3, 6, 7, 8, 9]
  refine wp_region_lit ?_
  refine goCh Hz (.fa 1 rfl U33 <| .lb m240 20 U3 rfl rfl rfl <| .move rfl <| .sub rfl rfl (r := cnt) (by rw [← hcnt.1 (by omega)]; exact IntWalk.i64_in _ (by omega)) <| .fa 2 rfl U90 .nil) fun Az Hz => ?_
  refine plz (st1 Hz m240 22 fct23 fun w255 m255 _ => ?_)
  refine znl (hK21 _ _ ?_)
  refine zsr fun K22 hK22 => ?_
  refine goCh Hz (.fa 8 rfl U33 <| .lb m255 20 U2 rfl rfl rfl <| .fa 5 rfl U90 <| .lb m255 22 U2 rfl rfl rfl <| .c rfl (fun _ h_ => y_min h_ rfl rfl rfl) <| .fa 6 rfl U90 .nil) fun Az Hz => ?_
  refine plz (st1 Hz m255 22 fct10 fun w268 m268 _ => ?_)
  refine znl (hK22 _ _ ?_)
  refine wsk fun K23 hK23 => ?_
  replace Hz := Hz.oz [2, 3, 6, 7, 8, 9]
  refine zsr fun K24 hK24 => ?_
  refine goCh Hz (.fa 10 rfl U33 <| .lb m268 20 U31 rfl rfl rfl <| .move rfl <| .fa 5 rfl U90 <| .lb m268 22 U2 rfl rfl rfl .nil) fun Az Hz => ?_
  obtain ⟨P2, hP2⟩ : ∃ x, (if cw = mk then pw else pw.map (·.add (mk * 2))) = x := ⟨_, rfl⟩
  obtain ⟨W2, hW2⟩ : ∃ x, (ws.take tq).drop mk = x := ⟨_, rfl⟩
  obtain ⟨C2, hC2⟩ : ∃ x, cw - mk = x := ⟨_, rfl⟩
  have hW2l : W2.length = tq - mk := by rw [← hW2, List.length_drop, List.length_take]; omega
  have hW2o : WrsOk W2 := fun e he => hok e (by rw [← hW2] at he; exact List.mem_of_mem_take (List.mem_of_mem_drop he))
  have h2b := (h2.takeL tq (by rw [List.length_map]; omega)).dropL mk (by rw [List.length_take, List.length_map]; omega)
  rw [hP2, hC2, ← List.map_take, ← List.map_drop, hW2, ← hW2l] at h2b
  refine gz hK24 Hz (.c rfl (fun _ h_ => y_sliceLHn h_ mk tq rfl rfl rfl U31 fct15 rfl rfl (by omega) (by omega) hP2 hC2 hW2l.symm) <| .len rfl U31 <| .move rfl <| .nil) fun Az Hz => ?_
  refine wp_block ?_
  refine wp_loop_ghost (fun g a w => ∃ (k B B6 : Nat) (p : Option Addr) (c : Nat), k ≤ W2.length ∧ g = W2.length - k ∧ Has 98 [(6, .pointer (some ⟨B6, 0, none⟩)), (8, .int .i64 fi), (9, .pointer (some ⟨B, 0, none⟩)), (73, .slice P2 W2.length C2), (74, .int .i64 W2.length), (75, .int .i64 k)] a ∧ MemOk (cn w0) w0 [(6, .box B6 90 [.int .i64 0, .int .i64 0, .int .i64 0, .int .i64 0, .int .i64 0, .int .i64 0, .int .i64 0, .slice none 0 0]), (9, .box B 90 [.int .i64 vo, .int .i64 ch, .int .i64 cnt, .int .i64 sz, .int .i64 mk, .int .i64 tq, .int .i64 (min fl tq), .slice p ((pushL fi cnt (W2.take k)).map wrD).length c]), (10, .row (.slice p ((pushL fi cnt (W2.take k)).map wrD).length c) 109 2 ((pushL fi cnt (W2.take k)).map wrD))] w) (W2.length) ?_ ?_
  · have mz := m268.nilR 10 109 2
    exact ⟨0, _, _, _, _, Nat.zero_le _, rfl, Hz.only [6, 8, 9, 73, 74, 75], mz.ren [(6, 21), (9, 22), (10, 10)] (by decide)⟩
  clear Hz m268
  rintro g Az w283 ⟨k, B, B6, p, c, hkl, hg, Hz, m283⟩
  refine regS Hz (.lss rfl rfl .nil) fun Az Hz => ?_
  refine wsk fun K25 hK25 => ?_
  refine bc Hz 76 ?_ ?_
  ·
   intro hb285 Hz; try simp only [QQ, Qax] at hb285
   have hk : k < W2.length := by omega
   obtain ⟨⟨xs, xl⟩, hes⟩ : ∃ e, W2[k]? = some e := ⟨_, List.getElem?_eq_getElem hk⟩
   have hok2 := hW2o _ (List.mem_of_getElem? hes)
   dsimp only at hok2
   refine wct Hz ?_
   refine zss (hK25 _ _ ?_)
   refine wsk fun K26 hK26 => ?_
   refine wp_block ?_
   refine zsr fun K27 hK27 => ?_
   obtain ⟨gx287, ox287, vx287, hp287, hl287, hR287, hrg287⟩ := h2b.extA (k) (r := [.v (.int .i64 xs), .l 2 (xl.map itD)]) (wrD_get hes)
   revert Hz
   cases hp287
   rcases hR287 with _ | ⟨hd287_0, _ | ⟨hd287_1, _ | _⟩⟩
   obtain rfl := hd287_0.v_out
   clear hd287_0
   obtain ⟨p288, c288, hv288, hw288⟩ := hd287_1.l_shape; subst hv288
   intro Hz
   refine goCh Hz (.c rfl (fun _ h_ => y_idx h_ rfl rfl U31 fct15 (k) rfl hk) <| .loadAt (hrg287 m283 rfl) rfl U109 rfl fct15 .nil) fun Az Hz => ?_
   refine plz (e_alloc Hz m283 101 fct18 rfl fun g291 Az w292 Hz m292 _ _ => ?_)
   refine plz (stw Hz m292 101 fct15 fun w293 m293 _ => ?_)
   refine znl (hK27 _ _ ?_)
   refine zsr fun K28 hK28 => ?_
   refine goCh Hz (.loadBR m293 (i := 101) rfl rfl U109 rfl fct15 (by simp) (by dsimp only [List.drop, List.take] <;> rfl) <| .move rfl <| .fa 2 rfl U90 <| .lb m293 9 U3 rfl rfl rfl .nil) fun Az Hz => ?_
   refine plz (ecl Hz Tryz.func74 rfl (itemsOf_any fi cnt _ xl _ _ _ _ ((hd287_1.now' m293 rfl).any) hok2.1 hok2.2 hfb hcb) ?_)
   rintro e w302 ⟨p302, c302, rfl, hd302, hb302⟩
   have m303 := m293.callF 102 rfl hb302 hd302
   refine ⟨_, rfl, ?_⟩; intro Az Hz
   refine gz hK28 Hz (.assign rfl .nil) fun Az Hz => ?_
   replace Hz := Hz.oz [6, 8, 9, 73, 74, 75, 11, 12]
   refine regS Hz (.move rfl <| .len rfl U40 <| .gtr rfl rfl .nil) fun Az Hz => ?_
   refine bc Hz 86 ?_ ?_
   ·
    intro hb310 Hz; try simp only [QQ, Qax] at hb310
    refine wct Hz ?_
    refine wp_region_lit ?_
    refine goCh Hz (.fa 7 rfl U90 <| .lb m303 9 U31 rfl rfl rfl <| .fa 0 rfl U109 <| .lb m303 101 U2 rfl rfl rfl <| .move rfl <| .build rfl fct18 fl109pu rfl (by dsimp only [setL, List.set] <;> rfl) .nil) fun Az Hz => ?_
    refine plz (e_litR Hz m303 103 (mm := 2) rfl (.cons rfl rfl (.cons (.v _) (.cons (m303.rd (i := 102) rfl) .nil)) .nil) U31 fct26 rfl rfl rfl rfl rfl fun g317 Az w318 Hz m318 => ?_)
    have m320 := m318.freezeR 103 rfl
    refine plz (e_appR Hz m320 10 rfl rfl rfl (m320.rd (i := 103) rfl) U31 fct26 rfl rfl (by decide) (by have := push_len fi cnt (W2.take k); rw [List.length_take] at this; simp; omega) rfl fun p319 c319 Az w321 Hz m321 => ?_)
    refine goCh Hz (.fieldAddr (off := 7) rfl U90 rfl (s := 0) (by kernel_rfl) rfl .nil) fun Az Hz => ?_
    refine plz (st1 Hz m321 9 fct27 fun w323 m323 _ => ?_)
    refine znl (hK26 _ _ ?_)
    replace Hz := Hz.oz [6, 8, 9, 73, 74, 75, 86, 90]
    refine wp_region_lit ?_
    refine goCh Hz (.inc (k + 1) <| .move rfl .nil) fun Az Hz => ?_
    refine wpList_nil ?_
    show ∃ n', n' < _ ∧ _
    have hE : (pushL fi cnt (W2.take k)).map wrD ++ [[D.v (.int .i64 xs), .l 2 ((itemsL fi cnt xl).map itD)]] = (pushL fi cnt (W2.take (k + 1))).map wrD := by rw [push_yes hes (by have h9 := hb310; rw [List.length_map] at h9; omega), List.map_append]; rfl
    rw [hE] at m323
    exact ⟨W2.length - (k + 1), by omega, k + 1, _, _, _, _, by omega, rfl, Hz.only [6, 8, 9, 73, 74, 75], m323.only [6, 9, 10]⟩
   intro hb310 Hz; try simp only [QQ, Qax] at hb310
   refine wcf Hz ?_
   refine zss (hK26 _ _ ?_)
   refine wp_region_lit ?_
   refine goCh Hz (.inc (k + 1) <| .move rfl .nil) fun Az Hz => ?_
   refine wpList_nil ?_
   show ∃ n', n' < _ ∧ _
   have hE : (pushL fi cnt (W2.take k)) = pushL fi cnt (W2.take (k + 1)) := (push_no hes (by have h9 := hb310; rw [List.length_map] at h9; omega)).symm
   rw [hE] at m303
   exact ⟨W2.length - (k + 1), by omega, k + 1, _, _, _, _, by omega, rfl, Hz.only [6, 8, 9, 73, 74, 75], m303.only [6, 9, 10]⟩
  intro hb285 Hz; try simp only [QQ, Qax] at hb285
  revert Hz
  obtain rfl : k = W2.length := by omega
  intro Hz
  refine wcf Hz ?_
  refine wp_exit ?_
  refine hK23 _ _ ?_
  refine zsr fun K29 hK29 => ?_
  refine goCh Hz (.loadBR m283 (i := 9) rfl rfl U90 rfl fct14 (by simp) (by dsimp only [List.drop, List.take] <;> rfl) .nil) fun Az Hz => ?_
  refine plz (stw Hz m283 6 fct14 fun w331 m331 _ => ?_)
  refine gz hK29 Hz (.assign rfl .nil) fun Az Hz => ?_
  refine rtd (retCT (fn := Tryz.f45) Hz m331 (i := 6) rfl rfl rfl rfl U90 rfl fct14 ?_)
  rw [List.take_length] at *
  have m333 := m331.freezeR 10 rfl
  rw [hW2]
  exact ⟨_, _, rfl, m333.outF (i := 10) rfl, m333.below⟩
 intro hb248 Hz; try simp only [QQ, Qax] at hb248
 revert Hz
 obtain rfl : cnt = pe := hcnt.2 (by omega)
 intro Hz
 refine wcf Hz ?_
 refine zss (hK21 _ _ ?_)
 replace Hz := Hz.oz [2, 3, 6, 7, 8, 9]
 refine zsr fun K30 hK30 => ?_
 refine goCh Hz (.fa 8 rfl U33 <| .lb m240 20 U2 rfl rfl rfl <| .fa 5 rfl U90 <| .lb m240 22 U2 rfl rfl rfl <| .c rfl (fun _ h_ => y_min h_ rfl rfl rfl) <| .fa 6 rfl U90 .nil) fun Az Hz => ?_
 refine plz (st1 Hz m240 22 fct10 fun w347 m347 _ => ?_)
 refine znl (hK30 _ _ ?_)
 refine wsk fun K31 hK31 => ?_
 replace Hz := Hz.oz [2, 3, 6, 7, 8, 9]
 refine zsr fun K32 hK32 => ?_
 refine goCh Hz (.fa 10 rfl U33 <| .lb m347 20 U31 rfl rfl rfl <| .move rfl <| .fa 5 rfl U90 <| .lb m347 22 U2 rfl rfl rfl .nil) fun Az Hz => ?_
 obtain ⟨P2, hP2⟩ : ∃ x, (if cw = mk then pw else pw.map (·.add (mk * 2))) = x := ⟨_, rfl⟩
 obtain ⟨W2, hW2⟩ : ∃ x, (ws.take tq).drop mk = x := ⟨_, rfl⟩
 obtain ⟨C2, hC2⟩ : ∃ x, cw - mk = x := ⟨_, rfl⟩
 have hW2l : W2.length = tq - mk := by rw [← hW2, List.length_drop, List.length_take]; omega
 have hW2o : WrsOk W2 := fun e he => hok e (by rw [← hW2] at he; exact List.mem_of_mem_take (List.mem_of_mem_drop he))
 have h2b := (h2.takeL tq (by rw [List.length_map]; omega)).dropL mk (by rw [List.length_take, List.length_map]; omega)
 rw [hP2, hC2, ← List.map_take, ← List.map_drop, hW2, ← hW2l] at h2b
 refine gz hK32 Hz (.c rfl (fun _ h_ => y_sliceLHn h_ mk tq rfl rfl rfl U31 fct15 rfl rfl (by omega) (by omega) hP2 hC2 hW2l.symm) <| .len rfl U31 <| .move rfl <| .nil) fun Az Hz => ?_
 refine wp_block ?_
 refine wp_loop_ghost (fun g a w => ∃ (k B B6 : Nat) (p : Option Addr) (c : Nat), k ≤ W2.length ∧ g = W2.length - k ∧ Has 98 [(6, .pointer (some ⟨B6, 0, none⟩)), (8, .int .i64 fi), (9, .pointer (some ⟨B, 0, none⟩)), (73, .slice P2 W2.length C2), (74, .int .i64 W2.length), (75, .int .i64 k)] a ∧ MemOk (cn w0) w0 [(6, .box B6 90 [.int .i64 0, .int .i64 0, .int .i64 0, .int .i64 0, .int .i64 0, .int .i64 0, .int .i64 0, .slice none 0 0]), (9, .box B 90 [.int .i64 vo, .int .i64 ch, .int .i64 cnt, .int .i64 sz, .int .i64 mk, .int .i64 tq, .int .i64 (min fl tq), .slice p ((pushL fi cnt (W2.take k)).map wrD).length c]), (10, .row (.slice p ((pushL fi cnt (W2.take k)).map wrD).length c) 109 2 ((pushL fi cnt (W2.take k)).map wrD))] w) (W2.length) ?_ ?_
 · have mz := m347.nilR 10 109 2
   exact ⟨0, _, _, _, _, Nat.zero_le _, rfl, Hz.only [6, 8, 9, 73, 74, 75], mz.ren [(6, 21), (9, 22), (10, 10)] (by decide)⟩
 clear Hz m347
 rintro g Az w362 ⟨k, B, B6, p, c, hkl, hg, Hz, m362⟩
 refine regS Hz (.lss rfl rfl .nil) fun Az Hz => ?_
 refine wsk fun K33 hK33 => ?_
 refine bc Hz 76 ?_ ?_
 ·
  intro hb364 Hz; try simp only [QQ, Qax] at hb364
  have hk : k < W2.length := by omega
  obtain ⟨⟨xs, xl⟩, hes⟩ : ∃ e, W2[k]? = some e := ⟨_, List.getElem?_eq_getElem hk⟩
  have hok2 := hW2o _ (List.mem_of_getElem? hes)
  dsimp only at hok2
  refine wct Hz ?_
  refine zss (hK33 _ _ ?_)
  refine wsk fun K34 hK34 => ?_
  refine wp_block ?_
  refine zsr fun K35 hK35 => ?_
  obtain ⟨gx366, ox366, vx366, hp366, hl366, hR366, hrg366⟩ := h2b.extA (k) (r := [.v (.int .i64 xs), .l 2 (xl.map itD)]) (wrD_get hes)
  revert Hz
  cases hp366
  rcases hR366 with _ | ⟨hd366_0, _ | ⟨hd366_1, _ | _⟩⟩
  obtain rfl := hd366_0.v_out
  clear hd366_0
  obtain ⟨p367, c367, hv367, hw367⟩ := hd366_1.l_shape; subst hv367
  intro Hz
  refine goCh Hz (.c rfl (fun _ h_ => y_idx h_ rfl rfl U31 fct15 (k) rfl hk) <| .loadAt (hrg366 m362 rfl) rfl U109 rfl fct15 .nil) fun Az Hz => ?_
  refine plz (e_alloc Hz m362 101 fct18 rfl fun g370 Az w371 Hz m371 _ _ => ?_)
  refine plz (stw Hz m371 101 fct15 fun w372 m372 _ => ?_)
  refine znl (hK35 _ _ ?_)
  refine zsr fun K36 hK36 => ?_
  refine goCh Hz (.loadBR m372 (i := 101) rfl rfl U109 rfl fct15 (by simp) (by dsimp only [List.drop, List.take] <;> rfl) <| .move rfl <| .fa 2 rfl U90 <| .lb m372 9 U3 rfl rfl rfl .nil) fun Az Hz => ?_
  refine plz (ecl Hz Tryz.func74 rfl (itemsOf_any fi cnt _ xl _ _ _ _ ((hd366_1.now' m372 rfl).any) hok2.1 hok2.2 hfb hcb) ?_)
  rintro e w381 ⟨p381, c381, rfl, hd381, hb381⟩
  have m382 := m372.callF 102 rfl hb381 hd381
  refine ⟨_, rfl, ?_⟩; intro Az Hz
  refine gz hK36 Hz (.assign rfl .nil) fun Az Hz => ?_
  replace Hz := Hz.oz [6, 8, 9, 73, 74, 75, 11, 12]
  refine regS Hz (.move rfl <| .len rfl U40 <| .gtr rfl rfl .nil) fun Az Hz => ?_
  refine bc Hz 86 ?_ ?_
  ·
   intro hb389 Hz; try simp only [QQ, Qax] at hb389
   refine wct Hz ?_
   refine wp_region_lit ?_
   refine goCh Hz (.fa 7 rfl U90 <| .lb m382 9 U31 rfl rfl rfl <| .fa 0 rfl U109 <| .lb m382 101 U2 rfl rfl rfl <| .move rfl <| .build rfl fct18 fl109pu rfl (by dsimp only [setL, List.set] <;> rfl) .nil) fun Az Hz => ?_
   refine plz (e_litR Hz m382 103 (mm := 2) rfl (.cons rfl rfl (.cons (.v _) (.cons (m382.rd (i := 102) rfl) .nil)) .nil) U31 fct26 rfl rfl rfl rfl rfl fun g396 Az w397 Hz m397 => ?_)
   have m399 := m397.freezeR 103 rfl
   refine plz (e_appR Hz m399 10 rfl rfl rfl (m399.rd (i := 103) rfl) U31 fct26 rfl rfl (by decide) (by have := push_len fi cnt (W2.take k); rw [List.length_take] at this; simp; omega) rfl fun p398 c398 Az w400 Hz m400 => ?_)
   refine goCh Hz (.fieldAddr (off := 7) rfl U90 rfl (s := 0) (by kernel_rfl) rfl .nil) fun Az Hz => ?_
   refine plz (st1 Hz m400 9 fct27 fun w402 m402 _ => ?_)
   refine znl (hK34 _ _ ?_)
   replace Hz := Hz.oz [6, 8, 9, 73, 74, 75, 86, 90]
   refine wp_region_lit ?_
   refine goCh Hz (.inc (k + 1) <| .move rfl .nil) fun Az Hz => ?_
   refine wpList_nil ?_
   show ∃ n', n' < _ ∧ _
   have hE : (pushL fi cnt (W2.take k)).map wrD ++ [[D.v (.int .i64 xs), .l 2 ((itemsL fi cnt xl).map itD)]] = (pushL fi cnt (W2.take (k + 1))).map wrD := by rw [push_yes hes (by have h9 := hb389; rw [List.length_map] at h9; omega), List.map_append]; rfl
   rw [hE] at m402
   exact ⟨W2.length - (k + 1), by omega, k + 1, _, _, _, _, by omega, rfl, Hz.only [6, 8, 9, 73, 74, 75], m402.only [6, 9, 10]⟩
  intro hb389 Hz; try simp only [QQ, Qax] at hb389
  refine wcf Hz ?_
  refine zss (hK34 _ _ ?_)
  refine wp_region_lit ?_
  refine goCh Hz (.inc (k + 1) <| .move rfl .nil) fun Az Hz => ?_
  refine wpList_nil ?_
  show ∃ n', n' < _ ∧ _
  have hE : (pushL fi cnt (W2.take k)) = pushL fi cnt (W2.take (k + 1)) := (push_no hes (by have h9 := hb389; rw [List.length_map] at h9; omega)).symm
  rw [hE] at m382
  exact ⟨W2.length - (k + 1), by omega, k + 1, _, _, _, _, by omega, rfl, Hz.only [6, 8, 9, 73, 74, 75], m382.only [6, 9, 10]⟩
 intro hb364 Hz; try simp only [QQ, Qax] at hb364
 revert Hz
 obtain rfl : k = W2.length := by omega
 intro Hz
 refine wcf Hz ?_
 refine wp_exit ?_
 refine hK31 _ _ ?_
 refine zsr fun K37 hK37 => ?_
 refine goCh Hz (.loadBR m362 (i := 9) rfl rfl U90 rfl fct14 (by simp) (by dsimp only [List.drop, List.take] <;> rfl) .nil) fun Az Hz => ?_
 refine plz (stw Hz m362 6 fct14 fun w410 m410 _ => ?_)
 refine gz hK37 Hz (.assign rfl .nil) fun Az Hz => ?_
 refine rtd (retCT (fn := Tryz.f45) Hz m410 (i := 6) rfl rfl rfl rfl U90 rfl fct14 ?_)
 rw [List.take_length] at *
 have m412 := m410.freezeR 10 rfl
 rw [hW2]
 exact ⟨_, _, rfl, m412.outF (i := 10) rfl, m412.below⟩
end
section
set_option maxRecDepth 100000
set_option maxHeartbeats 4000000
end
section
theorem fl33rn : flatS Tryz.prog 33 [.int .i64 0, .int .i64 0, .int .i64 0, .int .i64 0, .slice none 0 0, .int .i64 0, .int .i64 0, .bool false, .int .i64 0, .slice none 0 0, .slice none 0 0] = true := by kernel_rfl
theorem fl81cr : flatS Tryz.prog 81 [.int .i64 0, .int .i64 0, .int .i64 0, .int .i64 0, .int .i64 0, .slice none 0 0, .int .i64 0, .int .i64 0, .int .i64 0, .slice none 0 0] = true := by kernel_rfl
theorem fl111is2 : flatS Tryz.prog 111 [.int .i64 0, .slice none 0 0] = true := by kernel_rfl
def BytesL (d : List Int) : Prop := ∀ x ∈ d, 0 ≤ x ∧ x ≤ 255
theorem bytes_snoc {d : List Int} {z : Int} (h : BytesL d) (hz : 0 ≤ z ∧ z ≤ 255) : BytesL (d ++ [z]) := fun x hx => by
 rcases List.mem_append.1 hx with h1 | h1
 · exact h x h1
 simp at h1; subst h1; exact hz
def crL (px : Int) (i : Nat) : List Int := (List.range i).map (fun j : Nat => 1 + ((j : Int) + px) % 2)
theorem crL_len (px : Int) (i : Nat) : (crL px i).length = i := by simp [crL]
theorem crL_snoc (px : Int) (i : Nat) : crL px (i + 1) = crL px i ++ [1 + ((i : Int) + px) % 2] := by simp [crL, List.range_succ]
theorem crL_ok (px : Int) (i : Nat) : ∀ g ∈ crL px i, 1 ≤ g ∧ g ≤ 7 := fun g hg => by
 obtain ⟨j, -, rfl⟩ := List.mem_map.1 hg
 omega
def ItsB (es : List (Int × List Int)) : Prop := ∀ e ∈ es, e.2.length ≤ 1000000 ∧ BytesL e.2
theorem ItsB.ok {es : List (Int × List Int)} (h : ItsB es) : ItsOk es := fun e he => Nat.le_trans (h e he).1 (by decide)
theorem itsB_snoc {es : List (Int × List Int)} {b : Int} {d : List Int} (h : ItsB es) (h1 : d.length ≤ 1000000) (h2 : BytesL d) : ItsB (es ++ [(b, d)]) := fun e he => by
 rcases List.mem_append.1 he with h3 | h3
 · exact h e h3
 simp at h3; subst h3; exact ⟨h1, h2⟩
theorem itpre_app {bl sz : Int} {it : List (Int × List Int)} {b : Int} {d : List Int} (h : ItPre bl sz it it.length) (hb : 0 ≤ b ∧ b < bl) (hs : (d.length : Int) = sz) (hn : ¬ ∃ e ∈ it, e.1 = b) : ItPre bl sz (it ++ [(b, d)]) (it.length + 1) := fun j hj => by
 rcases Nat.lt_or_ge j it.length with h1 | h1
 · have h2 := h j h1
   rw [show (it ++ [(b, d)]).getD j i0 = it.getD j i0 by simp [List.getD, List.getElem?_append, h1], List.take_append_of_le_length (by omega)]
   exact h2
 obtain rfl : j = it.length := by omega
 rw [show (it ++ [(b, d)]).getD it.length i0 = (b, d) by simp [List.getD], List.take_left]
 exact ⟨hb.1, hb.2, hs, hn⟩
theorem there_snoc {it : List (Int × List Int)} {j : Nat} {b yb : Int} {yd : List Int} {tb : Bool} (h : tb = true ↔ ∃ e ∈ it.take j, e.1 = b) (hit : it[j]? = some (yb, yd)) : (tb || decide (yb = b)) = true ↔ ∃ e ∈ it.take (j + 1), e.1 = b := by
 rw [take_snoc hit, Bool.or_eq_true, h, decide_eq_true_eq]
 constructor
 · rintro (⟨e, h1, h2⟩ | h1)
   · exact ⟨e, List.mem_append_left _ h1, h2⟩
   exact ⟨_, List.mem_append_right _ (List.mem_singleton.2 rfl), h1⟩
 rintro ⟨e, h1, h2⟩
 rcases List.mem_append.1 h1 with h3 | h3
 · exact .inl ⟨e, h3, h2⟩
 simp at h3; subst h3; exact .inr h2
set_option maxRecDepth 100000
set_option maxHeartbeats 4000000
theorem sitems_any (es : List (Int × List Int)) (p1 p2 : Option Addr) (n1 n2 c1 c2 : Nat) (w0 : World) (h1 : Rd (fun _ => True) w0 (.slice p1 n1 c1) (.l 2 (es.map itD))) (h2 : Rd (fun _ => True) w0 (.slice p2 n2 c2) (.l 2 (es.map itD))) (hl : es.length ≤ 1000000) :
   Calls Tryz.prog 42 #[.slice p1 n1 c1, .slice p2 n2 c2] w0 fun e w' => e = .returned (.bool true) ∧ Below w0.heap.size w0 w' := by
 obtain rfl : n1 = es.length := by obtain ⟨pq, cq, hv, _⟩ := h1.l_shape; injection hv with _ e2 _; rw [List.length_map] at e2; exact e2
 obtain rfl : n2 = es.length := by obtain ⟨pq, cq, hv, _⟩ := h2.l_shape; injection hv with _ e2 _; rw [List.length_map] at e2; exact e2
 refine ent2 Tryz.func42 rfl Tryz.ntmps42 fun Az Hz => ?_
 have m0 := MemOk.start (fun _ => False) w0
 refine regS Hz (.assign rfl .nil) fun Az Hz => ?_
 refine wsk fun K0 hK0 => ?_
 refine regS Hz (.move rfl <| .len rfl U40 <| .move rfl <| .len rfl U40 <| .neq rfl rfl .nil) fun Az Hz => ?_
 refine bc Hz 10 ?_ ?_
 · intro hb _; exact absurd hb (by simp)
 clear Hz; intro _ Hz
 refine wcf Hz ?_
 refine zss (hK0 _ _ ?_)
 refine wsk fun K1 hK1 => ?_
 refine regS Hz (.assign rfl .nil) fun Az Hz => ?_
 refine wp_block ?_
 refine wp_loop_ghost (fun g a w => ∃ k : Nat, k ≤ es.length ∧ g = es.length - k ∧ Has 43 [(0, .slice p1 es.length c1), (1, .slice p2 es.length c2), (5, .int .i64 k)] a ∧ MemOk (cn w0) w0 [] w) (es.length) ?_ ?_
 · exact ⟨0, Nat.zero_le _, rfl, Hz.only [0, 1, 5], m0.only []⟩
 clear Hz m0
 rintro g Az w9 ⟨k, hkl, hg, Hz, m9⟩
 refine wsk fun K2 hK2 => ?_
 refine regS Hz (.move rfl <| .move rfl <| .len rfl U40 <| .lss rfl rfl .nil) fun Az Hz => ?_
 refine bc Hz 14 ?_ ?_
 ·
  intro hb14 Hz; try simp only [QQ, Qax] at hb14
  have hk : k < es.length := by omega
  obtain ⟨⟨xb, xd⟩, hes⟩ : ∃ e, es[k]? = some e := ⟨_, List.getElem?_eq_getElem hk⟩
  refine wct Hz ?_
  refine zss (hK2 _ _ ?_)
  refine wsk fun K3 hK3 => ?_
  refine wp_block ?_
  refine wsk fun K4 hK4 => ?_
  obtain ⟨gx16, ox16, vx16, hp16, hl16, hR16, hrg16⟩ := h1.extA (k) (r := [.v (.int .i64 xb), .ns .u8 xd]) (itD_get hes)
  revert Hz
  cases hp16
  rcases hR16 with _ | ⟨hd16_0, _ | ⟨hd16_1, _ | _⟩⟩
  obtain rfl := hd16_0.v_out
  clear hd16_0
  obtain ⟨p17, c17, hv17, hw17⟩ := hd16_1.ns_shape; subst hv17
  intro Hz
  obtain ⟨gx19, ox19, vx19, hp19, hl19, hR19, hrg19⟩ := h2.extA (k) (r := [.v (.int .i64 xb), .ns .u8 xd]) (itD_get hes)
  revert Hz
  cases hp19
  rcases hR19 with _ | ⟨hd19_0, _ | ⟨hd19_1, _ | _⟩⟩
  obtain rfl := hd19_0.v_out
  clear hd19_0
  obtain ⟨p20, c20, hv20, hw20⟩ := hd19_1.ns_shape; subst hv20
  intro Hz
  obtain ⟨gx22, ox22, vx22, hp22, hl22, hR22, hrg22⟩ := h1.extA (k) (r := [.v (.int .i64 xb), .ns .u8 xd]) (itD_get hes)
  revert Hz
  cases hp22
  rcases hR22 with _ | ⟨hd22_0, _ | ⟨hd22_1, _ | _⟩⟩
  obtain rfl := hd22_0.v_out
  clear hd22_0
  obtain ⟨p23, c23, hv23, hw23⟩ := hd22_1.ns_shape; subst hv23
  intro Hz
  obtain ⟨gx25, ox25, vx25, hp25, hl25, hR25, hrg25⟩ := h2.extA (k) (r := [.v (.int .i64 xb), .ns .u8 xd]) (itD_get hes)
  revert Hz
  cases hp25
  rcases hR25 with _ | ⟨hd25_0, _ | ⟨hd25_1, _ | _⟩⟩
  obtain rfl := hd25_0.v_out
  clear hd25_0
  obtain ⟨p26, c26, hv26, hw26⟩ := hd25_1.ns_shape; subst hv26
  intro Hz
  have m27 : MemOk _ _ [] _ := m9.only []; clear m9
  refine region_p 26 (B := []) (m27.to trivial) m27 (by kernel_rfl) (fun w28 hP28 m28 => ?_); clear m27
  refine goR hP28 [0, 1, 2, 3, 4, 5, 6, 7, 8, 9, 10, 11] [4, 9] 12 0 4095 Hz (m28.to trivial) (.move rfl <| .move rfl <| .p (fun _ _ h_ => y_idx h_ rfl rfl U40 fct16 (k) rfl hk) <| .fieldAddrQ 0 rfl U111 rfl (s := 0) (by kernel_rfl) rfl <| .loadAt1 (fun _ h_ => (hrg16 h_ rfl)) (q := 0) rfl rfl rfl U3 rfl <| .move rfl <| .move rfl <| .p (fun _ _ h_ => y_idx h_ rfl rfl U40 fct16 (k) rfl hk) <| .fieldAddrQ 0 rfl U111 rfl (s := 0) (by kernel_rfl) rfl <| .loadAt1 (fun _ h_ => (hrg19 h_ rfl)) (q := 0) rfl rfl rfl U3 rfl <| .neq rfl rfl <| .move rfl .nil) fun Az Hz => ?_
  refine bc Hz 28 ?_ ?_
  · intro hb _; exact absurd hb (by simp)
  clear Hz; intro _ Hz
  refine goR hP28 [12, 13, 14, 15, 16, 17, 18, 19, 20, 21, 22, 23, 24, 25] [16, 17, 22, 23] 14 4095 67108863 Hz (m28.to trivial) (.move rfl <| .move rfl <| .p (fun _ _ h_ => y_idx h_ rfl rfl U40 fct16 (k) rfl hk) <| .fieldAddrQ 1 rfl U111 rfl (s := 0) (by kernel_rfl) rfl <| .loadAt1 (fun _ h_ => (hrg22 h_ rfl)) (q := 1) rfl rfl rfl U22 rfl <| .str rfl (fun _ h_ => (hd22_1.now' h_ rfl).ns_out.nums) U22 U5 U9 <| .move rfl <| .move rfl <| .p (fun _ _ h_ => y_idx h_ rfl rfl U40 fct16 (k) rfl hk) <| .fieldAddrQ 1 rfl U111 rfl (s := 0) (by kernel_rfl) rfl <| .loadAt1 (fun _ h_ => (hrg25 h_ rfl)) (q := 1) rfl rfl rfl U22 rfl <| .str rfl (fun _ h_ => (hd25_1.now' h_ rfl).ns_out.nums) U22 U5 U9 <| .neqS rfl rfl <| .pickF rfl rfl .nil) fun Az Hz => ?_
  refine wpAnyE_done (by kernel_rfl) ?_ _
  refine hK4 _ _ ?_
  refine bc Hz 42 ?_ ?_
  · intro hb _; exact absurd hb (by simp)
  clear Hz; intro _ Hz
  refine wcf Hz ?_
  refine zss (hK3 _ _ ?_)
  replace Hz := Hz.oz [0, 1, 5]
  refine wp_region_lit ?_
  refine goCh Hz (.move rfl <| .inc (k + 1) <| .assign rfl .nil) fun Az Hz => ?_
  refine wpList_nil ?_
  show ∃ n', n' < _ ∧ _
  exact ⟨es.length - (k + 1), by omega, k + 1, by omega, rfl, Hz.only [0, 1, 5], m28.only []⟩
 intro hb14 Hz; try simp only [QQ, Qax] at hb14
 revert Hz
 obtain rfl : k = es.length := by omega
 intro Hz
 refine wcf Hz ?_
 refine wp_exit ?_
 refine hK1 _ _ ?_
 refine regS Hz (.assign rfl .nil) fun Az Hz => ?_
 refine rt1 Hz ?_
 exact ⟨by simp, m9.below⟩
theorem rshape_any (kd vo bl sz pe to at0 ix : Int) (place : List Int) (pp pi : Option Addr) (cp ni ci : Nat) (w0 : World) (h0 : Rd (fun _ => True) w0 (.slice pp place.length cp) (.ns .i64 place)) (hn : place.length ≤ 1000000) :
   Calls Tryz.prog 64 #[.agg #[.int .i64 kd, .int .i64 vo, .int .i64 bl, .int .i64 sz, .int .i64 pe, .slice pp place.length cp, .int .i64 to, .int .i64 at0, .int .i64 ix, .slice pi ni ci]] w0 fun e w' => ∃ b : Bool, e = .returned (.bool b) ∧ (b = true ↔ NewOk vo bl sz pe to place) ∧ Below w0.heap.size w0 w' := by
 refine ent1 Tryz.func64 rfl Tryz.ntmps64 fun Az Hz => ?_
 have m0 := MemOk.start (fun _ => False) w0
 refine zsr fun K0 hK0 => ?_
 refine plz (e_box Hz m0 20 (cs := [_, _, _, _, _, _, _, _, _, _]) rfl rfl rfl fun g1 Az w2 Hz m2 _ _ => ?_)
 refine gz hK0 Hz (.assign rfl .nil) fun Az Hz => ?_
 refine wsk fun K1 hK1 => ?_
 refine wsk fun K2 hK2 => ?_
 have m4 := m2.oz [20]
 refine region_p 61 (B := [(20, _)]) (m4.to ⟨il, trivial⟩) m4 (by kernel_rfl) (fun w5 hP5 m5 => ?_); clear m4
 refine goR hP5 [0, 1, 2, 3] [1] 4 0 15 Hz (m5.to ⟨il, trivial⟩) (.fa 1 rfl U81 <| .lb hh 20 U3 rfl rfl rfl <| .lss rfl rfl <| .move rfl .nil) fun Az Hz => ?_
 refine bc Hz 7 ?_ ?_
 ·
  intro hb10 Hz; try simp only [QQ, Qax] at hb10
  refine goA hP5 [4, 5, 6, 7, 8, 9, 10, 11, 12, 13, 14, 15, 16, 17, 18, 19, 20, 21, 22, 23, 24, 25, 26, 27, 28, 29, 30, 31, 32, 33, 34, 35, 36, 37, 38, 39, 40, 41, 42, 43, 44, 45, 46, 47, 48, 49, 50, 51, 52, 53, 54, 55, 56, 57, 58, 59, 60] 57 15 2305843009213693951 Hz (m5.to ⟨il, trivial⟩) (.s <| .s <| .s <| .pickT rfl rfl <| .move rfl <| .s <| .s <| .s <| .pickT rfl rfl <| .move rfl <| .s <| .s <| .s <| .pickT rfl rfl <| .move rfl <| .s <| .s <| .s <| .pickT rfl rfl <| .move rfl <| .s <| .s <| .s <| .pickT rfl rfl <| .move rfl <| .s <| .s <| .s <| .pickT rfl rfl <| .move rfl <| .s <| .s <| .s <| .s <| .s <| .pickT rfl rfl <| .move rfl <| .s <| .s <| .s <| .s <| .s <| .s <| .s <| .s <| .s <| .pickT rfl rfl <| .move rfl <| .s <| .s <| .s <| .pickT rfl rfl <| .move rfl <| .s <| .s <| .s <| .pickT rfl rfl .nil) fun Az Hz => ?_
  refine wpAnyE_done (by kernel_rfl) ?_ _
  refine hK2 _ _ ?_
  refine wct Hz ?_
  replace Hz := Hz.oz [1, 2]
  refine regS Hz (.assign rfl .nil) fun Az Hz => ?_
  refine rt1 Hz ?_
  exact ⟨false, rfl, iff_of_false (by simp) (fun h => by obtain ⟨h1, h2, h3, h4, h5, h6, h7, h8, ⟨h9, h10⟩, h11, h12⟩ := h; first | omega | (have h13 := h9 _ (getD_mem hk); omega)), m5.below⟩
 intro hb10 Hz; try simp only [QQ, Qax] at hb10
 refine goR hP5 [4, 5, 6, 7, 8] [5] 5 15 511 Hz (m5.to ⟨il, trivial⟩) (.fa 1 rfl U81 <| .lb hh 20 U3 rfl rfl rfl <| .geq rfl rfl <| .pickF rfl rfl <| .move rfl .nil) fun Az Hz => ?_
 refine bc Hz 12 ?_ ?_
 ·
  intro hb75 Hz; try simp only [QQ, Qax] at hb75
  refine goA hP5 [9, 10, 11, 12, 13, 14, 15, 16, 17, 18, 19, 20, 21, 22, 23, 24, 25, 26, 27, 28, 29, 30, 31, 32, 33, 34, 35, 36, 37, 38, 39, 40, 41, 42, 43, 44, 45, 46, 47, 48, 49, 50, 51, 52, 53, 54, 55, 56, 57, 58, 59, 60] 52 511 2305843009213693951 Hz (m5.to ⟨il, trivial⟩) (.s <| .s <| .s <| .pickT rfl rfl <| .move rfl <| .s <| .s <| .s <| .pickT rfl rfl <| .move rfl <| .s <| .s <| .s <| .pickT rfl rfl <| .move rfl <| .s <| .s <| .s <| .pickT rfl rfl <| .move rfl <| .s <| .s <| .s <| .pickT rfl rfl <| .move rfl <| .s <| .s <| .s <| .s <| .s <| .pickT rfl rfl <| .move rfl <| .s <| .s <| .s <| .s <| .s <| .s <| .s <| .s <| .s <| .pickT rfl rfl <| .move rfl <| .s <| .s <| .s <| .pickT rfl rfl <| .move rfl <| .s <| .s <| .s <| .pickT rfl rfl .nil) fun Az Hz => ?_
  refine wpAnyE_done (by kernel_rfl) ?_ _
  refine hK2 _ _ ?_
  refine wct Hz ?_
  replace Hz := Hz.oz [1, 2]
  refine regS Hz (.assign rfl .nil) fun Az Hz => ?_
  refine rt1 Hz ?_
  exact ⟨false, rfl, iff_of_false (by simp) (fun h => by obtain ⟨h1, h2, h3, h4, h5, h6, h7, h8, ⟨h9, h10⟩, h11, h12⟩ := h; first | omega | (have h13 := h9 _ (getD_mem hk); omega)), m5.below⟩
 intro hb75 Hz; try simp only [QQ, Qax] at hb75
 refine goR hP5 [9, 10, 11, 12, 13] [10] 5 511 16383 Hz (m5.to ⟨il, trivial⟩) (.fa 2 rfl U81 <| .lb hh 20 U3 rfl rfl rfl <| .lss rfl rfl <| .pickF rfl rfl <| .move rfl .nil) fun Az Hz => ?_
 refine bc Hz 17 ?_ ?_
 ·
  intro hb135 Hz; try simp only [QQ, Qax] at hb135
  refine goA hP5 [14, 15, 16, 17, 18, 19, 20, 21, 22, 23, 24, 25, 26, 27, 28, 29, 30, 31, 32, 33, 34, 35, 36, 37, 38, 39, 40, 41, 42, 43, 44, 45, 46, 47, 48, 49, 50, 51, 52, 53, 54, 55, 56, 57, 58, 59, 60] 47 16383 2305843009213693951 Hz (m5.to ⟨il, trivial⟩) (.s <| .s <| .s <| .pickT rfl rfl <| .move rfl <| .s <| .s <| .s <| .pickT rfl rfl <| .move rfl <| .s <| .s <| .s <| .pickT rfl rfl <| .move rfl <| .s <| .s <| .s <| .pickT rfl rfl <| .move rfl <| .s <| .s <| .s <| .s <| .s <| .pickT rfl rfl <| .move rfl <| .s <| .s <| .s <| .s <| .s <| .s <| .s <| .s <| .s <| .pickT rfl rfl <| .move rfl <| .s <| .s <| .s <| .pickT rfl rfl <| .move rfl <| .s <| .s <| .s <| .pickT rfl rfl .nil) fun Az Hz => ?_
  refine wpAnyE_done (by kernel_rfl) ?_ _
  refine hK2 _ _ ?_
  refine wct Hz ?_
  replace Hz := Hz.oz [1, 2]
  refine regS Hz (.assign rfl .nil) fun Az Hz => ?_
  refine rt1 Hz ?_
  exact ⟨false, rfl, iff_of_false (by simp) (fun h => by obtain ⟨h1, h2, h3, h4, h5, h6, h7, h8, ⟨h9, h10⟩, h11, h12⟩ := h; first | omega | (have h13 := h9 _ (getD_mem hk); omega)), m5.below⟩
 intro hb135 Hz; try simp only [QQ, Qax] at hb135
 refine goR hP5 [14, 15, 16, 17, 18] [15] 5 16383 524287 Hz (m5.to ⟨il, trivial⟩) (.fa 2 rfl U81 <| .lb hh 20 U3 rfl rfl rfl <| .gtr rfl rfl <| .pickF rfl rfl <| .move rfl .nil) fun Az Hz => ?_
 refine bc Hz 22 ?_ ?_
 ·
  intro hb190 Hz; try simp only [QQ, Qax] at hb190
  refine goA hP5 [19, 20, 21, 22, 23, 24, 25, 26, 27, 28, 29, 30, 31, 32, 33, 34, 35, 36, 37, 38, 39, 40, 41, 42, 43, 44, 45, 46, 47, 48, 49, 50, 51, 52, 53, 54, 55, 56, 57, 58, 59, 60] 42 524287 2305843009213693951 Hz (m5.to ⟨il, trivial⟩) (.s <| .s <| .s <| .pickT rfl rfl <| .move rfl <| .s <| .s <| .s <| .pickT rfl rfl <| .move rfl <| .s <| .s <| .s <| .pickT rfl rfl <| .move rfl <| .s <| .s <| .s <| .s <| .s <| .pickT rfl rfl <| .move rfl <| .s <| .s <| .s <| .s <| .s <| .s <| .s <| .s <| .s <| .pickT rfl rfl <| .move rfl <| .s <| .s <| .s <| .pickT rfl rfl <| .move rfl <| .s <| .s <| .s <| .pickT rfl rfl .nil) fun Az Hz => ?_
  refine wpAnyE_done (by kernel_rfl) ?_ _
  refine hK2 _ _ ?_
  refine wct Hz ?_
  replace Hz := Hz.oz [1, 2]
  refine regS Hz (.assign rfl .nil) fun Az Hz => ?_
  refine rt1 Hz ?_
  exact ⟨false, rfl, iff_of_false (by simp) (fun h => by obtain ⟨h1, h2, h3, h4, h5, h6, h7, h8, ⟨h9, h10⟩, h11, h12⟩ := h; first | omega | (have h13 := h9 _ (getD_mem hk); omega)), m5.below⟩
 intro hb190 Hz; try simp only [QQ, Qax] at hb190
 refine goR hP5 [19, 20, 21, 22, 23] [20] 5 524287 16777215 Hz (m5.to ⟨il, trivial⟩) (.fa 3 rfl U81 <| .lb hh 20 U3 rfl rfl rfl <| .lss rfl rfl <| .pickF rfl rfl <| .move rfl .nil) fun Az Hz => ?_
 refine bc Hz 27 ?_ ?_
 ·
  intro hb240 Hz; try simp only [QQ, Qax] at hb240
  refine goA hP5 [24, 25, 26, 27, 28, 29, 30, 31, 32, 33, 34, 35, 36, 37, 38, 39, 40, 41, 42, 43, 44, 45, 46, 47, 48, 49, 50, 51, 52, 53, 54, 55, 56, 57, 58, 59, 60] 37 16777215 2305843009213693951 Hz (m5.to ⟨il, trivial⟩) (.s <| .s <| .s <| .pickT rfl rfl <| .move rfl <| .s <| .s <| .s <| .pickT rfl rfl <| .move rfl <| .s <| .s <| .s <| .s <| .s <| .pickT rfl rfl <| .move rfl <| .s <| .s <| .s <| .s <| .s <| .s <| .s <| .s <| .s <| .pickT rfl rfl <| .move rfl <| .s <| .s <| .s <| .pickT rfl rfl <| .move rfl <| .s <| .s <| .s <| .pickT rfl rfl .nil) fun Az Hz => ?_
  refine wpAnyE_done (by kernel_rfl) ?_ _
  refine hK2 _ _ ?_
  refine wct Hz ?_
  replace Hz := Hz.oz [1, 2]
  refine regS Hz (.assign rfl .nil) fun Az Hz => ?_
  refine rt1 Hz ?_
  exact ⟨false, rfl, iff_of_false (by simp) (fun h => by obtain ⟨h1, h2, h3, h4, h5, h6, h7, h8, ⟨h9, h10⟩, h11, h12⟩ := h; first | omega | (have h13 := h9 _ (getD_mem hk); omega)), m5.below⟩
 intro hb240 Hz; try simp only [QQ, Qax] at hb240
 refine goR hP5 [24, 25, 26, 27, 28] [25] 5 16777215 536870911 Hz (m5.to ⟨il, trivial⟩) (.fa 3 rfl U81 <| .lb hh 20 U3 rfl rfl rfl <| .gtr rfl rfl <| .pickF rfl rfl <| .move rfl .nil) fun Az Hz => ?_
 refine bc Hz 32 ?_ ?_
 ·
  intro hb285 Hz; try simp only [QQ, Qax] at hb285
  refine goA hP5 [29, 30, 31, 32, 33, 34, 35, 36, 37, 38, 39, 40, 41, 42, 43, 44, 45, 46, 47, 48, 49, 50, 51, 52, 53, 54, 55, 56, 57, 58, 59, 60] 32 536870911 2305843009213693951 Hz (m5.to ⟨il, trivial⟩) (.s <| .s <| .s <| .pickT rfl rfl <| .move rfl <| .s <| .s <| .s <| .s <| .s <| .pickT rfl rfl <| .move rfl <| .s <| .s <| .s <| .s <| .s <| .s <| .s <| .s <| .s <| .pickT rfl rfl <| .move rfl <| .s <| .s <| .s <| .pickT rfl rfl <| .move rfl <| .s <| .s <| .s <| .pickT rfl rfl .nil) fun Az Hz => ?_
  refine wpAnyE_done (by kernel_rfl) ?_ _
  refine hK2 _ _ ?_
  refine wct Hz ?_
  replace Hz := Hz.oz [1, 2]
  refine regS Hz (.assign rfl .nil) fun Az Hz => ?_
  refine rt1 Hz ?_
  exact ⟨false, rfl, iff_of_false (by simp) (fun h => by obtain ⟨h1, h2, h3, h4, h5, h6, h7, h8, ⟨h9, h10⟩, h11, h12⟩ := h; first | omega | (have h13 := h9 _ (getD_mem hk); omega)), m5.below⟩
 intro hb285 Hz; try simp only [QQ, Qax] at hb285
 refine goR hP5 [29, 30, 31, 32, 33] [30] 5 536870911 17179869183 Hz (m5.to ⟨il, trivial⟩) (.fa 4 rfl U81 <| .lb hh 20 U3 rfl rfl rfl <| .lss rfl rfl <| .pickF rfl rfl <| .move rfl .nil) fun Az Hz => ?_
 refine bc Hz 37 ?_ ?_
 ·
  intro hb325 Hz; try simp only [QQ, Qax] at hb325
  refine goA hP5 [34, 35, 36, 37, 38, 39, 40, 41, 42, 43, 44, 45, 46, 47, 48, 49, 50, 51, 52, 53, 54, 55, 56, 57, 58, 59, 60] 27 17179869183 2305843009213693951 Hz (m5.to ⟨il, trivial⟩) (.s <| .s <| .s <| .s <| .s <| .pickT rfl rfl <| .move rfl <| .s <| .s <| .s <| .s <| .s <| .s <| .s <| .s <| .s <| .pickT rfl rfl <| .move rfl <| .s <| .s <| .s <| .pickT rfl rfl <| .move rfl <| .s <| .s <| .s <| .pickT rfl rfl .nil) fun Az Hz => ?_
  refine wpAnyE_done (by kernel_rfl) ?_ _
  refine hK2 _ _ ?_
  refine wct Hz ?_
  replace Hz := Hz.oz [1, 2]
  refine regS Hz (.assign rfl .nil) fun Az Hz => ?_
  refine rt1 Hz ?_
  exact ⟨false, rfl, iff_of_false (by simp) (fun h => by obtain ⟨h1, h2, h3, h4, h5, h6, h7, h8, ⟨h9, h10⟩, h11, h12⟩ := h; first | omega | (have h13 := h9 _ (getD_mem hk); omega)), m5.below⟩
 intro hb325 Hz; try simp only [QQ, Qax] at hb325
 refine goR hP5 [34, 35, 36, 37, 38, 39, 40] [35, 37] 7 17179869183 2199023255551 Hz (m5.to ⟨il, trivial⟩) (.fa 4 rfl U81 <| .lb hh 20 U3 rfl rfl rfl <| .fa 2 rfl U81 <| .lb hh 20 U3 rfl rfl rfl <| .gtr rfl rfl <| .pickF rfl rfl <| .move rfl .nil) fun Az Hz => ?_
 refine bc Hz 44 ?_ ?_
 ·
  intro hb362 Hz; try simp only [QQ, Qax] at hb362
  refine goA hP5 [41, 42, 43, 44, 45, 46, 47, 48, 49, 50, 51, 52, 53, 54, 55, 56, 57, 58, 59, 60] 20 2199023255551 2305843009213693951 Hz (m5.to ⟨il, trivial⟩) (.s <| .s <| .s <| .s <| .s <| .s <| .s <| .s <| .s <| .pickT rfl rfl <| .move rfl <| .s <| .s <| .s <| .pickT rfl rfl <| .move rfl <| .s <| .s <| .s <| .pickT rfl rfl .nil) fun Az Hz => ?_
  refine wpAnyE_done (by kernel_rfl) ?_ _
  refine hK2 _ _ ?_
  refine wct Hz ?_
  replace Hz := Hz.oz [1, 2]
  refine regS Hz (.assign rfl .nil) fun Az Hz => ?_
  refine rt1 Hz ?_
  exact ⟨false, rfl, iff_of_false (by simp) (fun h => by obtain ⟨h1, h2, h3, h4, h5, h6, h7, h8, ⟨h9, h10⟩, h11, h12⟩ := h; first | omega | (have h13 := h9 _ (getD_mem hk); omega)), m5.below⟩
 intro hb362 Hz; try simp only [QQ, Qax] at hb362
 refine goR hP5 [41, 42, 43, 44, 45, 46, 47] [42, 45, 47] 7 2199023255551 281474976710655 Hz (m5.to ⟨il, trivial⟩) (.fa 5 rfl U81 <| .lb hh 20 U29 rfl rfl rfl <| .len rfl U29 <| .fa 2 rfl U81 <| .lb hh 20 U3 rfl rfl rfl <| .fa 4 rfl U81 <| .lb hh 20 U3 rfl rfl rfl .nil) fun Az Hz => ?_
 refine stepE_only 48 rfl (by kernel_rfl) (wantedG Hz rfl rfl rfl rfl) (fun K hK => ?_)
 refine e_call Hz Tryz.func65 rfl rfl rfl rfl (chunks_any bl pe _ (by omega) (by omega)) ?_
 rintro e w392 ⟨rfl, hb392⟩
 have m393 := m5.later hb392
 refine ⟨_, rfl, ?_⟩; intro Az Hz
 refine hK _ _ (m393.to ⟨il, trivial⟩) ?_; clear hK K
 refine goA hP5 [49, 50, 51] 3 562949953421311 4503599627370495 Hz (m393.to ⟨il, trivial⟩) (.neq rfl rfl <| .pickF rfl rfl <| .move rfl .nil) fun Az Hz => ?_
 refine bc Hz 55 ?_ ?_
 ·
  intro hb398 Hz; try simp only [QQ, Qax] at hb398
  refine goA hP5 [52, 53, 54, 55, 56, 57, 58, 59, 60] 9 4503599627370495 2305843009213693951 Hz (m393.to ⟨il, trivial⟩) (.s <| .s <| .s <| .pickT rfl rfl <| .move rfl <| .s <| .s <| .s <| .pickT rfl rfl .nil) fun Az Hz => ?_
  refine wpAnyE_done (by kernel_rfl) ?_ _
  refine hK2 _ _ ?_
  refine wct Hz ?_
  replace Hz := Hz.oz [1, 2]
  refine regS Hz (.assign rfl .nil) fun Az Hz => ?_
  refine rt1 Hz ?_
  exact ⟨false, rfl, iff_of_false (by simp) (fun h => by obtain ⟨h1, h2, h3, h4, h5, h6, h7, h8, ⟨h9, h10⟩, h11, h12⟩ := h; first | omega | (have h13 := h9 _ (getD_mem hk); omega)), m393.below⟩
 intro hb398 Hz; try simp only [QQ, Qax] at hb398
 refine goR hP5 [52, 53, 54, 55, 56] [53] 5 4503599627370495 144115188075855871 Hz (m393.to ⟨il, trivial⟩) (.fa 6 rfl U81 <| .lb hh 20 U3 rfl rfl rfl <| .lss rfl rfl <| .pickF rfl rfl <| .move rfl .nil) fun Az Hz => ?_
 refine bc Hz 60 ?_ ?_
 ·
  intro hb415 Hz; try simp only [QQ, Qax] at hb415
  refine goA hP5 [57, 58, 59, 60] 4 144115188075855871 2305843009213693951 Hz (m393.to ⟨il, trivial⟩) (.s <| .s <| .s <| .pickT rfl rfl .nil) fun Az Hz => ?_
  refine wpAnyE_done (by kernel_rfl) ?_ _
  refine hK2 _ _ ?_
  refine wct Hz ?_
  replace Hz := Hz.oz [1, 2]
  refine regS Hz (.assign rfl .nil) fun Az Hz => ?_
  refine rt1 Hz ?_
  exact ⟨false, rfl, iff_of_false (by simp) (fun h => by obtain ⟨h1, h2, h3, h4, h5, h6, h7, h8, ⟨h9, h10⟩, h11, h12⟩ := h; first | omega | (have h13 := h9 _ (getD_mem hk); omega)), m393.below⟩
 intro hb415 Hz; try simp only [QQ, Qax] at hb415
 refine goR hP5 [57, 58, 59, 60] [58] 4 144115188075855871 2305843009213693951 Hz (m393.to ⟨il, trivial⟩) (.fa 6 rfl U81 <| .lb hh 20 U3 rfl rfl rfl <| .gtr rfl rfl <| .pickF rfl rfl .nil) fun Az Hz => ?_
 refine wpAnyE_done (by kernel_rfl) ?_ _
 refine hK2 _ _ ?_
 refine bc Hz 64 ?_ ?_
 ·
  intro hb426 Hz; try simp only [QQ, Qax] at hb426
  refine wct Hz ?_
  replace Hz := Hz.oz [1, 2]
  refine regS Hz (.assign rfl .nil) fun Az Hz => ?_
  refine rt1 Hz ?_
  exact ⟨false, rfl, iff_of_false (by simp) (fun h => by obtain ⟨h1, h2, h3, h4, h5, h6, h7, h8, ⟨h9, h10⟩, h11, h12⟩ := h; first | omega | (have h13 := h9 _ (getD_mem hk); omega)), m393.below⟩
 intro hb426 Hz; try simp only [QQ, Qax] at hb426
 refine wcf Hz ?_
 refine zss (hK1 _ _ ?_)
 refine wsk fun K3 hK3 => ?_
 replace Hz := Hz.oz [1, 2]
 refine regS Hz (.assign rfl .nil) fun Az Hz => ?_
 refine wp_block ?_
 refine wp_loop_ghost (fun g a w => ∃ (k B : Nat), k ≤ place.length ∧ g = place.length - k ∧ (∀ j, j < k → 1 ≤ place.getD j 0 ∧ place.getD j 0 ≤ 7) ∧ Has 86 [(1, .pointer (some ⟨B, 0, none⟩)), (3, .int .i64 k)] a ∧ MemOk (cn w0) w0 [(9, .box B 81 [.int .i64 kd, .int .i64 vo, .int .i64 bl, .int .i64 sz, .int .i64 pe, .slice pp place.length cp, .int .i64 to, .int .i64 at0, .int .i64 ix, .slice pi ni ci])] w) (place.length) ?_ ?_
 · exact ⟨0, _, Nat.zero_le _, rfl, (fun j hj => by omega), Hz.only [1, 3], m393.ren [(9, 20)] (by decide)⟩
 clear Hz m393
 rintro g Az w431 ⟨k, B, hkl, hg, hall, Hz, m431⟩
 refine wsk fun K4 hK4 => ?_
 refine regS Hz (.move rfl <| .fa 5 rfl U81 <| .lb m431 9 U29 rfl rfl rfl <| .len rfl U29 <| .lss rfl rfl .nil) fun Az Hz => ?_
 refine bc Hz 69 ?_ ?_
 ·
  intro hb437 Hz; try simp only [QQ, Qax] at hb437
  have hk : k < place.length := by omega
  refine wct Hz ?_
  refine zss (hK4 _ _ ?_)
  refine wsk fun K5 hK5 => ?_
  refine wp_block ?_
  refine zsr fun K6 hK6 => ?_
  refine goCh Hz (.fa 5 rfl U81 <| .lb m431 9 U29 rfl rfl rfl <| .move rfl .nil) fun Az Hz => ?_
  obtain ⟨gx445, ox445, hp445, hl445, hrg445⟩ := h0.extN (k) hk
  revert Hz
  cases hp445
  intro Hz
  refine goCh Hz (.c rfl (fun _ h_ => y_idx h_ rfl rfl U29 fct23 (k) rfl hk) <| .loadAt1 (hrg445 m431 rfl) (q := 0) rfl rfl rfl U3 rfl <| .lss rfl rfl <| .move rfl .nil) fun Az Hz => ?_
  refine bc Hz 78 ?_ ?_
  ·
   intro hb450 Hz; try simp only [QQ, Qax] at hb450
   refine gz hK6 Hz (.sk <| .sk <| .sk <| .sk <| .sk <| .sk <| .pickT rfl rfl <| .nil) fun Az Hz => ?_
   refine wct Hz ?_
   replace Hz := Hz.oz [1, 3]
   refine regS Hz (.assign rfl .nil) fun Az Hz => ?_
   refine rt1 Hz ?_
   exact ⟨false, rfl, iff_of_false (by simp) (fun h => by obtain ⟨h1, h2, h3, h4, h5, h6, h7, h8, ⟨h9, h10⟩, h11, h12⟩ := h; first | omega | (have h13 := h9 _ (getD_mem hk); omega)), m431.below⟩
  intro hb450 Hz; try simp only [QQ, Qax] at hb450
  refine goCh Hz (.faZ 5 rfl U81 <| .loadB1Z m431 (i := 9) rfl rfl rfl U29 rfl <| .moveZ rfl .nil) fun Az Hz => ?_
  obtain ⟨gx463, ox463, hp463, hl463, hrg463⟩ := h0.extN (k) hk
  revert Hz
  cases hp463
  intro Hz
  refine gz hK6 Hz (.g rfl rfl rfl rfl (fun _ h_ => y_idx h_ rfl rfl U29 fct23 (k) rfl hk) <| .loadAt1Z (hrg463 m431 rfl) (q := 0) rfl rfl rfl U3 rfl <| .geqZ rfl rfl <| .pickF rfl rfl <| .nil) fun Az Hz => ?_
  refine bc Hz 85 ?_ ?_
  ·
   intro hb468 Hz; try simp only [QQ, Qax] at hb468
   refine wct Hz ?_
   replace Hz := Hz.oz [1, 3]
   refine regS Hz (.assign rfl .nil) fun Az Hz => ?_
   refine rt1 Hz ?_
   exact ⟨false, rfl, iff_of_false (by simp) (fun h => by obtain ⟨h1, h2, h3, h4, h5, h6, h7, h8, ⟨h9, h10⟩, h11, h12⟩ := h; first | omega | (have h13 := h9 _ (getD_mem hk); omega)), m431.below⟩
  intro hb468 Hz; try simp only [QQ, Qax] at hb468
  refine wcf Hz ?_
  refine zss (hK5 _ _ ?_)
  replace Hz := Hz.oz [1, 3]
  refine wp_region_lit ?_
  refine goCh Hz (.move rfl <| .inc (k + 1) <| .assign rfl .nil) fun Az Hz => ?_
  refine wpList_nil ?_
  show ∃ n', n' < _ ∧ _
  exact ⟨place.length - (k + 1), by omega, k + 1, _, by omega, rfl, (all_snoc (P := fun x => 1 ≤ x ∧ x ≤ 7) hall (by omega)), Hz.only [1, 3], m431.only [9]⟩
 intro hb437 Hz; try simp only [QQ, Qax] at hb437
 revert Hz
 obtain rfl : k = place.length := by omega
 intro Hz
 refine wcf Hz ?_
 refine wp_exit ?_
 refine hK3 _ _ ?_
 refine regS Hz (.assign rfl .nil) fun Az Hz => ?_
 refine rt1 Hz ?_
 exact ⟨true, rfl, iff_of_true rfl ⟨by omega, by omega, by omega, by omega, by omega, by omega, by omega, by omega, ⟨fun g hg9 => all_mem (P := fun x => 1 ≤ x ∧ x ≤ 7) hall g hg9, by omega⟩, by omega, by omega⟩, m431.below⟩
theorem rnew_any (kd vo bl sz pe to at0 ix : Int) (place : List Int) (pp pi : Option Addr) (cp ni ci : Nat) (w0 : World) (h0 : Rd (fun _ => True) w0 (.slice pp place.length cp) (.ns .i64 place)) (hn : place.length ≤ 1000000) :
   Calls Tryz.prog 32 #[.agg #[.int .i64 kd, .int .i64 vo, .int .i64 bl, .int .i64 sz, .int .i64 pe, .slice pp place.length cp, .int .i64 to, .int .i64 at0, .int .i64 ix, .slice pi ni ci]] w0 fun e w' => (NewOk vo bl sz pe to place ∧ ∃ p c, e = .returned (.tuple #[.agg #[.int .i64 vo, .int .i64 bl, .int .i64 sz, .int .i64 pe, .slice p place.length c, .int .i64 to, .int .i64 0, .bool (decide (0 < to)), .int .i64 0, .slice none 0 0, .slice none 0 0], .int .i64 0]) ∧ Rd (New w0) w' (.slice p place.length c) (.ns .i64 place) ∧ Below w0.heap.size w0 w') ∨ (¬ NewOk vo bl sz pe to place ∧ e = .returned (.tuple #[.agg #[.int .i64 0, .int .i64 0, .int .i64 0, .int .i64 0, .slice none 0 0, .int .i64 0, .int .i64 0, .bool false, .int .i64 0, .slice none 0 0, .slice none 0 0], .int .i64 23]) ∧ Below w0.heap.size w0 w') := by
 refine ent1 Tryz.func32 rfl Tryz.ntmps32 fun Az Hz => ?_
 have m0 := MemOk.start (fun _ => False) w0
 refine zsr fun K0 hK0 => ?_
 refine plz (e_box Hz m0 20 (cs := [_, _, _, _, _, _, _, _, _, _]) rfl rfl rfl fun g1 Az w2 Hz m2 _ _ => ?_)
 refine plz (e_alloc Hz m2 21 fct2 rfl fun g3 Az w4 Hz m4 _ _ => ?_)
 refine gz hK0 Hz (.assign rfl .nil) fun Az Hz => ?_
 refine wsk fun K1 hK1 => ?_
 refine zsr fun K2 hK2 => ?_
 refine goCh Hz (.loadBR m4 (i := 20) rfl rfl U81 rfl fct5 (by simp) (by dsimp only [List.drop, List.take] <;> rfl) .nil) fun Az Hz => ?_
 refine plz (ecl Hz Tryz.func64 rfl (rshape_any _ _ _ _ _ _ _ _ place _ _ _ _ _ _ ((h0.now' m4 rfl).any) hn) ?_)
 rintro e w8 ⟨sb, rfl, hsb, hb8⟩
 have m9 := m4.later hb8
 refine ⟨_, rfl, ?_⟩; intro Az Hz
 refine gz hK2 Hz (.not rfl .nil) fun Az Hz => ?_
 refine bc Hz 6 ?_ ?_
 ·
  intro hb12 Hz; try simp only [QQ, Qax] at hb12
  refine wct Hz ?_
  refine zsr fun K3 hK3 => ?_
  refine goCh Hz (.build rfl fct2 fl33rn rfl (by dsimp only [setL, List.set] <;> rfl) .nil) fun Az Hz => ?_
  refine plz (stw Hz m9 21 fct1 fun w15 m15 _ => ?_)
  refine gz hK3 Hz (.assign rfl .nil) fun Az Hz => ?_
  refine rtd (retCT (fn := Tryz.f32) Hz m15 (i := 21) rfl rfl rfl rfl U33 rfl fct1 ?_)
  exact .inr ⟨fun h => by have h12 := hsb.2 h; simp_all, rfl, m15.below⟩
 intro hb12 Hz; try simp only [QQ, Qax] at hb12
 refine wcf Hz ?_
 refine zss (hK1 _ _ ?_)
 refine wsk fun K4 hK4 => ?_
 have m17 := m9.oz [20, 21]
 refine region_p 19 (B := [(20, _)]) (m17.to ⟨il, trivial⟩) m17 (by kernel_rfl) (fun w18 hP18 m18 => ?_); clear m17
 refine goR hP18 [0, 1, 2, 3, 4, 5, 6, 7, 8, 9, 11, 12, 13, 14, 15] [1, 3, 5, 7, 9, 12, 14] 15 0 64511 Hz (m18.to ⟨il, trivial⟩) (.fa 1 rfl U81 <| .lb hh 20 U3 rfl rfl rfl <| .fa 2 rfl U81 <| .lb hh 20 U3 rfl rfl rfl <| .fa 3 rfl U81 <| .lb hh 20 U3 rfl rfl rfl <| .fa 4 rfl U81 <| .lb hh 20 U3 rfl rfl rfl <| .fa 5 rfl U81 <| .lb hh 20 U29 rfl rfl rfl <| .fa 6 rfl U81 <| .lb hh 20 U3 rfl rfl rfl <| .fa 6 rfl U81 <| .lb hh 20 U3 rfl rfl rfl <| .gtr rfl rfl .nil) fun Az Hz => ?_
 refine so 10 ?_
 refine e_app0N Hz m18 22 rfl rfl (h0.now' m18 rfl).ns_out.nums U29 fct37 (by decide) (by omega) rfl fun p34 c34 Az w35 Hz m35 => ?_
 refine ⟨m35.to ⟨il, trivial⟩, ?_⟩
 refine goA hP18 [16] 1 65535 131071 Hz (m35.to ⟨il, trivial⟩) (.build rfl fct2 fl33rn rfl (by dsimp only [setL, List.set] <;> rfl) .nil) fun Az Hz => ?_
 refine so 17 ?_
 refine stw Hz m35 21 fct1 fun w37 m37 _ => ?_
 refine ⟨m37.to ⟨il, trivial⟩, ?_⟩
 refine goA hP18 [18] 1 262143 524287 Hz (m37.to ⟨il, trivial⟩) (.assign rfl .nil) fun Az Hz => ?_
 refine wpAnyE_done (by kernel_rfl) ?_ _
 refine hK4 _ _ ?_
 refine rtd (retCT (fn := Tryz.f32) Hz m37 (i := 21) rfl rfl rfl rfl U33 rfl fct1 ?_)
 have m39 := m37.freezeN 22 rfl
 exact .inl ⟨hsb.1 (by simp_all), _, _, rfl, m39.outF (i := 22) rfl, m39.below⟩
theorem rnew_yes (kd vo bl sz pe to at0 ix : Int) (place : List Int) (pp pi : Option Addr) (cp ni ci : Nat) (w0 : World) (h0 : Rd (fun _ => True) w0 (.slice pp place.length cp) (.ns .i64 place)) (hn : place.length ≤ 1000000) (hN : NewOk vo bl sz pe to place) :
   Calls Tryz.prog 32 #[.agg #[.int .i64 kd, .int .i64 vo, .int .i64 bl, .int .i64 sz, .int .i64 pe, .slice pp place.length cp, .int .i64 to, .int .i64 at0, .int .i64 ix, .slice pi ni ci]] w0 fun e w' => ∃ p c, e = .returned (.tuple #[.agg #[.int .i64 vo, .int .i64 bl, .int .i64 sz, .int .i64 pe, .slice p place.length c, .int .i64 to, .int .i64 0, .bool (decide (0 < to)), .int .i64 0, .slice none 0 0, .slice none 0 0], .int .i64 0]) ∧ Rd (New w0) w' (.slice p place.length c) (.ns .i64 place) ∧ Below w0.heap.size w0 w' :=
 (rnew_any kd vo bl sz pe to at0 ix place pp pi cp ni ci w0 h0 hn).mono (fun _ _ h => h.elim (fun h => h.2) (fun h => absurd hN h.1))
theorem data_any (n : Nat) (b : Int) (w0 : World) (hn : n ≤ 1000000) (hb : 0 ≤ b ∧ b ≤ 255) :
   Calls Tryz.prog 90 #[.int .i64 (n : Int), .int .u8 b] w0 fun e w' => ∃ (d : List Int) (p : Option Addr) (c : Nat), e = .returned (.slice p n c) ∧ d.length = n ∧ BytesL d ∧ Rd (New w0) w' (.slice p n c) (.ns .u8 d) ∧ Below w0.heap.size w0 w' := by
 refine ent2 Tryz.func90 rfl Tryz.ntmps90 fun Az Hz => ?_
 have m0 := MemOk.start (fun _ => False) w0
 refine regS Hz (.assign rfl .nil) fun Az Hz => ?_
 refine regS Hz (.assign rfl .nil) fun Az Hz => ?_
 refine wsk fun K0 hK0 => ?_
 refine regS Hz (.assign rfl .nil) fun Az Hz => ?_
 refine wp_block ?_
 refine wp_loop_ghost (fun g a w => ∃ (k : Nat) (d : List Int) (p : Option Addr) (c : Nat), k ≤ n ∧ g = n - k ∧ d.length = k ∧ BytesL d ∧ Has 21 [(0, .int .i64 (n : Int)), (1, .int .u8 b), (5, .slice p d.length c), (6, .int .i64 k)] a ∧ MemOk (cn w0) w0 [(9, .num (.slice p d.length c) 5 .u8 d)] w) (n) ?_ ?_
 · have mz := m0.nilN 9 5 .u8
   exact ⟨0, [], _, _, Nat.zero_le _, rfl, rfl, (fun _ h => by cases h), Hz.only [0, 1, 5, 6], mz.only [9]⟩
 clear Hz m0
 rintro g Az w4 ⟨k, d, p, c, hkl, hg, hdl, hdb, Hz, m4⟩
 refine wsk fun K1 hK1 => ?_
 refine regS Hz (.move rfl <| .move rfl <| .lss rfl rfl .nil) fun Az Hz => ?_
 refine bc Hz 9 ?_ ?_
 ·
  intro hb8 Hz; try simp only [QQ, Qax] at hb8
  have hk : k < n := by omega
  obtain ⟨z, hz, hzb⟩ : ∃ z, IntKind.u8.wrap (b + IntKind.u8.wrap (IntKind.u8.wrap (k : Int) * 7)) = z ∧ 0 ≤ z ∧ z ≤ 255 := ⟨_, rfl, wrap_u8 _⟩
  refine wct Hz ?_
  refine zss (hK1 _ _ ?_)
  refine wsk fun K2 hK2 => ?_
  refine wp_block ?_
  refine wp_region_lit ?_
  refine goCh Hz (.move rfl <| .move rfl <| .move rfl <| .conv rfl U3 U5 rfl <| .mul rfl rfl rfl <| .add rfl rfl (r := z) hz .nil) fun Az Hz => ?_
  refine plz (e_litN Hz m4 100 (k := .u8) rfl rfl U22 fct19 rfl rfl rfl rfl fun g15 Az w16 Hz m16 => ?_)
  refine plz (e_appN Hz m16 9 rfl rfl rfl (m16.numsO (i := 100) rfl) U22 fct19 (by decide) (by simp; omega) rfl fun p17 c17 Az w18 Hz m18 => ?_)
  refine gz hK2 Hz (.assign rfl .nil) fun Az Hz => ?_
  replace Hz := Hz.oz [0, 1, 5, 6]
  refine wp_region_lit ?_
  refine goCh Hz (.move rfl <| .inc (k + 1) <| .assign rfl .nil) fun Az Hz => ?_
  refine wpList_nil ?_
  show ∃ n', n' < _ ∧ _
  exact ⟨n - (k + 1), by omega, k + 1, d ++ [z], _, _, by omega, rfl, by simp [hdl], bytes_snoc hdb hzb, Hz.only [0, 1, 5, 6], m18.only [9]⟩
 intro hb8 Hz; try simp only [QQ, Qax] at hb8
 revert Hz
 obtain rfl : k = n := by omega
 intro Hz
 refine wcf Hz ?_
 refine wp_exit ?_
 refine hK0 _ _ ?_
 refine regS Hz (.move rfl <| .assign rfl .nil) fun Az Hz => ?_
 refine rt1 Hz ?_
 have m26 := m4.freezeN 9 rfl
 exact ⟨_, _, _, by rw [hdl], hdl, hdb, by rw [← hdl]; exact m26.outF (i := 9) rfl, m26.below⟩
theorem create_any (vx bx sx px to : Int) (w0 : World) (hv : 0 ≤ vx ∧ vx ≤ 255) (hb : 0 ≤ bx ∧ bx ≤ 255) (hs : 0 ≤ sx ∧ sx ≤ 255) (hp : 0 ≤ px ∧ px ≤ 255) :
   Calls Tryz.prog 33 #[.int .u8 vx, .int .u8 bx, .int .u8 sx, .int .u8 px, .int .i64 to] w0 fun e w' => ∃ (bl sz pe : Int) (pl : List Int) (p : Option Addr) (c : Nat), e = .returned (.agg #[.int .i64 1, .int .i64 (vx.tmod 3), .int .i64 bl, .int .i64 sz, .int .i64 pe, .slice p pl.length c, .int .i64 to, .int .i64 0, .int .i64 0, .slice none 0 0]) ∧ 1 ≤ bl ∧ bl ≤ 9 ∧ 1 ≤ sz ∧ sz ≤ 3 ∧ 1 ≤ pe ∧ pe ≤ bl ∧ PlaceOk bl pe pl ∧ pl.length ≤ 9 ∧ Rd (New w0) w' (.slice p pl.length c) (.ns .i64 pl) ∧ Below w0.heap.size w0 w' := by
 refine ent5 Tryz.func33 rfl Tryz.ntmps33 fun Az Hz => ?_
 have m0 := MemOk.start (fun _ => False) w0
 obtain ⟨vm, hvm, hvmb⟩ : ∃ x : Int, vx.tmod 3 = x ∧ 0 ≤ x ∧ x ≤ 2 := ⟨_, rfl, by rw [Int.tmod_eq_emod_of_nonneg (by omega)]; omega, by rw [Int.tmod_eq_emod_of_nonneg (by omega)]; omega⟩
 obtain ⟨b0, hb0, hb0b⟩ : ∃ x : Int, bx.tmod 9 = x ∧ 0 ≤ x ∧ x ≤ 8 := ⟨_, rfl, by rw [Int.tmod_eq_emod_of_nonneg (by omega)]; omega, by rw [Int.tmod_eq_emod_of_nonneg (by omega)]; omega⟩
 obtain ⟨s0, hs0, hs0b⟩ : ∃ x : Int, sx.tmod 3 = x ∧ 0 ≤ x ∧ x ≤ 2 := ⟨_, rfl, by rw [Int.tmod_eq_emod_of_nonneg (by omega)]; omega, by rw [Int.tmod_eq_emod_of_nonneg (by omega)]; omega⟩
 obtain ⟨bl, hbl⟩ : ∃ x : Int, b0 + 1 = x := ⟨_, rfl⟩
 obtain ⟨sz, hsz⟩ : ∃ x : Int, s0 + 1 = x := ⟨_, rfl⟩
 obtain ⟨pm, hpm, hpm1, hpm2⟩ : ∃ x : Int, px.tmod bl = x ∧ 0 ≤ x ∧ x < bl := ⟨_, rfl, by rw [Int.tmod_eq_emod_of_nonneg (by omega)]; exact Int.emod_nonneg _ (by omega), by rw [Int.tmod_eq_emod_of_nonneg (by omega)]; exact Int.emod_lt_of_pos _ (by omega)⟩
 obtain ⟨cc, hcc⟩ : ∃ x : Int, (bl + (pm + 1) - 1) / (pm + 1) = x := ⟨_, rfl⟩
 have hccb : 0 ≤ cc ∧ cc ≤ 9 := by
   rw [← hcc]
   have h1 := Int.ediv_nonneg (show 0 ≤ bl + (pm + 1) - 1 by omega) (show 0 ≤ pm + 1 by omega)
   refine ⟨h1, ?_⟩
   have h2 : (bl + (pm + 1) - 1) / (pm + 1) < 10 := Int.ediv_lt_of_lt_mul (by omega) (by have h10 : 10 * (pm + 1) = 10 * pm + 10 := (by omega); omega)
   omega
 refine zsr fun K0 hK0 => ?_
 refine plz (e_alloc Hz m0 20 fct7 rfl fun g1 Az w2 Hz m2 _ _ => ?_)
 refine znl (hK0 _ _ ?_)
 refine zsr fun K1 hK1 => ?_
 refine goCh Hz (.move rfl <| .rem rfl rfl (by decide) (r := vm) hvm <| .conv rfl U5 U3 (r := vm) (IntWalk.i64_in _ (by omega)) <| .move rfl <| .rem rfl rfl (by decide) (r := b0) hb0 <| .conv rfl U5 U3 (r := b0) (IntWalk.i64_in _ (by omega)) <| .add rfl rfl (r := bl) (by rw [hbl]; exact (IntWalk.i64_in _ (by omega))) <| .move rfl <| .rem rfl rfl (by decide) (r := s0) hs0 <| .conv rfl U5 U3 (r := s0) (IntWalk.i64_in _ (by omega)) <| .add rfl rfl (r := sz) (by rw [hsz]; exact (IntWalk.i64_in _ (by omega))) <| .move rfl <| .build rfl fct7 fl81cr rfl (by dsimp only [setL, List.set] <;> rfl) .nil) fun Az Hz => ?_
 refine plz (e_alloc Hz m2 21 fct7 rfl fun g29 Az w30 Hz m30 _ _ => ?_)
 refine plz (stw Hz m30 21 fct5 fun w31 m31 _ => ?_)
 refine znl (hK1 _ _ ?_)
 replace Hz := Hz.oz [3, 10, 11]
 refine zsr fun K2 hK2 => ?_
 refine goCh Hz (.move rfl <| .conv rfl U5 U3 (r := px) (IntWalk.i64_in _ (by omega)) <| .fa 2 rfl U81 <| .lb m31 21 U3 rfl rfl rfl <| .rem rfl rfl (by omega) (r := pm) hpm <| .add rfl rfl (r := pm + 1) (IntWalk.i64_in _ (by omega)) <| .fa 4 rfl U81 .nil) fun Az Hz => ?_
 refine plz (st1 Hz m31 21 fct23 fun w47 m47 _ => ?_)
 refine znl (hK2 _ _ ?_)
 refine wsk fun K3 hK3 => ?_
 replace Hz := Hz.oz [3, 10, 11]
 refine regS Hz (.assign rfl .nil) fun Az Hz => ?_
 refine wp_block ?_
 refine wp_loop_ghost (fun g a w => ∃ (i A D : Nat) (q : Option Addr) (c : Nat), (i : Int) ≤ cc ∧ g = cc.toNat - i ∧ Has 54 [(3, .int .u8 px), (10, .pointer (some ⟨A, 0, none⟩)), (11, .pointer (some ⟨D, 0, none⟩)), (12, .int .i64 (i : Int))] a ∧ MemOk (cn w0) w0 [(8, .box A 81 [.int .i64 0, .int .i64 0, .int .i64 0, .int .i64 0, .int .i64 0, .slice none 0 0, .int .i64 0, .int .i64 0, .int .i64 0, .slice none 0 0]), (9, .box D 81 [.int .i64 1, .int .i64 vm, .int .i64 bl, .int .i64 sz, .int .i64 (pm + 1), .slice q (crL px i).length c, .int .i64 to, .int .i64 0, .int .i64 0, .slice none 0 0]), (10, .num (.slice q (crL px i).length c) 3 .i64 (crL px i))] w) (cc.toNat) ?_ ?_
 · have mz := m47.nilN 10 3 .i64
   exact ⟨0, _, _, _, _, by omega, rfl, Hz.only [3, 10, 11, 12], mz.ren [(8, 20), (9, 21), (10, 10)] (by decide)⟩
 clear Hz m47
 rintro g Az w50 ⟨i, A, D, q, c, hic, hg, Hz, m50⟩
 refine wsk fun K4 hK4 => ?_
 refine zsr fun K5 hK5 => ?_
 refine goCh Hz (.move rfl <| .fa 2 rfl U81 <| .lb m50 9 U3 rfl rfl rfl <| .fa 4 rfl U81 <| .lb m50 9 U3 rfl rfl rfl .nil) fun Az Hz => ?_
 refine plz (ecb Hz Tryz.func65 rfl m50 (chunks_any bl (pm + 1) _ (by omega) (by omega)) fun Az w61 Hz m62 => ?_)
 refine gz hK5 Hz (.lss rfl rfl .nil) fun Az Hz => ?_
 refine bc Hz 39 ?_ ?_
 ·
  intro hb65 Hz; try simp only [QQ, Qax] at hb65
  rw [hcc] at hb65
  have hi9 : (i : Int) < cc := by omega
  refine wct Hz ?_
  refine zss (hK4 _ _ ?_)
  refine wsk fun K6 hK6 => ?_
  refine wp_block ?_
  replace Hz := Hz.oz [3, 10, 11, 12]
  refine wp_region_lit ?_
  refine goCh Hz (.fa 5 rfl U81 <| .lb m62 9 U29 rfl rfl rfl <| .move rfl <| .move rfl <| .conv rfl U5 U3 (r := px) (IntWalk.i64_in _ (by omega)) <| .add rfl rfl (r := (i : Int) + px) (IntWalk.i64_in _ (by omega)) <| .rem rfl rfl (by decide) (Int.tmod_eq_emod_of_nonneg (by omega)) <| .add rfl rfl (r := 1 + ((i : Int) + px) % 2) (IntWalk.i64_in _ (by omega)) .nil) fun Az Hz => ?_
  refine plz (e_litN Hz m62 100 (k := .i64) rfl rfl U29 fct37 rfl rfl rfl rfl fun g75 Az w76 Hz m76 => ?_)
  refine plz (e_appN Hz m76 10 rfl rfl rfl (m76.numsO (i := 100) rfl) U29 fct37 (by decide) (by simp [crL_len]; omega) rfl fun p77 c77 Az w78 Hz m78 => ?_)
  refine goCh Hz (.fieldAddr (off := 5) rfl U81 rfl (s := 0) (by kernel_rfl) rfl .nil) fun Az Hz => ?_
  refine plz (st1 Hz m78 9 fct38 fun w80 m80 _ => ?_)
  refine znl (hK6 _ _ ?_)
  replace Hz := Hz.oz [3, 10, 11, 12]
  refine wp_region_lit ?_
  refine goCh Hz (.move rfl <| .inc (i + 1) <| .assign rfl .nil) fun Az Hz => ?_
  refine wpList_nil ?_
  show ∃ n', n' < _ ∧ _
  have hE : crL px i ++ [1 + ((i : Int) + px) % 2] = crL px (i + 1) := (crL_snoc px i).symm
  rw [hE] at m80
  exact ⟨cc.toNat - (i + 1), by omega, i + 1, _, _, _, _, by omega, rfl, Hz.only [3, 10, 11, 12], m80.only [8, 9, 10]⟩
 intro hb65 Hz; try simp only [QQ, Qax] at hb65
 rw [hcc] at hb65
 have hi9 : (i : Int) = cc := by omega
 refine wcf Hz ?_
 refine wp_exit ?_
 refine hK3 _ _ ?_
 replace Hz := Hz.oz [3, 10, 11, 12]
 refine zsr fun K7 hK7 => ?_
 refine goCh Hz (.loadBR m62 (i := 9) rfl rfl U81 rfl fct5 (by simp) (by dsimp only [List.drop, List.take] <;> rfl) .nil) fun Az Hz => ?_
 refine plz (stw Hz m62 8 fct5 fun w88 m88 _ => ?_)
 refine znl (hK7 _ _ ?_)
 refine rtd (retC (fn := Tryz.f33) Hz m88 (i := 8) rfl rfl rfl U81 rfl fct5 ?_)
 have m89 := m88.freezeN 10 rfl
 exact ⟨bl, sz, pm + 1, crL px i, _, _, by rw [hvm], by omega, by omega, by omega, by omega, by omega, by omega, ⟨crL_ok px i, by rw [crL_len, hcc]; exact hi9⟩, by rw [crL_len]; omega, m89.outF (i := 10) rfl, m89.below⟩
theorem sitem_any (bl : Int) (z : Nat) (l : List Int) (pl : Option Addr) (cl : Nat) (w0 : World) (h0 : Rd (fun _ => True) w0 (.slice pl l.length cl) (.ns .u8 l)) (hl : l.length ≤ 1000000) (hlb : ∀ j, j < l.length → 0 ≤ l.getD j 0 ∧ l.getD j 0 ≤ 255) (hz : z ≤ 1000) :
   Calls Tryz.prog 61 #[.int .i64 bl, .int .i64 (z : Int), .slice pl l.length cl] w0 fun e w' => ∃ (it : List (Int × List Int)) (p : Option Addr) (c : Nat), e = .returned (.slice p it.length c) ∧ it.length ≤ 8 ∧ ItPre (max bl 1) z it it.length ∧ ItsB it ∧ (l ≠ [] → 1 ≤ it.length) ∧ Rd (New w0) w' (.slice p it.length c) (.l 2 (it.map itD)) ∧ Below w0.heap.size w0 w' := by
 refine ent3 Tryz.func61 rfl Tryz.ntmps61 fun Az Hz => ?_
 have m0 := MemOk.start (fun _ => False) w0
 obtain ⟨bb, hbb⟩ : ∃ x : Int, max bl 1 = x := ⟨_, rfl⟩
 refine regS Hz (.assign rfl .nil) fun Az Hz => ?_
 refine regS Hz (.assign rfl .nil) fun Az Hz => ?_
 refine wsk fun K0 hK0 => ?_
 refine regS Hz (.assign rfl .nil) fun Az Hz => ?_
 refine wp_block ?_
 refine wp_loop_ghost (fun g a w => ∃ (k : Nat) (it : List (Int × List Int)) (p : Option Addr) (c : Nat), k ≤ l.length ∧ g = l.length - k ∧ it.length ≤ 8 ∧ ItPre bb z it it.length ∧ ItsB it ∧ (0 < k → 1 ≤ it.length) ∧ Has 61 [(0, .int .i64 bl), (1, .int .i64 (z : Int)), (2, .slice pl l.length cl), (7, .slice p (it.map itD).length c), (8, .int .i64 k)] a ∧ MemOk (cn w0) w0 [(9, .seg (.slice p (it.map itD).length c) 111 2 (it.map itD))] w) (l.length) ?_ ?_
 · have mz := (m0.nilR 9 111 2).rowS 9 rfl
   exact ⟨0, [], _, _, Nat.zero_le _, rfl, by simp, (fun j hj => by simp at hj), (fun _ h => by cases h), (fun h => by omega), Hz.only [0, 1, 2, 7, 8], mz.only [9]⟩
 clear Hz m0
 rintro g Az w4 ⟨k, it, p, c, hkl, hg, hit8, hpre, hitb, hne, Hz, m4⟩
 refine wsk fun K1 hK1 => ?_
 refine zsr fun K2 hK2 => ?_
 refine goCh Hz (.move rfl <| .move rfl <| .len rfl U22 <| .lss rfl rfl <| .move rfl .nil) fun Az Hz => ?_
 refine bc Hz 16 ?_ ?_
 ·
  intro hb15 Hz; try simp only [QQ, Qax] at hb15
  have hk : k < l.length := by omega
  have hx := hlb k hk
  obtain ⟨b9, hb9e, hb9⟩ : ∃ x : Int, (l.getD k 0).tmod bb = x ∧ (0 ≤ x ∧ x < bb) := ⟨_, rfl, by rw [Int.tmod_eq_emod_of_nonneg (by omega)]; exact Int.emod_nonneg _ (by omega), by rw [Int.tmod_eq_emod_of_nonneg (by omega)]; exact Int.emod_lt_of_pos _ (by omega)⟩
  refine gz hK2 Hz (.moveZ rfl <| .lenZ rfl U40 <| .lssZ rfl rfl <| .pickT rfl rfl <| .nil) fun Az Hz => ?_
  refine bc Hz 20 ?_ ?_
  ·
   intro hb20 Hz; try simp only [QQ, Qax] at hb20
   rw [List.length_map] at hb20
   refine wct Hz ?_
   refine zss (hK1 _ _ ?_)
   refine wsk fun K3 hK3 => ?_
   refine wp_block ?_
   replace Hz := Hz.oz [0, 1, 2, 7, 8]
   refine zsr fun K4 hK4 => ?_
   refine goCh Hz (.move rfl <| .move rfl .nil) fun Az Hz => ?_
   obtain ⟨gx27, ox27, hp27, hl27, hrg27⟩ := h0.extN (k) hk
   revert Hz
   cases hp27
   intro Hz
   refine gz hK4 Hz (.c rfl (fun _ h_ => y_idx h_ rfl rfl U22 fct34 (k) rfl hk) <| .loadAt1 (hrg27 m4 rfl) (q := 0) rfl rfl rfl U5 rfl <| .conv rfl U5 U3 (r := l.getD k 0) (IntWalk.i64_in _ (by omega)) <| .move rfl <| .c rfl (fun _ h_ => y_max h_ rfl rfl (r := bb) hbb) <| .rem rfl rfl (by omega) (r := b9) hb9e <| .assign rfl <| .nil) fun Az Hz => ?_
   replace Hz := Hz.oz [0, 1, 2, 7, 8, 9]
   refine regS Hz (.assign rfl .nil) fun Az Hz => ?_
   refine wsk fun K5 hK5 => ?_
   refine regS Hz (.assign rfl .nil) fun Az Hz => ?_
   refine wp_block ?_
   refine wp_loop_ghost (fun g a w => ∃ (j : Nat) (tb : Bool) (p : Option Addr) (c : Nat), j ≤ it.length ∧ g = it.length - j ∧ (tb = true ↔ ∃ e ∈ it.take j, e.1 = b9) ∧ Has 61 [(0, .int .i64 bl), (1, .int .i64 (z : Int)), (2, .slice (some ⟨gx27, ox27, none⟩) l.length cl), (7, .slice p (it.map itD).length c), (8, .int .i64 k), (9, .int .i64 b9), (10, .bool tb), (11, .int .i64 j)] a ∧ MemOk (cn w0) w0 [(9, .seg (.slice p (it.map itD).length c) 111 2 (it.map itD))] w) (it.length) ?_ ?_
   · exact ⟨0, false, _, _, Nat.zero_le _, rfl, by simp, Hz.only [0, 1, 2, 7, 8, 9, 10, 11], m4.only [9]⟩
   clear Hz m4
   rintro g Az w38 ⟨j, tb, p, c, hjl, hg2, htb, Hz, m38⟩
   refine wsk fun K6 hK6 => ?_
   refine regS Hz (.move rfl <| .move rfl <| .len rfl U40 <| .lss rfl rfl .nil) fun Az Hz => ?_
   refine bc Hz 34 ?_ ?_
   ·
    intro hb43 Hz; try simp only [QQ, Qax] at hb43
    rw [List.length_map] at hb43
    have hj : j < it.length := by omega
    obtain ⟨⟨yb, yd⟩, hit⟩ : ∃ e, it[j]? = some e := ⟨_, List.getElem?_eq_getElem hj⟩
    refine wct Hz ?_
    refine zss (hK6 _ _ ?_)
    refine wsk fun K7 hK7 => ?_
    refine wp_block ?_
    refine wp_region_lit ?_
    refine goCh Hz (.move rfl <| .move rfl .nil) fun Az Hz => ?_
    refine bc Hz 38 ?_ ?_
    ·
     intro hb46 Hz; try simp only [QQ, Qax] at hb46
     refine gz hK7 Hz (.sk <| .sk <| .sk <| .sk <| .sk <| .sk <| .sk <| .pickT rfl rfl <| .assign rfl <| .nil) fun Az Hz => ?_
     replace Hz := Hz.oz [0, 1, 2, 7, 8, 9, 10, 11, 38]
     refine wp_region_lit ?_
     refine goCh Hz (.move rfl <| .inc (j + 1) <| .assign rfl .nil) fun Az Hz => ?_
     refine wpList_nil ?_
     show ∃ n', n' < _ ∧ _
     exact ⟨it.length - (j + 1), by omega, j + 1, _, _, _, by omega, rfl, there_snoc (tb := true) (hb46 ▸ htb) hit, Hz.only [0, 1, 2, 7, 8, 9, 10, 11], m38.only [9]⟩
    intro hb46 Hz; try simp only [QQ, Qax] at hb46
    refine goCh Hz (.moveZ rfl <| .moveZ rfl .nil) fun Az Hz => ?_
    obtain ⟨gs62, os62, vs62, hp62, hl62, hR62, hrg62⟩ := m38.openS (i := 9) rfl (j) (r := [.v (.int .i64 yb), .ns .u8 yd]) (itD_get hit)
    revert Hz
    cases hp62; clear hl62 hR62 hrg62 vs62
    intro Hz
    refine gz hK7 Hz (.g rfl rfl rfl rfl (fun _ h_ => y_idx h_ rfl rfl U40 fct16 (j) rfl (by rw [List.length_map]; exact hj)) <| .fieldAddrQZ 0 rfl U111 rfl (s := 0) (by kernel_rfl) rfl <| .loadSVZ m38 (i := 9) rfl (j) (r := [.v (.int .i64 yb), .ns .u8 yd]) (itD_get hit) (q := 0) rfl rfl rfl U3 rfl <| .moveZ rfl <| .eqlZ rfl rfl <| .pickF rfl rfl <| .assign rfl <| .nil) fun Az Hz => ?_
    replace Hz := Hz.oz [0, 1, 2, 7, 8, 9, 10, 11, 38]
    refine wp_region_lit ?_
    refine goCh Hz (.move rfl <| .inc (j + 1) <| .assign rfl .nil) fun Az Hz => ?_
    refine wpList_nil ?_
    show ∃ n', n' < _ ∧ _
    exact ⟨it.length - (j + 1), by omega, j + 1, _, _, _, by omega, rfl, there_snoc (tb := false) (hb46 ▸ htb) hit, Hz.only [0, 1, 2, 7, 8, 9, 10, 11], m38.only [9]⟩
   intro hb43 Hz; try simp only [QQ, Qax] at hb43
   rw [List.length_map] at hb43
   revert Hz
   obtain rfl : j = it.length := by omega
   intro Hz
   rw [List.take_length] at htb
   refine wcf Hz ?_
   refine wp_exit ?_
   refine hK5 _ _ ?_
   refine regS Hz (.move rfl <| .not rfl .nil) fun Az Hz => ?_
   refine bc Hz 48 ?_ ?_
   ·
    intro hb76 Hz; try simp only [QQ, Qax] at hb76
    have hno : ¬ ∃ e ∈ it, e.1 = b9 := fun h => by have h9 := htb.2 h; simp_all
    refine wct Hz ?_
    refine wp_region_lit ?_
    refine goCh Hz (.move rfl <| .move rfl <| .move rfl <| .move rfl <| .move rfl .nil) fun Az Hz => ?_
    obtain ⟨gx82, ox82, hp82, hl82, hrg82⟩ := h0.extN (k) hk
    revert Hz
    cases hp82
    intro Hz
    refine goCh Hz (.c rfl (fun _ h_ => y_idx h_ rfl rfl U22 fct34 (k) rfl hk) <| .loadAt1 (hrg82 m38 rfl) (q := 0) rfl rfl rfl U5 rfl .nil) fun Az Hz => ?_
    refine plz (ecl Hz Tryz.func90 rfl (data_any z (l.getD k 0) _ (by omega) (by omega)) ?_)
    rintro e w85 ⟨d9, p85, c85, rfl, hd9l, hd9b, hd85, hb85⟩
    have m86 := m38.callF 200 rfl hb85 hd85
    refine ⟨_, rfl, ?_⟩; intro Az Hz
    refine goCh Hz (.build rfl fct25 fl111is2 rfl (by dsimp only [setL, List.set] <;> rfl) .nil) fun Az Hz => ?_
    refine plz (e_litR Hz m86 201 (mm := 2) rfl (.cons rfl rfl (.cons (.v _) (.cons (m86.rd (i := 200) rfl) .nil)) .nil) U40 fct24 rfl rfl rfl rfl rfl fun g89 Az w90 Hz m90 => ?_)
    have m92 := m90.freezeR 201 rfl
    refine plz (e_appSA Hz m92 9 rfl rfl rfl (m92.rd (i := 201) rfl).cells U40 fct24 rfl rfl (by decide) (by simp; omega) rfl fun p91 c91 Az w93 Hz m93 => ?_)
    refine gz hK3 Hz (.assign rfl .nil) fun Az Hz => ?_
    replace Hz := Hz.oz [0, 1, 2, 7, 8, 9, 10, 11, 48]
    refine wp_region_lit ?_
    refine goCh Hz (.move rfl <| .inc (k + 1) <| .assign rfl .nil) fun Az Hz => ?_
    refine wpList_nil ?_
    show ∃ n', n' < _ ∧ _
    have hE : it.map itD ++ [[D.v (.int .i64 b9), .ns .u8 d9]] = (it ++ [(b9, d9)]).map itD := by rw [List.map_append]; rfl
    rw [hE] at m93 Hz
    skip
    exact ⟨l.length - (k + 1), by omega, k + 1, it ++ [(b9, d9)], _, _, by omega, rfl, by simp; omega, by rw [List.length_append]; exact itpre_app hpre hb9 (by omega) hno, itsB_snoc hitb (by omega) hd9b, fun _ => by simp, Hz.only [0, 1, 2, 7, 8], m93.only [9]⟩
   intro hb76 Hz; try simp only [QQ, Qax] at hb76
   have hsome : 1 ≤ it.length := by
     obtain ⟨e9, h9, -⟩ := htb.1 (by simp_all)
     exact List.length_pos_of_mem h9
   refine wcf Hz ?_
   refine zss (hK3 _ _ ?_)
   refine wp_region_lit ?_
   refine goCh Hz (.move rfl <| .inc (k + 1) <| .assign rfl .nil) fun Az Hz => ?_
   refine wpList_nil ?_
   show ∃ n', n' < _ ∧ _
   exact ⟨l.length - (k + 1), by omega, k + 1, it, _, _, by omega, rfl, by omega, hpre, hitb, fun _ => hsome, Hz.only [0, 1, 2, 7, 8], m38.only [9]⟩
  intro hb20 Hz; try simp only [QQ, Qax] at hb20
  rw [List.length_map] at hb20
  refine wcf Hz ?_
  refine wp_exit ?_
  refine hK0 _ _ ?_
  replace Hz := Hz.oz [0, 1, 2, 7, 8]
  refine regS Hz (.move rfl <| .assign rfl .nil) fun Az Hz => ?_
  refine rt1 Hz ?_
  have mf := m4.freezeS 9 rfl (by simp [cx])
  exact ⟨it, _, _, by rw [List.length_map], hit8, (by rw [hbb]; exact hpre), hitb, (fun h => by first | omega | (have h9 := List.length_pos_iff.2 h; exact hne (by omega))), by simpa using mf.outF (i := 9) rfl, m4.below⟩
 intro hb15 Hz; try simp only [QQ, Qax] at hb15
 revert Hz
 obtain rfl : k = l.length := by omega
 intro Hz
 refine gz hK2 Hz (.sk <| .sk <| .sk <| .pickF rfl rfl <| .nil) fun Az Hz => ?_
 refine wcf Hz ?_
 refine wp_exit ?_
 refine hK0 _ _ ?_
 replace Hz := Hz.oz [0, 1, 2, 7, 8]
 refine regS Hz (.move rfl <| .assign rfl .nil) fun Az Hz => ?_
 refine rt1 Hz ?_
 have mf := m4.freezeS 9 rfl (by simp [cx])
 exact ⟨it, _, _, by rw [List.length_map], hit8, (by rw [hbb]; exact hpre), hitb, (fun h => by first | omega | (have h9 := List.length_pos_iff.2 h; exact hne (by omega))), by simpa using mf.outF (i := 9) rfl, m4.below⟩
end
section
open Classical in
noncomputable def wrR (bl sz : Int) (ws : List (Int × List (Int × List Int))) (it : List (Int × List Int)) : List (Int × List (Int × List Int)) × Int := if ItemsR bl sz it then (ws ++ [((ws.length : Int) + 1, it)], 0) else (ws, 23)
abbrev VolO := Int × Bool × Int × List (Int × List (Int × List Int)) × Int
noncomputable def putR (bl sz ne fl : Int) (hi : Bool) (ws : List (Int × List (Int × List Int))) (it : List (Int × List Int)) : VolO := if hi = true then (ne, hi, fl, ws, 28) else (ne, hi, fl, (wrR bl sz ws it).1, (wrR bl sz ws it).2)
def reachR (hi : Bool) (fl at0 nd : Int) : Int := if hi = true then 28 else if at0 < fl then 30 else if nd < at0 then 31 else 0
def pruneR (ne fl : Int) (hi : Bool) (pins : List Int) (ws : List (Int × List (Int × List Int))) (at0 : Int) : VolO := if reachR hi fl at0 (lowL ws.length pins) = 0 then (ne, hi, at0, ws, 0) else (ne, hi, fl, ws, reachR hi fl at0 (lowL ws.length pins))
noncomputable def takeR (bl sz to ne fl : Int) (hi : Bool) (ws : List (Int × List (Int × List Int))) (ix : Int) (it : List (Int × List Int)) : VolO :=
 if hi = false then (ne, hi, fl, ws, 33) else if 0 ≤ ix ∧ ix ≤ ne - 1 then (ne, hi, fl, ws, 0) else if ix ≠ ne ∨ ne = to then (ne, hi, fl, ws, 33)
 else if (wrR bl sz ws it).2 = 0 then (ne + 1, hi, fl, (wrR bl sz ws it).1, 0) else (ne, hi, fl, (wrR bl sz ws it).1, (wrR bl sz ws it).2)
def publishR (to ne fl : Int) (hi : Bool) (ws : List (Int × List (Int × List Int))) : VolO := if hi = false ∨ ne ≠ to then (ne, hi, fl, ws, 33) else (ne, false, (ws.length : Int), ws, 0)
noncomputable def doR (bl sz to ne fl : Int) (hi : Bool) (pins : List Int) (ws : List (Int × List (Int × List Int))) (kd at0 ix : Int) (it : List (Int × List Int)) : VolO :=
 if kd = 2 then putR bl sz ne fl hi ws it else if kd = 3 then pruneR ne fl hi pins ws at0 else if kd = 6 then takeR bl sz to ne fl hi ws ix it
 else if kd = 7 then publishR to ne fl hi ws else if kd = 8 then (ne, hi, fl, ws, 0) else (ne, hi, fl, ws, 23)
set_option maxRecDepth 100000
set_option maxHeartbeats 4000000
end
section
set_option linter.unusedVariables false
end
end Go.Proofs.YtamjnimaeecmoaaGreat.K
section
namespace Go.Proofs.YtamjnimaeecmoaaGreat.K
open Go.ChangeShapes Go.WideShapes Go.ChangeAt Go.RowKit Go.Sort
set_option linter.unusedVariables false
set_option linter.unusedSimpArgs false
variable {P : Program} {X : Cx} {M : Mm} {w w0 : World}
def nD (z : Int) : List D := [.v (.int .i64 z)]
theorem MemOk.dropN (m : MemOk X w0 M w) {i : Nat} {p : Option Addr} {l c : Nat} {k : IntKind} {zs : List Int} (hm : lk M i = some (.dat (.slice p l c) (.ns k zs))) (j : Nat) (hj : j ≤ zs.length) (i2 : Nat) (hi2 : lk M i2 = none) : MemOk X w0 ((i2, .dat (.slice (if c = j then p else p.map (·.add (j * 1))) (l - j) (c - j)) (.ns k (zs.drop j))) :: M) w :=
 m.dat i2 hi2 (.ns ((m.rd hm).ns_out.drop j hj))
end Go.Proofs.YtamjnimaeecmoaaGreat.K
end
section
namespace Go.Proofs.YtamjnimaeecmoaaGreat.K
open Go.ChangeShapes Go.WideShapes Go.ChangeAt Go.RowKit Go.Sort
set_option linter.unusedVariables false
set_option linter.unusedSimpArgs false
def sortP (l : List Int) : List Int := l.mergeSort fun x y => decide (x ≤ y)
def pinR (hi : Bool) (fl at0 nd : Int) (pins : List Int) : List Int × Int := if reachR hi fl at0 nd = 0 then (sortP (pins ++ [at0]), 0) else (pins, reachR hi fl at0 nd)
def unpinR (hi : Bool) (at0 : Int) (pins : List Int) : List Int × Int := if hi = true ∨ Lib.idxOf pins at0 < 0 then (pins, 28) else (pins.take (Lib.idxOf pins at0).toNat ++ pins.drop ((Lib.idxOf pins at0).toNat + 1), 0)
set_option maxRecDepth 100000
set_option maxHeartbeats 4000000
end Go.Proofs.YtamjnimaeecmoaaGreat.K
end
namespace Go.Proofs.YtamjnimaeecmoaaGreat.K
open Go.ChangeShapes Go.WideShapes Go.ChangeAt Go.RowKit
set_option linter.unusedVariables false
set_option linter.unusedSimpArgs false
section
theorem fl111ro : flatS Tryz.prog 111 [.int .i64 0, .slice none 0 0] = true := by kernel_rfl
theorem fl109rr : flatS Tryz.prog 109 [.int .i64 0, .slice none 0 0] = true := by kernel_rfl
theorem notin_take {l : List (Int × List Int)} {k : Nat} {xb : Int} (h : ∀ i, i < k → (l.getD i i0).1 ≠ xb) (hk : k ≤ l.length) : ¬ ∃ e ∈ l.take k, e.1 = xb := fun ⟨e, h1, h2⟩ => by
 obtain ⟨j, hj, rfl⟩ := List.getElem_of_mem h1
 have hj2 : j < k := by rw [List.length_take] at hj; omega
 have h3 := h j hj2
 rw [List.getD, List.getElem?_eq_getElem (by omega)] at h3
 rw [List.getElem_take] at h2
 exact h3 h2
set_option maxRecDepth 100000
set_option maxHeartbeats 4000000
theorem ritems_any (bl sz : Int) (l : List (Int × List Int)) (p : Option Addr) (nn c : Nat) (w0 : World) (h0 : Rd (fun _ => True) w0 (.slice p nn c) (.l 2 (l.map itD))) (hl : l.length ≤ 1000000) :
   Calls Tryz.prog 96 #[.int .i64 bl, .int .i64 sz, .slice p nn c] w0 fun e w' => ∃ b : Bool, e = .returned (.bool b) ∧ (b = true ↔ ItemsR bl sz l) ∧ Below w0.heap.size w0 w' := by
 obtain rfl : nn = l.length := by obtain ⟨pq, cq, hv, _⟩ := h0.l_shape; injection hv with _ e2 _; rw [List.length_map] at e2; exact e2
 refine ent3 Tryz.func96 rfl Tryz.ntmps96 fun Az Hz => ?_
 have m0 := MemOk.start (fun _ => False) w0
 refine regS Hz (.assign rfl .nil) fun Az Hz => ?_
 refine wsk fun K0 hK0 => ?_
 refine zsr fun K1 hK1 => ?_
 refine goCh Hz (.move rfl <| .len rfl U40 <| .lss rfl rfl <| .move rfl .nil) fun Az Hz => ?_
 refine bc Hz 12 ?_ ?_
 ·
  intro hb10 Hz; try simp only [QQ, Qax] at hb10
  refine gz hK1 Hz (.sk <| .sk <| .sk <| .pickT rfl rfl <| .nil) fun Az Hz => ?_
  refine wct Hz ?_
  replace Hz := Hz.oz [0, 1, 2, 6, 12, 16]
  refine regS Hz (.assign rfl .nil) fun Az Hz => ?_
  refine rt1 Hz ?_
  exact ⟨false, rfl, iff_of_false (by simp) (fun h => by have h8 := h.1; have h9 := h.2.1; omega), m0.below⟩
 intro hb10 Hz; try simp only [QQ, Qax] at hb10
 refine gz hK1 Hz (.moveZ rfl <| .lenZ rfl U40 <| .gtrZ rfl rfl <| .pickF rfl rfl <| .nil) fun Az Hz => ?_
 refine bc Hz 16 ?_ ?_
 ·
  intro hb21 Hz; try simp only [QQ, Qax] at hb21
  refine wct Hz ?_
  replace Hz := Hz.oz [0, 1, 2, 6, 12, 16]
  refine regS Hz (.assign rfl .nil) fun Az Hz => ?_
  refine rt1 Hz ?_
  exact ⟨false, rfl, iff_of_false (by simp) (fun h => by have h8 := h.1; have h9 := h.2.1; omega), m0.below⟩
 intro hb21 Hz; try simp only [QQ, Qax] at hb21
 refine wcf Hz ?_
 refine zss (hK0 _ _ ?_)
 refine wsk fun K2 hK2 => ?_
 replace Hz := Hz.oz [0, 1, 2, 6, 12, 16]
 refine regS Hz (.assign rfl .nil) fun Az Hz => ?_
 refine wp_block ?_
 refine wp_loop_ghost (fun g a w => ∃ k : Nat, k ≤ l.length ∧ g = l.length - k ∧ ItPre bl sz l k ∧ Has 64 [(0, .int .i64 bl), (1, .int .i64 sz), (2, .slice p l.length c), (7, .int .i64 k)] a ∧ MemOk (cn w0) w0 [] w) (l.length) ?_ ?_
 · exact ⟨0, Nat.zero_le _, rfl, (fun j hj => by omega), Hz.only [0, 1, 2, 7], m0.only []⟩
 clear Hz m0
 rintro g Az w26 ⟨k, hkl, hg, hall, Hz, m26⟩
 refine wsk fun K3 hK3 => ?_
 refine regS Hz (.move rfl <| .move rfl <| .len rfl U40 <| .lss rfl rfl .nil) fun Az Hz => ?_
 refine bc Hz 20 ?_ ?_
 ·
  intro hb31 Hz; try simp only [QQ, Qax] at hb31
  have hk : k < l.length := by omega
  obtain ⟨⟨xb, xd⟩, hes⟩ : ∃ e, l[k]? = some e := ⟨_, List.getElem?_eq_getElem hk⟩
  refine wct Hz ?_
  refine zss (hK3 _ _ ?_)
  refine wsk fun K4 hK4 => ?_
  refine wp_block ?_
  refine wsk fun K5 hK5 => ?_
  refine zsr fun K6 hK6 => ?_
  refine goCh Hz (.move rfl <| .move rfl .nil) fun Az Hz => ?_
  obtain ⟨gx37, ox37, vx37, hp37, hl37, hR37, hrg37⟩ := h0.extA (k) (r := [.v (.int .i64 xb), .ns .u8 xd]) (itD_get hes)
  revert Hz
  cases hp37
  rcases hR37 with _ | ⟨hd37_0, _ | ⟨hd37_1, _ | _⟩⟩
  obtain rfl := hd37_0.v_out
  clear hd37_0
  obtain ⟨p38, c38, hv38, hw38⟩ := hd37_1.ns_shape; subst hv38
  intro Hz
  refine goCh Hz (.c rfl (fun _ h_ => y_idx h_ rfl rfl U40 fct16 (k) rfl hk) <| .fieldAddrQ 0 rfl U111 rfl (s := 0) (by kernel_rfl) rfl <| .loadAt1 (hrg37 m26 rfl) (q := 0) rfl rfl rfl U3 rfl <| .lss rfl rfl <| .move rfl .nil) fun Az Hz => ?_
  refine bc Hz 29 ?_ ?_
  ·
   intro hb44 Hz; try simp only [QQ, Qax] at hb44
   refine gz hK6 Hz (.sk <| .sk <| .sk <| .sk <| .sk <| .sk <| .sk <| .pickT rfl rfl <| .move rfl <| .sk <| .sk <| .sk <| .sk <| .sk <| .sk <| .sk <| .sk <| .pickT rfl rfl <| .nil) fun Az Hz => ?_
   refine wct Hz ?_
   replace Hz := Hz.oz [0, 1, 2, 7, 20, 29, 38, 47]
   refine regS Hz (.assign rfl .nil) fun Az Hz => ?_
   refine rt1 Hz ?_
   exact ⟨false, rfl, iff_of_false (by simp) (fun h => by have h9 := h.2.2 k hk; rw [getI hes] at h9; dsimp only at h9; omega), m26.below⟩
  intro hb44 Hz; try simp only [QQ, Qax] at hb44
  refine goCh Hz (.moveZ rfl <| .moveZ rfl .nil) fun Az Hz => ?_
  obtain ⟨gx67, ox67, vx67, hp67, hl67, hR67, hrg67⟩ := h0.extA (k) (r := [.v (.int .i64 xb), .ns .u8 xd]) (itD_get hes)
  revert Hz
  cases hp67
  rcases hR67 with _ | ⟨hd67_0, _ | ⟨hd67_1, _ | _⟩⟩
  obtain rfl := hd67_0.v_out
  clear hd67_0
  obtain ⟨p68, c68, hv68, hw68⟩ := hd67_1.ns_shape; subst hv68
  intro Hz
  refine goCh Hz (.g rfl rfl rfl rfl (fun _ h_ => y_idx h_ rfl rfl U40 fct16 (k) rfl hk) <| .fieldAddrQZ 0 rfl U111 rfl (s := 0) (by kernel_rfl) rfl <| .loadAt1Z (hrg67 m26 rfl) (q := 0) rfl rfl rfl U3 rfl <| .moveZ rfl <| .geqZ rfl rfl <| .pickF rfl rfl <| .move rfl .nil) fun Az Hz => ?_
  refine bc Hz 38 ?_ ?_
  ·
   intro hb76 Hz; try simp only [QQ, Qax] at hb76
   refine gz hK6 Hz (.sk <| .sk <| .sk <| .sk <| .sk <| .sk <| .sk <| .sk <| .pickT rfl rfl <| .nil) fun Az Hz => ?_
   refine wct Hz ?_
   replace Hz := Hz.oz [0, 1, 2, 7, 20, 29, 38, 47]
   refine regS Hz (.assign rfl .nil) fun Az Hz => ?_
   refine rt1 Hz ?_
   exact ⟨false, rfl, iff_of_false (by simp) (fun h => by have h9 := h.2.2 k hk; rw [getI hes] at h9; dsimp only at h9; omega), m26.below⟩
  intro hb76 Hz; try simp only [QQ, Qax] at hb76
  refine goCh Hz (.moveZ rfl <| .moveZ rfl .nil) fun Az Hz => ?_
  obtain ⟨gx90, ox90, vx90, hp90, hl90, hR90, hrg90⟩ := h0.extA (k) (r := [.v (.int .i64 xb), .ns .u8 xd]) (itD_get hes)
  revert Hz
  cases hp90
  rcases hR90 with _ | ⟨hd90_0, _ | ⟨hd90_1, _ | _⟩⟩
  obtain rfl := hd90_0.v_out
  clear hd90_0
  obtain ⟨p91, c91, hv91, hw91⟩ := hd90_1.ns_shape; subst hv91
  intro Hz
  refine gz hK6 Hz (.g rfl rfl rfl rfl (fun _ h_ => y_idx h_ rfl rfl U40 fct16 (k) rfl hk) <| .fieldAddrQZ 1 rfl U111 rfl (s := 0) (by kernel_rfl) rfl <| .loadAt1Z (hrg90 m26 rfl) (q := 1) rfl rfl rfl U22 rfl <| .lenZ rfl U22 <| .moveZ rfl <| .neqZ rfl rfl <| .pickF rfl rfl <| .nil) fun Az Hz => ?_
  refine bc Hz 47 ?_ ?_
  ·
   intro hb99 Hz; try simp only [QQ, Qax] at hb99
   refine wct Hz ?_
   replace Hz := Hz.oz [0, 1, 2, 7, 20, 29, 38, 47]
   refine regS Hz (.assign rfl .nil) fun Az Hz => ?_
   refine rt1 Hz ?_
   exact ⟨false, rfl, iff_of_false (by simp) (fun h => by have h9 := h.2.2 k hk; rw [getI hes] at h9; dsimp only at h9; omega), m26.below⟩
  intro hb99 Hz; try simp only [QQ, Qax] at hb99
  refine wcf Hz ?_
  refine zss (hK5 _ _ ?_)
  replace Hz := Hz.oz [0, 1, 2, 7, 20, 29, 38, 47]
  refine regS Hz (.assign rfl .nil) fun Az Hz => ?_
  refine wp_block ?_
  refine wp_loop_ghost (fun g a w => ∃ j : Nat, j ≤ k ∧ g = k - j ∧ (∀ i, i < j → (l.getD i i0).1 ≠ xb) ∧ Has 64 [(0, .int .i64 bl), (1, .int .i64 sz), (2, .slice (some ⟨gx37, ox37, none⟩) l.length c), (7, .int .i64 k), (8, .int .i64 j)] a ∧ MemOk (cn w0) w0 [] w) (k) ?_ ?_
  · exact ⟨0, Nat.zero_le _, rfl, (fun i hi => by omega), Hz.only [0, 1, 2, 7, 8], m26.only []⟩
  clear Hz m26
  rintro g Az w104 ⟨j, hjk, hg2, hall2, Hz, m104⟩
  refine wsk fun K7 hK7 => ?_
  refine regS Hz (.move rfl <| .move rfl <| .lss rfl rfl .nil) fun Az Hz => ?_
  refine bc Hz 50 ?_ ?_
  ·
   intro hb108 Hz; try simp only [QQ, Qax] at hb108
   have hj : j < k := by omega
   obtain ⟨⟨yb, yd⟩, hej⟩ : ∃ e, l[j]? = some e := ⟨_, List.getElem?_eq_getElem (by omega)⟩
   refine wct Hz ?_
   refine zss (hK7 _ _ ?_)
   refine wsk fun K8 hK8 => ?_
   refine wp_block ?_
   refine wsk fun K9 hK9 => ?_
   obtain ⟨gx110, ox110, vx110, hp110, hl110, hR110, hrg110⟩ := h0.extA (j) (r := [.v (.int .i64 yb), .ns .u8 yd]) (itD_get hej)
   revert Hz
   cases hp110
   rcases hR110 with _ | ⟨hd110_0, _ | ⟨hd110_1, _ | _⟩⟩
   obtain rfl := hd110_0.v_out
   clear hd110_0
   obtain ⟨p111, c111, hv111, hw111⟩ := hd110_1.ns_shape; subst hv111
   intro Hz
   obtain ⟨gx113, ox113, vx113, hp113, hl113, hR113, hrg113⟩ := h0.extA (k) (r := [.v (.int .i64 xb), .ns .u8 xd]) (itD_get hes)
   revert Hz
   cases hp113
   rcases hR113 with _ | ⟨hd113_0, _ | ⟨hd113_1, _ | _⟩⟩
   obtain rfl := hd113_0.v_out
   clear hd113_0
   obtain ⟨p114, c114, hv114, hw114⟩ := hd113_1.ns_shape; subst hv114
   intro Hz
   have m115 : MemOk _ _ [] _ := m104.only []; clear m104
   refine region_p 11 (B := []) (m115.to trivial) m115 (by kernel_rfl) (fun w116 hP116 m116 => ?_); clear m115
   refine goR hP116 [0, 1, 2, 3, 4, 5, 6, 7, 8, 9, 10] [4, 9] 11 0 2047 Hz (m116.to trivial) (.move rfl <| .move rfl <| .p (fun _ _ h_ => y_idx h_ rfl rfl U40 fct16 (j) rfl (by omega)) <| .fieldAddrQ 0 rfl U111 rfl (s := 0) (by kernel_rfl) rfl <| .loadAt1 (fun _ h_ => (hrg110 h_ rfl)) (q := 0) rfl rfl rfl U3 rfl <| .move rfl <| .move rfl <| .p (fun _ _ h_ => y_idx h_ rfl rfl U40 fct16 (k) rfl hk) <| .fieldAddrQ 0 rfl U111 rfl (s := 0) (by kernel_rfl) rfl <| .loadAt1 (fun _ h_ => (hrg113 h_ rfl)) (q := 0) rfl rfl rfl U3 rfl <| .eql rfl rfl .nil) fun Az Hz => ?_
   refine wpAnyE_done (by kernel_rfl) ?_ _
   refine hK9 _ _ ?_
   refine bc Hz 63 ?_ ?_
   ·
    intro hb128 Hz; try simp only [QQ, Qax] at hb128
    refine wct Hz ?_
    replace Hz := Hz.oz [0, 1, 2, 7, 8, 63]
    refine regS Hz (.assign rfl .nil) fun Az Hz => ?_
    refine rt1 Hz ?_
    exact ⟨false, rfl, iff_of_false (by simp) (fun h => by have h9 := (h.2.2 k hk).2.2.2; rw [getI hes] at h9; exact h9 ⟨_, List.mem_of_getElem? (i := j) (by rw [List.getElem?_take_of_lt hj]; exact hej), hb128⟩), m116.below⟩
   intro hb128 Hz; try simp only [QQ, Qax] at hb128
   refine wcf Hz ?_
   refine zss (hK8 _ _ ?_)
   replace Hz := Hz.oz [0, 1, 2, 7, 8, 63]
   refine wp_region_lit ?_
   refine goCh Hz (.move rfl <| .inc (j + 1) <| .assign rfl .nil) fun Az Hz => ?_
   refine wpList_nil ?_
   show ∃ n', n' < _ ∧ _
   exact ⟨k - (j + 1), by omega, j + 1, by omega, rfl, ne_snoc hall2 hej hb128, Hz.only [0, 1, 2, 7, 8], m116.only []⟩
  intro hb108 Hz; try simp only [QQ, Qax] at hb108
  have hjk2 : j = k := by omega
  rw [hjk2] at hall2
  refine wcf Hz ?_
  refine wp_exit ?_
  refine hK4 _ _ ?_
  refine wp_region_lit ?_
  refine goCh Hz (.move rfl <| .inc (k + 1) <| .assign rfl .nil) fun Az Hz => ?_
  refine wpList_nil ?_
  show ∃ n', n' < _ ∧ _
  exact ⟨l.length - (k + 1), by omega, k + 1, by omega, rfl, itpre_snoc hall hes (by omega) (by omega) (notin_take hall2 (by omega)), Hz.only [0, 1, 2, 7], m104.only []⟩
 intro hb31 Hz; try simp only [QQ, Qax] at hb31
 revert Hz
 obtain rfl : k = l.length := by omega
 intro Hz
 refine wcf Hz ?_
 refine wp_exit ?_
 refine hK2 _ _ ?_
 refine regS Hz (.assign rfl .nil) fun Az Hz => ?_
 refine rt1 Hz ?_
 exact ⟨true, rfl, iff_of_true rfl ⟨by omega, by omega, hall⟩, m26.below⟩
theorem rlen_any (vo bl sz pe to ne fl : Int) (hi : Bool) (pp pn pw : Option Addr) (np cp nn cn nw cw : Nat) (w0 : World) :
   Calls Tryz.prog 13 #[.agg #[.int .i64 vo, .int .i64 bl, .int .i64 sz, .int .i64 pe, .slice pp np cp, .int .i64 to, .int .i64 ne, .bool hi, .int .i64 fl, .slice pn nn cn, .slice pw nw cw]] w0 fun e w' => e = .returned (.int .i64 (nw : Int)) ∧ Below w0.heap.size w0 w' := by
 refine ent1 Tryz.func13 rfl Tryz.ntmps13 fun Az Hz => ?_
 have m0 := MemOk.start (fun _ => False) w0
 refine zsr fun K0 hK0 => ?_
 refine plz (e_box Hz m0 4 (cs := [_, _, _, _, _, _, _, _, _, _, _]) rfl rfl rfl fun g1 Az w2 Hz m2 _ _ => ?_)
 refine gz hK0 Hz (.assign rfl .nil) fun Az Hz => ?_
 refine regS Hz (.fa 10 rfl U33 <| .lb m2 4 U31 rfl rfl rfl <| .len rfl U31 <| .assign rfl .nil) fun Az Hz => ?_
 refine rt1 Hz ?_
 exact ⟨rfl, m2.below⟩
theorem rlow_any (vo bl sz pe to ne fl : Int) (hi : Bool) (pins : List Int) (pp pn pw : Option Addr) (np cp cn9 nw cw : Nat) (w0 : World) (h1 : Rd (fun _ => True) w0 (.slice pn pins.length cn9) (.ns .i64 pins)) (hp : pins.length ≤ 1000000) :
   Calls Tryz.prog 124 #[.agg #[.int .i64 vo, .int .i64 bl, .int .i64 sz, .int .i64 pe, .slice pp np cp, .int .i64 to, .int .i64 ne, .bool hi, .int .i64 fl, .slice pn pins.length cn9, .slice pw nw cw]] w0 fun e w' => e = .returned (.int .i64 (lowL nw pins)) ∧ Below w0.heap.size w0 w' := by
 refine ent1 Tryz.func124 rfl Tryz.ntmps124 fun Az Hz => ?_
 have m0 := MemOk.start (fun _ => False) w0
 refine zsr fun K0 hK0 => ?_
 refine plz (e_box Hz m0 20 (cs := [_, _, _, _, _, _, _, _, _, _, _]) rfl rfl rfl fun g1 Az w2 Hz m2 _ _ => ?_)
 refine gz hK0 Hz (.assign rfl .nil) fun Az Hz => ?_
 refine zsr fun K1 hK1 => ?_
 refine goCh Hz (.loadBR m2 (i := 20) rfl rfl U33 rfl fct1 (by simp) (by dsimp only [List.drop, List.take] <;> rfl) .nil) fun Az Hz => ?_
 refine plz (ecb Hz Tryz.func13 rfl m2 (rlen_any _ _ _ _ _ _ _ _ _ _ _ _ _ _ _ _ _ _) fun Az w6 Hz m7 => ?_)
 refine gz hK1 Hz (.assign rfl .nil) fun Az Hz => ?_
 refine wsk fun K2 hK2 => ?_
 refine regS Hz (.assign rfl .nil) fun Az Hz => ?_
 refine wp_block ?_
 refine wp_loop_ghost (fun g a w => ∃ (k B : Nat), k ≤ pins.length ∧ g = pins.length - k ∧ Has 22 [(1, .pointer (some ⟨B, 0, none⟩)), (3, .int .i64 (lowL nw (pins.take k))), (4, .int .i64 k)] a ∧ MemOk (cn w0) w0 [(9, .box B 33 [.int .i64 vo, .int .i64 bl, .int .i64 sz, .int .i64 pe, .slice pp np cp, .int .i64 to, .int .i64 ne, .bool hi, .int .i64 fl, .slice pn pins.length cn9, .slice pw nw cw])] w) (pins.length) ?_ ?_
 · exact ⟨0, _, Nat.zero_le _, rfl, Hz.only [1, 3, 4], m7.ren [(9, 20)] (by decide)⟩
 clear Hz m7
 rintro g Az w11 ⟨k, B, hkl, hg, Hz, m11⟩
 refine wsk fun K3 hK3 => ?_
 refine regS Hz (.move rfl <| .fa 9 rfl U33 <| .lb m11 9 U30 rfl rfl rfl <| .len rfl U30 <| .lss rfl rfl .nil) fun Az Hz => ?_
 refine bc Hz 11 ?_ ?_
 ·
  intro hb17 Hz; try simp only [QQ, Qax] at hb17
  have hk : k < pins.length := by omega
  refine wct Hz ?_
  refine zss (hK3 _ _ ?_)
  refine wsk fun K4 hK4 => ?_
  refine wp_block ?_
  refine wp_region_lit ?_
  refine goCh Hz (.move rfl <| .fa 9 rfl U33 <| .lb m11 9 U30 rfl rfl rfl <| .move rfl .nil) fun Az Hz => ?_
  obtain ⟨gx22, ox22, hp22, hl22, hrg22⟩ := h1.extN (k) hk
  revert Hz
  cases hp22
  intro Hz
  refine gz hK4 Hz (.c rfl (fun _ h_ => y_idx h_ rfl rfl U30 fct10 (k) rfl hk) <| .loadAt1 (hrg22 m11 rfl) (q := 0) rfl rfl rfl U2 rfl <| .c rfl (fun _ h_ => y_min h_ rfl rfl rfl) <| .assign rfl <| .nil) fun Az Hz => ?_
  replace Hz := Hz.oz [1, 3, 4]
  refine wp_region_lit ?_
  refine goCh Hz (.move rfl <| .inc (k + 1) <| .assign rfl .nil) fun Az Hz => ?_
  refine wpList_nil ?_
  show ∃ n', n' < _ ∧ _
  rw [low_snoc hk] at Hz
  exact ⟨pins.length - (k + 1), by omega, k + 1, _, by omega, rfl, Hz.only [1, 3, 4], m11.only [9]⟩
 intro hb17 Hz; try simp only [QQ, Qax] at hb17
 revert Hz
 obtain rfl : k = pins.length := by omega
 intro Hz
 refine wcf Hz ?_
 refine wp_exit ?_
 refine hK2 _ _ ?_
 refine regS Hz (.move rfl <| .assign rfl .nil) fun Az Hz => ?_
 refine rt1 Hz ?_
 exact ⟨by rw [List.take_length], m11.below⟩
theorem rown_any (es : List (Int × List Int)) (p0 : Option Addr) (c0 nn : Nat) (w0 : World) (h0 : Rd (fun _ => True) w0 (.slice p0 nn c0) (.l 2 (es.map itD))) (hl : es.length ≤ 1000000) (hok : ItsOk es) :
   Calls Tryz.prog 135 #[.slice p0 nn c0] w0 fun e w' => ∃ p c, e = .returned (.slice p (es.map itD).length c) ∧ Rd (New w0) w' (.slice p (es.map itD).length c) (.l 2 (es.map itD)) ∧ Below w0.heap.size w0 w' := by
 obtain rfl : nn = es.length := by obtain ⟨pq, cq, hv, _⟩ := h0.l_shape; injection hv with _ e2 _; rw [List.length_map] at e2; exact e2
 refine ent1 Tryz.func135 rfl Tryz.ntmps135 fun Az Hz => ?_
 have m0 := MemOk.start (fun _ => False) w0
 refine regS Hz (.assign rfl .nil) fun Az Hz => ?_
 refine regS Hz (.assign rfl .nil) fun Az Hz => ?_
 refine wsk fun K0 hK0 => ?_
 refine regS Hz (.assign rfl .nil) fun Az Hz => ?_
 refine wp_block ?_
 refine wp_loop_ghost (fun g a w => ∃ (k : Nat) (p : Option Addr) (c : Nat), k ≤ es.length ∧ g = es.length - k ∧ Has 27 [(0, .slice p0 es.length c0), (3, .slice p ((es.take k).map itD).length c), (4, .int .i64 k)] a ∧ MemOk (cn w0) w0 [(9, .row (.slice p ((es.take k).map itD).length c) 111 2 ((es.take k).map itD))] w) (es.length) ?_ ?_
 · have mz := m0.nilR 9 111 2
   exact ⟨0, _, _, Nat.zero_le _, rfl, Hz.only [0, 3, 4], mz.only [9]⟩
 clear Hz m0
 rintro g Az w4 ⟨k, p, c, hkl, hg, Hz, m4⟩
 refine wsk fun K1 hK1 => ?_
 refine regS Hz (.move rfl <| .move rfl <| .len rfl U40 <| .lss rfl rfl .nil) fun Az Hz => ?_
 refine bc Hz 8 ?_ ?_
 ·
  intro hb9 Hz; try simp only [QQ, Qax] at hb9
  have hk : k < es.length := by omega
  obtain ⟨⟨xb, xd⟩, hes⟩ : ∃ e, es[k]? = some e := ⟨_, List.getElem?_eq_getElem hk⟩
  have hed := hok _ (List.mem_of_getElem? hes)
  dsimp only at hed
  refine wct Hz ?_
  refine zss (hK1 _ _ ?_)
  refine wsk fun K2 hK2 => ?_
  refine wp_block ?_
  obtain ⟨gx11, ox11, vx11, hp11, hl11, hR11, hrg11⟩ := h0.extA (k) (r := [.v (.int .i64 xb), .ns .u8 xd]) (itD_get hes)
  revert Hz
  cases hp11
  rcases hR11 with _ | ⟨hd11_0, _ | ⟨hd11_1, _ | _⟩⟩
  obtain rfl := hd11_0.v_out
  clear hd11_0
  obtain ⟨p12, c12, hv12, hw12⟩ := hd11_1.ns_shape; subst hv12
  intro Hz
  obtain ⟨gx14, ox14, vx14, hp14, hl14, hR14, hrg14⟩ := h0.extA (k) (r := [.v (.int .i64 xb), .ns .u8 xd]) (itD_get hes)
  revert Hz
  cases hp14
  rcases hR14 with _ | ⟨hd14_0, _ | ⟨hd14_1, _ | _⟩⟩
  obtain rfl := hd14_0.v_out
  clear hd14_0
  obtain ⟨p15, c15, hv15, hw15⟩ := hd14_1.ns_shape; subst hv15
  intro Hz
  have m16 := m4.oz [9]
  refine region_p 14 (B := [(9, _)]) (m16.to ⟨il, trivial⟩) m16 (by kernel_rfl) (fun w17 hP17 m17 => ?_); clear m16
  refine goR hP17 [0, 1, 2, 3, 4, 5, 6, 7, 8, 9, 10] [5, 10] 11 0 2047 Hz (m17.to ⟨il, trivial⟩) (.move rfl <| .move rfl <| .move rfl <| .p (fun _ _ h_ => y_idx h_ rfl rfl U40 fct16 (k) rfl hk) <| .fieldAddrQ 0 rfl U111 rfl (s := 0) (by kernel_rfl) rfl <| .loadAt1 (fun _ h_ => (hrg11 h_ rfl)) (q := 0) rfl rfl rfl U3 rfl <| .move rfl <| .move rfl <| .p (fun _ _ h_ => y_idx h_ rfl rfl U40 fct16 (k) rfl hk) <| .fieldAddrQ 1 rfl U111 rfl (s := 0) (by kernel_rfl) rfl <| .loadAt1 (fun _ h_ => (hrg14 h_ rfl)) (q := 1) rfl rfl rfl U22 rfl .nil) fun Az Hz => ?_
  refine so 11 ?_
  refine e_app0M Hz m17 102 rfl rfl (hd14_1.now' m17 rfl).ns_out.nums U22 fct19 (by decide) (by omega) rfl fun p29 c29 Az w30 Hz m30 => ?_
  refine ⟨m30.to ⟨il, trivial⟩, ?_⟩
  refine goA hP17 [12] 1 4095 8191 Hz (m30.to ⟨il, trivial⟩) (.build rfl fct25 fl111ro rfl (by dsimp only [setL, List.set] <;> rfl) .nil) fun Az Hz => ?_
  have m33 := m30.freezeN 102 rfl
  refine so 13 ?_
  refine e_litR Hz m33 103 (mm := 2) rfl (.cons rfl rfl (.cons (.v _) (.cons (m33.rd (i := 102) rfl) .nil)) .nil) U40 fct24 rfl rfl rfl rfl rfl fun g32 Az w34 Hz m34 => ?_
  refine ⟨m34.to ⟨il, trivial⟩, ?_⟩
  have m36 := m34.freezeR 103 rfl
  refine se 14 ?_
  refine e_appR Hz m36 9 rfl rfl rfl (m36.rd (i := 103) rfl) U40 fct24 rfl rfl (by decide) (by simp; omega) rfl fun p35 c35 Az w37 Hz m37 => ?_
  refine goB hP17 [15] 1 32767 65535 Hz (.assign rfl .nil) fun Az Hz => ?_
  refine wpAnyE_done (by kernel_rfl) ?_ _
  refine hK2 _ _ ?_
  replace Hz := Hz.oz [0, 3, 4]
  refine wp_region_lit ?_
  refine goCh Hz (.move rfl <| .inc (k + 1) <| .assign rfl .nil) fun Az Hz => ?_
  refine wpList_nil ?_
  show ∃ n', n' < _ ∧ _
  have hE : (es.take k).map itD ++ [[D.v (.int .i64 xb), .ns .u8 xd]] = (es.take (k + 1)).map itD := by rw [take_snoc hes, List.map_append]; rfl
  rw [hE] at m37 Hz
  exact ⟨es.length - (k + 1), by omega, k + 1, _, _, by omega, rfl, Hz.only [0, 3, 4], m37.only [9]⟩
 intro hb9 Hz; try simp only [QQ, Qax] at hb9
 revert Hz
 obtain rfl : k = es.length := by omega
 intro Hz
 refine wcf Hz ?_
 refine wp_exit ?_
 refine hK0 _ _ ?_
 refine regS Hz (.move rfl <| .assign rfl .nil) fun Az Hz => ?_
 refine rt1 Hz ?_
 rw [List.take_length] at *
 have m45 := m4.freezeR 9 rfl
 exact ⟨_, _, rfl, m45.outF (i := 9) rfl, m45.below⟩
theorem rwrite_fr (X : Cx) (vo bl sz pe to ne fl : Int) (hi : Bool) (place pins : List Int) (ws : List (Int × List (Int × List Int))) (items : List (Int × List Int)) (pp pn pw : Option Addr) (cp cn9 cw : Nat) (pi : Option Addr) (ci : Nat) (w0 : World) (hl : ws.length ≤ 900000) (hil : items.length ≤ 1000000) (hio : ItsOk items) (m0 : MemOk X w0 [(1, .dat (.slice pp place.length cp) (.ns .i64 place)), (2, .dat (.slice pn pins.length cn9) (.ns .i64 pins)), (3, .dat (.slice pw (ws.map wrD).length cw) (.l 2 (ws.map wrD))), (4, .dat (.slice pi items.length ci) (.l 2 (items.map itD)))] w0) :
   Calls Tryz.prog 123 #[.agg #[.int .i64 vo, .int .i64 bl, .int .i64 sz, .int .i64 pe, .slice pp place.length cp, .int .i64 to, .int .i64 ne, .bool hi, .int .i64 fl, .slice pn pins.length cn9, .slice pw (ws.map wrD).length cw], .slice pi items.length ci] w0 fun e w' => ∃ p c, e = .returned (.agg #[.int .i64 vo, .int .i64 bl, .int .i64 sz, .int .i64 pe, .slice pp place.length cp, .int .i64 to, .int .i64 ne, .bool hi, .int .i64 fl, .slice pn pins.length cn9, .slice p ((ws ++ [((ws.length : Int) + 1, items)]).map wrD).length c]) ∧ MemOk X w0 [(1, .dat (.slice pp place.length cp) (.ns .i64 place)), (2, .dat (.slice pn pins.length cn9) (.ns .i64 pins)), (3, .dat (.slice pw (ws.map wrD).length cw) (.l 2 (ws.map wrD))), (4, .dat (.slice pi items.length ci) (.l 2 (items.map itD))), (7, .dat (.slice p ((ws ++ [((ws.length : Int) + 1, items)]).map wrD).length c) (.l 2 ((ws ++ [((ws.length : Int) + 1, items)]).map wrD)))] w' := by
 refine ent2 Tryz.func123 rfl Tryz.ntmps123 fun Az Hz => ?_
 refine zsr fun K0 hK0 => ?_
 refine plz (e_box Hz m0 20 (cs := [_, _, _, _, _, _, _, _, _, _, _]) rfl rfl rfl fun g1 Az w2 Hz m2 _ _ => ?_)
 refine plz (e_alloc Hz m2 21 fct2 rfl fun g3 Az w4 Hz m4 _ _ => ?_)
 refine znl (hK0 _ _ ?_)
 refine wsk fun K1 hK1 => ?_
 have m5 := m4.oz [1, 2, 3, 4, 20, 21]
 refine region_p 12 (B := [(1, _), (2, _), (3, _), (4, _), (20, _), (21, _)]) (m5.to ⟨il, il, il, il, il, il, trivial⟩) m5 (by kernel_rfl) (fun w6 hP6 m6 => ?_); clear m5
 refine goR hP6 [0, 1, 3, 6] [1, 3] 4 0 75 Hz (m6.to ⟨il, il, il, il, il, il, trivial⟩) (.fa 10 rfl U33 <| .lb hh 20 U31 rfl rfl rfl <| .loadBR hh (i := 20) rfl rfl U33 rfl fct1 (by simp) (by dsimp only [List.drop, List.take] <;> rfl) <| .move rfl .nil) fun Az Hz => ?_
 have m11 := m6.nilR 22 109 2
 refine so 2 ?_
 refine e_appR Hz m11 22 rfl rfl rfl (m11.rd (i := 3) rfl) U31 fct26 rfl rfl (by decide) (by simp; omega) rfl fun p12 c12 Az w13 Hz m13 => ?_
 refine ⟨m13.to ⟨il, il, il, il, il, il, trivial⟩, ?_⟩
 refine so 4 ?_
 refine ecb Hz Tryz.func13 rfl m13 (rlen_any _ _ _ _ _ _ _ _ _ _ _ _ _ _ _ _ _ _) fun Az w14 Hz m15 => ?_
 refine ⟨m15.to ⟨il, il, il, il, il, il, trivial⟩, ?_⟩
 refine goA hP6 [5] 1 95 127 Hz (m15.to ⟨il, il, il, il, il, il, trivial⟩) (.add rfl rfl (r := (ws.length : Int) + 1) (by rw [List.length_map]; exact IntWalk.i64_in _ (by omega)) .nil) fun Az Hz => ?_
 refine so 7 ?_
 refine ecl Hz Tryz.func135 rfl (rown_any items _ _ _ _ ((m15.rd (i := 4) rfl).any) hil hio) ?_
 rintro e w18 ⟨p18, c18, rfl, hd18, hb18⟩
 have m19 := m15.callF 23 rfl hb18 hd18
 refine ⟨_, rfl, ?_⟩; intro Az Hz
 refine ⟨m19.to ⟨il, il, il, il, il, il, trivial⟩, ?_⟩
 refine goA hP6 [8] 1 255 511 Hz (m19.to ⟨il, il, il, il, il, il, trivial⟩) (.build rfl fct18 fl109rr rfl (by dsimp only [setL, List.set] <;> rfl) .nil) fun Az Hz => ?_
 refine so 9 ?_
 refine e_litR Hz m19 24 (mm := 2) rfl (.cons rfl rfl (.cons (.v _) (.cons (m19.rd (i := 23) rfl) .nil)) .nil) U31 fct26 rfl rfl rfl rfl rfl fun g22 Az w23 Hz m23 => ?_
 refine ⟨m23.to ⟨il, il, il, il, il, il, trivial⟩, ?_⟩
 have m25 := m23.freezeR 24 rfl
 refine so 10 ?_
 refine e_appR Hz m25 22 rfl rfl rfl (m25.rd (i := 24) rfl) U31 fct26 rfl rfl (by decide) (by simp; omega) rfl fun p24 c24 Az w26 Hz m26 => ?_
 refine ⟨m26.to ⟨il, il, il, il, il, il, trivial⟩, ?_⟩
 refine goA hP6 [11] 1 2047 4095 Hz (m26.to ⟨il, il, il, il, il, il, trivial⟩) (.fa 10 rfl U33 .nil) fun Az Hz => ?_
 refine se 12 ?_
 refine st1 Hz m26 20 fct27 fun w28 m28 _ => ?_
 refine wpAnyE_done (by kernel_rfl) ?_ _
 refine hK1 _ _ ?_
 replace Hz := Hz.oz [2, 4]
 refine zsr fun K2 hK2 => ?_
 refine goCh Hz (.loadBR m28 (i := 20) rfl rfl U33 rfl fct1 (by simp) (by dsimp only [List.drop, List.take] <;> rfl) .nil) fun Az Hz => ?_
 refine plz (stw Hz m28 21 fct1 fun w32 m32 _ => ?_)
 refine znl (hK2 _ _ ?_)
 refine rtd (retC (fn := Tryz.f123) Hz m32 (i := 21) rfl rfl rfl U33 rfl fct1 ?_)
 have hE : [] ++ ws.map wrD ++ [[D.v (.int .i64 ((ws.length : Int) + 1)), .l 2 (items.map itD)]] = (ws ++ [((ws.length : Int) + 1, items)]).map wrD := by rw [List.map_append]; rfl
 rw [hE] at m32 ⊢
 have m33 := m32.freezeR 22 rfl
 exact ⟨_, _, rfl, m33.ren [(1, 1), (2, 2), (3, 3), (4, 4), (7, 22)] (by decide)⟩
end
section
theorem leb_step {j : Nat} {u : Int} (hj : j ≤ 9) (hu : u < 2 ^ (64 - 7 * j)) (h : 128 ≤ u) : j + 1 ≤ 9 ∧ u / 128 < 2 ^ (64 - 7 * (j + 1)) := by
 have hc : j = 0 ∨ j = 1 ∨ j = 2 ∨ j = 3 ∨ j = 4 ∨ j = 5 ∨ j = 6 ∨ j = 7 ∨ j = 8 ∨ j = 9 := by omega
 rcases hc with rfl | rfl | rfl | rfl | rfl | rfl | rfl | rfl | rfl | rfl <;> simp at hu ⊢ <;> omega
set_option maxRecDepth 100000
set_option maxHeartbeats 4000000
end
section
theorem wrapu (z : Int) : 0 ≤ IntKind.u64.wrap z := by
 have e : IntKind.u64.wrap z = z % 18446744073709551616 := by simp [IntKind.wrap, IntKind.signed, IntKind.bits]
 rw [e]; omega
set_option maxRecDepth 100000
set_option maxHeartbeats 4000000
theorem rfail (X : Cx) (B : Nat) (v : Value) (er cd : Int) (w0 : World) (m0 : MemOk X w0 [(1, .box B 154 [v, .int .i64 er])] w0) :
   Calls Tryz.prog 121 #[.pointer (some ⟨B, 0, none⟩), .int .i64 cd] w0 fun e w' => e = .returned (.tuple #[]) ∧ MemOk X w0 [(1, .box B 154 [.slice none 0 0, .int .i64 cd])] w' := by
 refine ent2 Tryz.func121 rfl Tryz.ntmps121 fun Az Hz => ?_
 refine wp_region_lit ?_
 refine goCh Hz (.move rfl <| .move rfl <| .move rfl <| .nilCheck rfl <| .fa 0 rfl U154 .nil) fun Az Hz => ?_
 refine plz (st1 Hz m0 1 fct35 fun w6 m6 _ => ?_)
 refine goCh Hz (.nilCheck rfl <| .fa 1 rfl U154 .nil) fun Az Hz => ?_
 refine plz (st1 Hz m6 1 fct23 fun w9 m9 _ => ?_)
 refine wpList_nil ?_
 try dsimp only [Exit.then]
 try refine out_here ?_
 refine (ret0 (fn := Tryz.f121) Hz rfl ?_)
 exact ⟨rfl, m9.only [1]⟩
theorem rnum (X : Cx) (B : Nat) (b : List Int) (er mx : Int) (p : Option Addr) (c : Nat) (w0 : World) (hb : b.length ≤ 1000000) (hbb : BytesL b) (hmx : 0 ≤ mx) (m0 : MemOk X w0 [(1, .box B 154 [.slice p b.length c, .int .i64 er]), (2, .dat (.slice p b.length c) (.ns .u8 b))] w0) :
   Calls Tryz.prog 91 #[.pointer (some ⟨B, 0, none⟩), .int .u64 mx] w0 fun e w' => ∃ (u : Int) (b' : List Int) (p' : Option Addr) (c' : Nat) (er' : Int), e = .returned (.int .u64 u) ∧ (0 ≤ u ∧ u ≤ mx) ∧ b'.length ≤ b.length ∧ BytesL b' ∧ MemOk X w0 [(1, .box B 154 [.slice p' b'.length c', .int .i64 er']), (2, .dat (.slice p' b'.length c') (.ns .u8 b'))] w' := by
 refine ent2 Tryz.func91 rfl Tryz.ntmps91 fun Az Hz => ?_
 refine regS Hz (.assign rfl .nil) fun Az Hz => ?_
 refine wsk fun K0 hK0 => ?_
 refine regS Hz (.move rfl <| .nilCheck rfl <| .fa 1 rfl U154 <| .lb m0 1 U3 rfl rfl rfl <| .neq rfl rfl .nil) fun Az Hz => ?_
 refine bc Hz 12 ?_ ?_
 ·
  intro hb7 Hz; try simp only [QQ, Qax] at hb7
  refine wct Hz ?_
  refine regS Hz (.assign rfl .nil) fun Az Hz => ?_
  refine rt1 Hz ?_
  exact ⟨0, b, _, _, _, rfl, ⟨by omega, by omega⟩, by omega, hbb, m0.ren [(1, 1), (2, 2)] (by decide)⟩
 intro hb7 Hz; try simp only [QQ, Qax] at hb7
 refine wcf Hz ?_
 refine zss (hK0 _ _ ?_)
 refine regS Hz (.assign rfl .nil) fun Az Hz => ?_
 refine wsk fun K1 hK1 => ?_
 refine regS Hz (.assign rfl .nil) fun Az Hz => ?_
 refine wp_block ?_
 refine wp_loop_ghost (fun g a w => ∃ (k : Nat) (u : Int), k ≤ b.length ∧ g = b.length - k ∧ 0 ≤ u ∧ Has 73 [(0, .pointer (some ⟨B, 0, none⟩)), (1, .int .u64 mx), (5, .int .u64 u), (6, .int .i64 k)] a ∧ MemOk X w0 [(1, .box B 154 [.slice p b.length c, .int .i64 er]), (2, .dat (.slice p b.length c) (.ns .u8 b))] w) (b.length) ?_ ?_
 · exact ⟨0, 0, Nat.zero_le _, rfl, Int.le_refl _, Hz.only [0, 1, 5, 6], m0.only [1, 2]⟩
 clear Hz m0
 rintro g Az w11 ⟨k, u, hkl, hg, hu, Hz, m11⟩
 refine wsk fun K2 hK2 => ?_
 refine regS Hz (.move rfl <| .move rfl <| .nilCheck rfl <| .fa 0 rfl U154 <| .lb m11 1 U22 rfl rfl rfl <| .len rfl U22 <| .lss rfl rfl .nil) fun Az Hz => ?_
 refine bc Hz 19 ?_ ?_
 ·
  intro hb19 Hz; try simp only [QQ, Qax] at hb19
  have hk : k < b.length := by omega
  refine wct Hz ?_
  refine zss (hK2 _ _ ?_)
  refine wsk fun K3 hK3 => ?_
  refine wp_block ?_
  replace Hz := Hz.oz [0, 1, 5, 6]
  refine zsr fun K4 hK4 => ?_
  refine goCh Hz (.move rfl <| .nilCheck rfl <| .fa 0 rfl U154 <| .lb m11 1 U22 rfl rfl rfl <| .move rfl .nil) fun Az Hz => ?_
  obtain ⟨b32, o32, hp32, m32⟩ := m11.openN (i := 2) rfl (k) hk 100 rfl
  revert Hz
  cases hp32
  intro Hz
  refine gz hK4 Hz (.c rfl (fun _ h_ => y_idx h_ rfl rfl U22 fct34 (k) rfl hk) <| .loadC0 m32 (i := 100) rfl rfl U5 rfl <| .assign rfl <| .nil) fun Az Hz => ?_
  refine wsk fun K5 hK5 => ?_
  replace Hz := Hz.oz [0, 1, 5, 6, 7]
  refine zsr fun K6 hK6 => ?_
  refine goCh Hz (.move rfl <| .eql rfl rfl <| .move rfl .nil) fun Az Hz => ?_
  refine bc Hz 31 ?_ ?_
  ·
   intro hb43 Hz; try simp only [QQ, Qax] at hb43
   refine gz hK6 Hz (.moveZ rfl <| .gtrZ rfl rfl <| .pickT rfl rfl <| .nil) fun Az Hz => ?_
   refine bc Hz 34 ?_ ?_
   ·
    intro hb47 Hz; try simp only [QQ, Qax] at hb47
    refine wct Hz ?_
    replace Hz := Hz.oz [0, 1, 5, 6, 7]
    refine zsr fun K7 hK7 => ?_
    refine goCh Hz (.move rfl .nil) fun Az Hz => ?_
    refine plz (ecl Hz Tryz.func121 rfl (rfail _ _ _ _ _ _ (m32.into [(1, 1)] (by decide) rfl)) ?_)
    rintro e w51 ⟨rfl, hm51⟩
    have mx51 := m32.back hm51 [(1, 1)] (by decide); clear hm51 m32
    have m51 := mx51.oz [1, 2, 100]
    refine ⟨_, rfl, ?_⟩; intro Az Hz
    refine znl (hK7 _ _ ?_)
    refine regS Hz (.assign rfl .nil) fun Az Hz => ?_
    refine rt1 Hz ?_
    have m54 := m51.dat 90 rfl (Rd.nilN _ _ .u8 none)
    exact ⟨0, [], _, _, _, rfl, ⟨by omega, by omega⟩, by simp, (fun _ h => by cases h), m54.ren [(1, 1), (2, 90)] (by decide)⟩
   intro hb47 Hz; try simp only [QQ, Qax] at hb47
   refine wcf Hz ?_
   refine zss (hK5 _ _ ?_)
   replace Hz := Hz.oz [0, 1, 5, 6, 7]
   refine regS Hz (.move rfl <| .move rfl <| .and rfl rfl rfl <| .conv rfl U5 U149 rfl <| .move rfl <| .mul rfl rfl (r := 7 * (k : Int)) (IntWalk.i64_in _ (by omega)) <| .shl rfl rfl (by omega) rfl <| .or rfl rfl rfl <| .assign rfl .nil) fun Az Hz => ?_
   replace Hz := Hz.oz [0, 1, 5, 6, 7]
   refine regS Hz (.move rfl <| .lss rfl rfl .nil) fun Az Hz => ?_
   refine bc Hz 46 ?_ ?_
   ·
    intro hb68 Hz; try simp only [QQ, Qax] at hb68
    refine wct Hz ?_
    refine wsk fun K8 hK8 => ?_
    refine zsr fun K9 hK9 => ?_
    refine goCh Hz (.move rfl <| .gtr rfl rfl <| .move rfl .nil) fun Az Hz => ?_
    refine bc Hz 49 ?_ ?_
    ·
     intro hb75 Hz; try simp only [QQ, Qax] at hb75
     refine gz hK9 Hz (.moveZ rfl <| .eqlZ rfl rfl <| .pickT rfl rfl <| .nil) fun Az Hz => ?_
     refine bc Hz 52 ?_ ?_
     ·
      intro hb79 Hz; try simp only [QQ, Qax] at hb79
      refine wct Hz ?_
      replace Hz := Hz.oz [0, 1, 5, 6]
      refine zsr fun K10 hK10 => ?_
      refine goCh Hz (.move rfl .nil) fun Az Hz => ?_
      refine plz (ecl Hz Tryz.func121 rfl (rfail _ _ _ _ _ _ (m32.into [(1, 1)] (by decide) rfl)) ?_)
      rintro e w83 ⟨rfl, hm83⟩
      have mx83 := m32.back hm83 [(1, 1)] (by decide); clear hm83 m32
      have m83 := mx83.oz [1, 2, 100]
      refine ⟨_, rfl, ?_⟩; intro Az Hz
      refine znl (hK10 _ _ ?_)
      refine regS Hz (.assign rfl .nil) fun Az Hz => ?_
      refine rt1 Hz ?_
      have m86 := m83.dat 90 rfl (Rd.nilN _ _ .u8 none)
      exact ⟨0, [], _, _, _, rfl, ⟨by omega, by omega⟩, by simp, (fun _ h => by cases h), m86.ren [(1, 1), (2, 90)] (by decide)⟩
     intro hb79 Hz; try simp only [QQ, Qax] at hb79
     refine wcf Hz ?_
     refine zss (hK8 _ _ ?_)
     refine wsk fun K11 hK11 => ?_
     replace Hz := Hz.oz [0, 1, 5, 6]
     refine regS Hz (.move rfl <| .move rfl <| .gtr rfl rfl .nil) fun Az Hz => ?_
     refine bc Hz 57 ?_ ?_
     ·
      intro hb91 Hz; try simp only [QQ, Qax] at hb91
      refine wct Hz ?_
      refine zsr fun K12 hK12 => ?_
      refine goCh Hz (.move rfl .nil) fun Az Hz => ?_
      refine plz (ecl Hz Tryz.func121 rfl (rfail _ _ _ _ _ _ (m32.into [(1, 1)] (by decide) rfl)) ?_)
      rintro e w94 ⟨rfl, hm94⟩
      have mx94 := m32.back hm94 [(1, 1)] (by decide); clear hm94 m32
      have m94 := mx94.oz [1, 2, 100]
      refine ⟨_, rfl, ?_⟩; intro Az Hz
      refine znl (hK12 _ _ ?_)
      refine regS Hz (.assign rfl .nil) fun Az Hz => ?_
      refine rt1 Hz ?_
      have m97 := m94.dat 90 rfl (Rd.nilN _ _ .u8 none)
      exact ⟨0, [], _, _, _, rfl, ⟨by omega, by omega⟩, by simp, (fun _ h => by cases h), m97.ren [(1, 1), (2, 90)] (by decide)⟩
     intro hb91 Hz; try simp only [QQ, Qax] at hb91
     refine wcf Hz ?_
     refine zss (hK11 _ _ ?_)
     refine zsr fun K13 hK13 => ?_
     refine goCh Hz (.move rfl <| .move rfl <| .nilCheck rfl <| .fa 0 rfl U154 <| .lb m32 1 U22 rfl rfl rfl <| .move rfl <| .inc (k + 1) .nil) fun Az Hz => ?_
     have m113 := m32.dropN (i := 2) rfl (k + 1) (show k + 1 ≤ b.length by omega) 101 rfl
     refine goCh Hz (.c rfl (fun _ h_ => y_sliceLn h_ (k + 1) rfl rfl U22 fct34 rfl (show k + 1 ≤ b.length by omega)) <| .nilCheck rfl <| .fa 0 rfl U154 .nil) fun Az Hz => ?_
     refine plz (st1 Hz m113 1 fct35 fun w117 m117 _ => ?_)
     refine znl (hK13 _ _ ?_)
     replace Hz := Hz.oz [0, 1, 5, 6, 57]
     refine regS Hz (.move rfl <| .assign rfl .nil) fun Az Hz => ?_
     refine rt1 Hz ?_
     have hl9 : b.length - (k + 1) = (b.drop (k + 1)).length := by rw [List.length_drop]
     rw [hl9] at m117
     exact ⟨_, b.drop (k + 1), _, _, _, rfl, ⟨wrapu _, by omega⟩, by rw [List.length_drop]; omega, (fun x hx => hbb x (List.mem_of_mem_drop hx)), m117.ren [(1, 1), (2, 101)] (by decide)⟩
    intro hb75 Hz; try simp only [QQ, Qax] at hb75
    refine gz hK9 Hz (.sk <| .sk <| .pickF rfl rfl <| .nil) fun Az Hz => ?_
    refine wcf Hz ?_
    refine zss (hK8 _ _ ?_)
    refine wsk fun K14 hK14 => ?_
    replace Hz := Hz.oz [0, 1, 5, 6]
    refine regS Hz (.move rfl <| .move rfl <| .gtr rfl rfl .nil) fun Az Hz => ?_
    refine bc Hz 57 ?_ ?_
    ·
     intro hb128 Hz; try simp only [QQ, Qax] at hb128
     refine wct Hz ?_
     refine zsr fun K15 hK15 => ?_
     refine goCh Hz (.move rfl .nil) fun Az Hz => ?_
     refine plz (ecl Hz Tryz.func121 rfl (rfail _ _ _ _ _ _ (m32.into [(1, 1)] (by decide) rfl)) ?_)
     rintro e w131 ⟨rfl, hm131⟩
     have mx131 := m32.back hm131 [(1, 1)] (by decide); clear hm131 m32
     have m131 := mx131.oz [1, 2, 100]
     refine ⟨_, rfl, ?_⟩; intro Az Hz
     refine znl (hK15 _ _ ?_)
     refine regS Hz (.assign rfl .nil) fun Az Hz => ?_
     refine rt1 Hz ?_
     have m134 := m131.dat 90 rfl (Rd.nilN _ _ .u8 none)
     exact ⟨0, [], _, _, _, rfl, ⟨by omega, by omega⟩, by simp, (fun _ h => by cases h), m134.ren [(1, 1), (2, 90)] (by decide)⟩
    intro hb128 Hz; try simp only [QQ, Qax] at hb128
    refine wcf Hz ?_
    refine zss (hK14 _ _ ?_)
    refine zsr fun K16 hK16 => ?_
    refine goCh Hz (.move rfl <| .move rfl <| .nilCheck rfl <| .fa 0 rfl U154 <| .lb m32 1 U22 rfl rfl rfl <| .move rfl <| .inc (k + 1) .nil) fun Az Hz => ?_
    have m150 := m32.dropN (i := 2) rfl (k + 1) (show k + 1 ≤ b.length by omega) 101 rfl
    refine goCh Hz (.c rfl (fun _ h_ => y_sliceLn h_ (k + 1) rfl rfl U22 fct34 rfl (show k + 1 ≤ b.length by omega)) <| .nilCheck rfl <| .fa 0 rfl U154 .nil) fun Az Hz => ?_
    refine plz (st1 Hz m150 1 fct35 fun w154 m154 _ => ?_)
    refine znl (hK16 _ _ ?_)
    replace Hz := Hz.oz [0, 1, 5, 6, 57]
    refine regS Hz (.move rfl <| .assign rfl .nil) fun Az Hz => ?_
    refine rt1 Hz ?_
    have hl9 : b.length - (k + 1) = (b.drop (k + 1)).length := by rw [List.length_drop]
    rw [hl9] at m154
    exact ⟨_, b.drop (k + 1), _, _, _, rfl, ⟨wrapu _, by omega⟩, by rw [List.length_drop]; omega, (fun x hx => hbb x (List.mem_of_mem_drop hx)), m154.ren [(1, 1), (2, 101)] (by decide)⟩
   intro hb68 Hz; try simp only [QQ, Qax] at hb68
   refine wcf Hz ?_
   refine zss (hK3 _ _ ?_)
   refine wp_region_lit ?_
   refine goCh Hz (.move rfl <| .inc (k + 1) <| .assign rfl .nil) fun Az Hz => ?_
   refine wpList_nil ?_
   show ∃ n', n' < _ ∧ _
   exact ⟨b.length - (k + 1), by omega, k + 1, _, by omega, rfl, wrapu _, Hz.only [0, 1, 5, 6], m32.only [1, 2]⟩
  intro hb43 Hz; try simp only [QQ, Qax] at hb43
  refine gz hK6 Hz (.sk <| .sk <| .pickF rfl rfl <| .nil) fun Az Hz => ?_
  refine wcf Hz ?_
  refine zss (hK5 _ _ ?_)
  replace Hz := Hz.oz [0, 1, 5, 6, 7]
  refine regS Hz (.move rfl <| .move rfl <| .and rfl rfl rfl <| .conv rfl U5 U149 rfl <| .move rfl <| .mul rfl rfl (r := 7 * (k : Int)) (IntWalk.i64_in _ (by omega)) <| .shl rfl rfl (by omega) rfl <| .or rfl rfl rfl <| .assign rfl .nil) fun Az Hz => ?_
  replace Hz := Hz.oz [0, 1, 5, 6, 7]
  refine regS Hz (.move rfl <| .lss rfl rfl .nil) fun Az Hz => ?_
  refine bc Hz 46 ?_ ?_
  ·
   intro hb177 Hz; try simp only [QQ, Qax] at hb177
   refine wct Hz ?_
   refine wsk fun K17 hK17 => ?_
   refine zsr fun K18 hK18 => ?_
   refine goCh Hz (.move rfl <| .gtr rfl rfl <| .move rfl .nil) fun Az Hz => ?_
   refine bc Hz 49 ?_ ?_
   ·
    intro hb184 Hz; try simp only [QQ, Qax] at hb184
    refine gz hK18 Hz (.moveZ rfl <| .eqlZ rfl rfl <| .pickT rfl rfl <| .nil) fun Az Hz => ?_
    refine bc Hz 52 ?_ ?_
    ·
     intro hb188 Hz; try simp only [QQ, Qax] at hb188
     refine wct Hz ?_
     replace Hz := Hz.oz [0, 1, 5, 6]
     refine zsr fun K19 hK19 => ?_
     refine goCh Hz (.move rfl .nil) fun Az Hz => ?_
     refine plz (ecl Hz Tryz.func121 rfl (rfail _ _ _ _ _ _ (m32.into [(1, 1)] (by decide) rfl)) ?_)
     rintro e w192 ⟨rfl, hm192⟩
     have mx192 := m32.back hm192 [(1, 1)] (by decide); clear hm192 m32
     have m192 := mx192.oz [1, 2, 100]
     refine ⟨_, rfl, ?_⟩; intro Az Hz
     refine znl (hK19 _ _ ?_)
     refine regS Hz (.assign rfl .nil) fun Az Hz => ?_
     refine rt1 Hz ?_
     have m195 := m192.dat 90 rfl (Rd.nilN _ _ .u8 none)
     exact ⟨0, [], _, _, _, rfl, ⟨by omega, by omega⟩, by simp, (fun _ h => by cases h), m195.ren [(1, 1), (2, 90)] (by decide)⟩
    intro hb188 Hz; try simp only [QQ, Qax] at hb188
    refine wcf Hz ?_
    refine zss (hK17 _ _ ?_)
    refine wsk fun K20 hK20 => ?_
    replace Hz := Hz.oz [0, 1, 5, 6]
    refine regS Hz (.move rfl <| .move rfl <| .gtr rfl rfl .nil) fun Az Hz => ?_
    refine bc Hz 57 ?_ ?_
    ·
     intro hb200 Hz; try simp only [QQ, Qax] at hb200
     refine wct Hz ?_
     refine zsr fun K21 hK21 => ?_
     refine goCh Hz (.move rfl .nil) fun Az Hz => ?_
     refine plz (ecl Hz Tryz.func121 rfl (rfail _ _ _ _ _ _ (m32.into [(1, 1)] (by decide) rfl)) ?_)
     rintro e w203 ⟨rfl, hm203⟩
     have mx203 := m32.back hm203 [(1, 1)] (by decide); clear hm203 m32
     have m203 := mx203.oz [1, 2, 100]
     refine ⟨_, rfl, ?_⟩; intro Az Hz
     refine znl (hK21 _ _ ?_)
     refine regS Hz (.assign rfl .nil) fun Az Hz => ?_
     refine rt1 Hz ?_
     have m206 := m203.dat 90 rfl (Rd.nilN _ _ .u8 none)
     exact ⟨0, [], _, _, _, rfl, ⟨by omega, by omega⟩, by simp, (fun _ h => by cases h), m206.ren [(1, 1), (2, 90)] (by decide)⟩
    intro hb200 Hz; try simp only [QQ, Qax] at hb200
    refine wcf Hz ?_
    refine zss (hK20 _ _ ?_)
    refine zsr fun K22 hK22 => ?_
    refine goCh Hz (.move rfl <| .move rfl <| .nilCheck rfl <| .fa 0 rfl U154 <| .lb m32 1 U22 rfl rfl rfl <| .move rfl <| .inc (k + 1) .nil) fun Az Hz => ?_
    have m222 := m32.dropN (i := 2) rfl (k + 1) (show k + 1 ≤ b.length by omega) 101 rfl
    refine goCh Hz (.c rfl (fun _ h_ => y_sliceLn h_ (k + 1) rfl rfl U22 fct34 rfl (show k + 1 ≤ b.length by omega)) <| .nilCheck rfl <| .fa 0 rfl U154 .nil) fun Az Hz => ?_
    refine plz (st1 Hz m222 1 fct35 fun w226 m226 _ => ?_)
    refine znl (hK22 _ _ ?_)
    replace Hz := Hz.oz [0, 1, 5, 6, 57]
    refine regS Hz (.move rfl <| .assign rfl .nil) fun Az Hz => ?_
    refine rt1 Hz ?_
    have hl9 : b.length - (k + 1) = (b.drop (k + 1)).length := by rw [List.length_drop]
    rw [hl9] at m226
    exact ⟨_, b.drop (k + 1), _, _, _, rfl, ⟨wrapu _, by omega⟩, by rw [List.length_drop]; omega, (fun x hx => hbb x (List.mem_of_mem_drop hx)), m226.ren [(1, 1), (2, 101)] (by decide)⟩
   intro hb184 Hz; try simp only [QQ, Qax] at hb184
   refine gz hK18 Hz (.sk <| .sk <| .pickF rfl rfl <| .nil) fun Az Hz => ?_
   refine wcf Hz ?_
   refine zss (hK17 _ _ ?_)
   refine wsk fun K23 hK23 => ?_
   replace Hz := Hz.oz [0, 1, 5, 6]
   refine regS Hz (.move rfl <| .move rfl <| .gtr rfl rfl .nil) fun Az Hz => ?_
   refine bc Hz 57 ?_ ?_
   ·
    intro hb237 Hz; try simp only [QQ, Qax] at hb237
    refine wct Hz ?_
    refine zsr fun K24 hK24 => ?_
    refine goCh Hz (.move rfl .nil) fun Az Hz => ?_
    refine plz (ecl Hz Tryz.func121 rfl (rfail _ _ _ _ _ _ (m32.into [(1, 1)] (by decide) rfl)) ?_)
    rintro e w240 ⟨rfl, hm240⟩
    have mx240 := m32.back hm240 [(1, 1)] (by decide); clear hm240 m32
    have m240 := mx240.oz [1, 2, 100]
    refine ⟨_, rfl, ?_⟩; intro Az Hz
    refine znl (hK24 _ _ ?_)
    refine regS Hz (.assign rfl .nil) fun Az Hz => ?_
    refine rt1 Hz ?_
    have m243 := m240.dat 90 rfl (Rd.nilN _ _ .u8 none)
    exact ⟨0, [], _, _, _, rfl, ⟨by omega, by omega⟩, by simp, (fun _ h => by cases h), m243.ren [(1, 1), (2, 90)] (by decide)⟩
   intro hb237 Hz; try simp only [QQ, Qax] at hb237
   refine wcf Hz ?_
   refine zss (hK23 _ _ ?_)
   refine zsr fun K25 hK25 => ?_
   refine goCh Hz (.move rfl <| .move rfl <| .nilCheck rfl <| .fa 0 rfl U154 <| .lb m32 1 U22 rfl rfl rfl <| .move rfl <| .inc (k + 1) .nil) fun Az Hz => ?_
   have m259 := m32.dropN (i := 2) rfl (k + 1) (show k + 1 ≤ b.length by omega) 101 rfl
   refine goCh Hz (.c rfl (fun _ h_ => y_sliceLn h_ (k + 1) rfl rfl U22 fct34 rfl (show k + 1 ≤ b.length by omega)) <| .nilCheck rfl <| .fa 0 rfl U154 .nil) fun Az Hz => ?_
   refine plz (st1 Hz m259 1 fct35 fun w263 m263 _ => ?_)
   refine znl (hK25 _ _ ?_)
   replace Hz := Hz.oz [0, 1, 5, 6, 57]
   refine regS Hz (.move rfl <| .assign rfl .nil) fun Az Hz => ?_
   refine rt1 Hz ?_
   have hl9 : b.length - (k + 1) = (b.drop (k + 1)).length := by rw [List.length_drop]
   rw [hl9] at m263
   exact ⟨_, b.drop (k + 1), _, _, _, rfl, ⟨wrapu _, by omega⟩, by rw [List.length_drop]; omega, (fun x hx => hbb x (List.mem_of_mem_drop hx)), m263.ren [(1, 1), (2, 101)] (by decide)⟩
  intro hb177 Hz; try simp only [QQ, Qax] at hb177
  refine wcf Hz ?_
  refine zss (hK3 _ _ ?_)
  refine wp_region_lit ?_
  refine goCh Hz (.move rfl <| .inc (k + 1) <| .assign rfl .nil) fun Az Hz => ?_
  refine wpList_nil ?_
  show ∃ n', n' < _ ∧ _
  exact ⟨b.length - (k + 1), by omega, k + 1, _, by omega, rfl, wrapu _, Hz.only [0, 1, 5, 6], m32.only [1, 2]⟩
 intro hb19 Hz; try simp only [QQ, Qax] at hb19
 refine wcf Hz ?_
 refine wp_exit ?_
 refine hK1 _ _ ?_
 replace Hz := Hz.oz [0, 1, 5, 6]
 refine zsr fun K26 hK26 => ?_
 refine goCh Hz (.move rfl .nil) fun Az Hz => ?_
 refine plz (ecl Hz Tryz.func121 rfl (rfail _ _ _ _ _ _ (m11.into [(1, 1)] (by decide) rfl)) ?_)
 rintro e w273 ⟨rfl, hm273⟩
 have mx273 := m11.back hm273 [(1, 1)] (by decide); clear hm273 m11
 have m273 := mx273.oz [1, 2]
 refine ⟨_, rfl, ?_⟩; intro Az Hz
 refine znl (hK26 _ _ ?_)
 refine regS Hz (.assign rfl .nil) fun Az Hz => ?_
 refine rt1 Hz ?_
 have m276 := m273.dat 90 rfl (Rd.nilN _ _ .u8 none)
 exact ⟨0, [], _, _, _, rfl, ⟨by omega, by omega⟩, by simp, (fun _ h => by cases h), m276.ren [(1, 1), (2, 90)] (by decide)⟩
end
section
set_option maxRecDepth 100000
set_option maxHeartbeats 4000000
theorem rtakePlace (X : Cx) (B : Nat) (b : List Int) (er : Int) (p : Option Addr) (c : Nat) (w0 : World) (hb : b.length ≤ 1000000) (hbb : BytesL b) (m0 : MemOk X w0 [(1, .box B 154 [.slice p b.length c, .int .i64 er]), (2, .dat (.slice p b.length c) (.ns .u8 b))] w0) :
   Calls Tryz.prog 92 #[.pointer (some ⟨B, 0, none⟩)] w0 fun e w' => ∃ (pl b' : List Int) (p' : Option Addr) (c' : Nat) (er' : Int) (p3 : Option Addr) (c3 : Nat), e = .returned (.slice p3 pl.length c3) ∧ pl.length ≤ 256 ∧ b'.length ≤ b.length ∧ BytesL b' ∧ MemOk X w0 [(1, .box B 154 [.slice p' b'.length c', .int .i64 er']), (2, .dat (.slice p' b'.length c') (.ns .u8 b')), (3, .dat (.slice p3 pl.length c3) (.ns .i64 pl))] w' := by
 refine ent1 Tryz.func92 rfl Tryz.ntmps92 fun Az Hz => ?_
 refine regS Hz (.assign rfl .nil) fun Az Hz => ?_
 refine regS Hz (.assign rfl .nil) fun Az Hz => ?_
 refine zsr fun K0 hK0 => ?_
 refine goCh Hz (.move rfl .nil) fun Az Hz => ?_
 refine plz (ecl Hz Tryz.func91 rfl (rnum _ _ b _ 256 _ _ _ (by omega) hbb (by decide) (m0.into [(1, 1), (2, 2)] (by decide) rfl)) ?_)
 rintro e w5 ⟨un, b2, p5, c5, er5, rfl, huun, hbl2, hbb2, hm5⟩
 have mx5 := m0.back hm5 [(1, 1), (2, 2)] (by decide); clear hm5 m0
 have m5 := mx5.oz [1, 2]
 refine ⟨_, rfl, ?_⟩; intro Az Hz
 refine gz hK0 Hz (.assign rfl .nil) fun Az Hz => ?_
 refine wsk fun K1 hK1 => ?_
 refine regS Hz (.assign rfl .nil) fun Az Hz => ?_
 refine wp_block ?_
 refine wp_loop_ghost (fun g a w => ∃ (k : Nat) (pl b1 : List Int) (p1 : Option Addr) (c1 : Nat) (er1 : Int) (p3 : Option Addr) (c3 : Nat), (k : Int) ≤ un ∧ g = un.toNat - k ∧ pl.length ≤ k ∧ b1.length ≤ b.length ∧ BytesL b1 ∧ Has 27 [(0, .pointer (some ⟨B, 0, none⟩)), (3, .slice p3 pl.length c3), (4, .int .u64 un), (5, .int .u64 (k : Int))] a ∧ MemOk X w0 [(1, .box B 154 [.slice p1 b1.length c1, .int .i64 er1]), (2, .dat (.slice p1 b1.length c1) (.ns .u8 b1)), (9, .num (.slice p3 pl.length c3) 3 .i64 pl)] w) (un.toNat) ?_ ?_
 · have mz := m5.nilN 9 3 .i64
   exact ⟨0, [], b2, _, _, _, _, _, by omega, rfl, Nat.le_refl _, hbl2, hbb2, Hz.only [0, 3, 4, 5], mz.only [1, 2, 9]⟩
 clear Hz m5
 rintro g Az w9 ⟨k, pl, b1, p1, c1, er1, p3, c3, hku, hg, hpl, hbl1, hbb1, Hz, m9⟩
 refine wsk fun K2 hK2 => ?_
 refine zsr fun K3 hK3 => ?_
 refine goCh Hz (.move rfl <| .move rfl <| .lss rfl rfl <| .move rfl .nil) fun Az Hz => ?_
 refine bc Hz 11 ?_ ?_
 ·
  intro hb18 Hz; try simp only [QQ, Qax] at hb18
  refine gz hK3 Hz (.moveZ rfl <| .nilCheckZ rfl <| .faZ 1 rfl U154 <| .loadB1Z m9 (i := 1) rfl rfl rfl U3 rfl <| .eqlZ rfl rfl <| .pickT rfl rfl <| .nil) fun Az Hz => ?_
  refine bc Hz 17 ?_ ?_
  ·
   intro hb25 Hz; try simp only [QQ, Qax] at hb25
   refine wct Hz ?_
   refine zss (hK2 _ _ ?_)
   refine wsk fun K4 hK4 => ?_
   refine wp_block ?_
   replace Hz := Hz.oz [0, 3, 4, 5]
   refine wp_region_lit ?_
   refine goCh Hz (.move rfl <| .move rfl .nil) fun Az Hz => ?_
   refine plz (ecl Hz Tryz.func91 rfl (rnum _ _ b1 _ 8 _ _ _ (by omega) hbb1 (by decide) (m9.into [(1, 1), (2, 2)] (by decide) rfl)) ?_)
   rintro e w29 ⟨uv, b2, p29, c29, er29, rfl, huuv, hbl2, hbb2, hm29⟩
   have mx29 := m9.back hm29 [(1, 1), (2, 2)] (by decide); clear hm29 m9
   have m29 := mx29.oz [1, 2, 9]
   refine ⟨_, rfl, ?_⟩; intro Az Hz
   refine goCh Hz (.conv rfl U149 U3 (r := uv) (IntWalk.i64_in _ (by omega)) .nil) fun Az Hz => ?_
   refine plz (e_litN Hz m29 100 (k := .i64) rfl rfl U29 fct37 rfl rfl rfl rfl fun g32 Az w33 Hz m33 => ?_)
   refine plz (e_appN Hz m33 9 rfl rfl rfl (m33.numsO (i := 100) rfl) U29 fct37 (by decide) (by simp; omega) rfl fun p34 c34 Az w35 Hz m35 => ?_)
   refine gz hK4 Hz (.assign rfl .nil) fun Az Hz => ?_
   replace Hz := Hz.oz [0, 3, 4, 5]
   refine wp_region_lit ?_
   refine goCh Hz (.move rfl <| .add rfl rfl (r := ((k + 1 : Nat) : Int)) (by rw [IntWalk.u64_in _ (by omega)]; omega) <| .assign rfl .nil) fun Az Hz => ?_
   refine wpList_nil ?_
   show ∃ n', n' < _ ∧ _
   exact ⟨un.toNat - (k + 1), by omega, k + 1, _, b2, _, _, _, _, _, by omega, rfl, by simp; omega, by omega, hbb2, Hz.only [0, 3, 4, 5], m35.only [1, 2, 9]⟩
  intro hb25 Hz; try simp only [QQ, Qax] at hb25
  refine wcf Hz ?_
  refine wp_exit ?_
  refine hK1 _ _ ?_
  replace Hz := Hz.oz [0, 3, 4, 5]
  refine regS Hz (.move rfl <| .assign rfl .nil) fun Az Hz => ?_
  refine rt1 Hz ?_
  have m44 := m9.freezeN 9 rfl
  exact ⟨pl, b1, _, _, _, _, _, rfl, by omega, hbl1, hbb1, m44.ren [(1, 1), (2, 2), (3, 9)] (by decide)⟩
 intro hb18 Hz; try simp only [QQ, Qax] at hb18
 refine gz hK3 Hz (.sk <| .sk <| .sk <| .sk <| .sk <| .pickF rfl rfl <| .nil) fun Az Hz => ?_
 refine wcf Hz ?_
 refine wp_exit ?_
 refine hK1 _ _ ?_
 replace Hz := Hz.oz [0, 3, 4, 5]
 refine regS Hz (.move rfl <| .assign rfl .nil) fun Az Hz => ?_
 refine rt1 Hz ?_
 have m54 := m9.freezeN 9 rfl
 exact ⟨pl, b1, _, _, _, _, _, rfl, by omega, hbl1, hbb1, m54.ren [(1, 1), (2, 2), (3, 9)] (by decide)⟩
end
section
set_option maxRecDepth 100000
set_option maxHeartbeats 4000000
theorem rlumpR (X : Cx) (B : Nat) (b : List Int) (er mx : Int) (p : Option Addr) (c : Nat) (w0 : World) (hb : b.length ≤ 1000000) (hbb : BytesL b) (hmx : 0 ≤ mx ∧ mx ≤ 1000000) (m0 : MemOk X w0 [(1, .box B 154 [.slice p b.length c, .int .i64 er]), (2, .dat (.slice p b.length c) (.ns .u8 b))] w0) :
   Calls Tryz.prog 122 #[.pointer (some ⟨B, 0, none⟩), .int .i64 mx] w0 fun e w' => ∃ (d b' : List Int) (p' : Option Addr) (c' : Nat) (er' : Int) (p3 : Option Addr) (c3 : Nat), e = .returned (.slice p3 d.length c3) ∧ (d.length : Int) ≤ mx ∧ BytesL d ∧ b'.length ≤ b.length ∧ BytesL b' ∧ MemOk X w0 [(1, .box B 154 [.slice p' b'.length c', .int .i64 er']), (2, .dat (.slice p' b'.length c') (.ns .u8 b')), (3, .dat (.slice p3 d.length c3) (.ns .u8 d))] w' := by
 refine ent2 Tryz.func122 rfl Tryz.ntmps122 fun Az Hz => ?_
 refine regS Hz (.assign rfl .nil) fun Az Hz => ?_
 refine zsr fun K0 hK0 => ?_
 refine goCh Hz (.move rfl <| .move rfl <| .c rfl (fun _ h_ => y_max h_ rfl rfl (r := mx) (by omega)) <| .conv rfl U3 U149 (r := mx) (IntWalk.u64_in _ (by omega)) .nil) fun Az Hz => ?_
 refine plz (ecl Hz Tryz.func91 rfl (rnum _ _ b _ mx _ _ _ hb hbb hmx.1 (m0.into [(1, 1), (2, 2)] (by decide) rfl)) ?_)
 rintro e w10 ⟨u, b2, p10, c10, er10, rfl, hu, hbl2, hbb2, hm10⟩
 have mx10 := m0.back hm10 [(1, 1), (2, 2)] (by decide); clear hm10 m0
 have m10 := mx10.oz [1, 2]
 refine ⟨_, rfl, ?_⟩; intro Az Hz
 refine gz hK0 Hz (.assign rfl .nil) fun Az Hz => ?_
 refine wsk fun K1 hK1 => ?_
 replace Hz := Hz.oz [0, 4, 5]
 refine regS Hz (.move rfl <| .nilCheck rfl <| .fa 1 rfl U154 <| .lb m10 1 U3 rfl rfl rfl <| .neq rfl rfl .nil) fun Az Hz => ?_
 refine bc Hz 16 ?_ ?_
 ·
  intro hb19 Hz; try simp only [QQ, Qax] at hb19
  refine wct Hz ?_
  refine regS Hz (.assign rfl .nil) fun Az Hz => ?_
  refine rt1 Hz ?_
  have m21 := m10.dat 20 rfl (Rd.nilN _ _ .u8 none)
  exact ⟨[], b2, _, _, _, _, _, rfl, by simpa using hmx.1, (fun _ h => by cases h), hbl2, hbb2, m21.ren [(1, 1), (2, 2), (3, 20)] (by decide)⟩
 intro hb19 Hz; try simp only [QQ, Qax] at hb19
 refine wcf Hz ?_
 refine zss (hK1 _ _ ?_)
 refine wsk fun K2 hK2 => ?_
 refine regS Hz (.move rfl <| .move rfl <| .nilCheck rfl <| .fa 0 rfl U154 <| .lb m10 1 U22 rfl rfl rfl <| .len rfl U22 <| .conv rfl U3 U149 (r := (b2.length : Int)) (IntWalk.u64_in _ (by omega)) <| .gtr rfl rfl .nil) fun Az Hz => ?_
 refine bc Hz 24 ?_ ?_
 ·
  intro hb30 Hz; try simp only [QQ, Qax] at hb30
  refine wct Hz ?_
  replace Hz := Hz.oz [0, 4, 5]
  refine zsr fun K3 hK3 => ?_
  refine goCh Hz (.move rfl .nil) fun Az Hz => ?_
  refine plz (ecl Hz Tryz.func121 rfl (rfail _ _ _ _ _ _ (m10.into [(1, 1)] (by decide) rfl)) ?_)
  rintro e w34 ⟨rfl, hm34⟩
  have mx34 := m10.back hm34 [(1, 1)] (by decide); clear hm34 m10
  have m34 := mx34.oz [1, 2]
  refine ⟨_, rfl, ?_⟩; intro Az Hz
  refine znl (hK3 _ _ ?_)
  refine regS Hz (.assign rfl .nil) fun Az Hz => ?_
  refine rt1 Hz ?_
  have m37 := m34.dat 20 rfl (Rd.nilN _ _ .u8 none)
  have m38 := m37.dat 21 rfl (Rd.nilN _ _ .u8 none)
  exact ⟨[], [], _, _, _, _, _, rfl, by simpa using hmx.1, (fun _ h => by cases h), by simp, (fun _ h => by cases h), m38.ren [(1, 1), (2, 21), (3, 20)] (by decide)⟩
 intro hb30 Hz; try simp only [QQ, Qax] at hb30
 obtain ⟨un, hune⟩ : ∃ n : Nat, u = (n : Int) := ⟨u.toNat, by omega⟩
 have hun : un ≤ b2.length := by omega
 refine wcf Hz ?_
 refine zss (hK2 _ _ ?_)
 replace Hz := Hz.oz [0, 4, 5]
 refine zsr fun K4 hK4 => ?_
 refine goCh Hz (.move rfl <| .nilCheck rfl <| .fa 0 rfl U154 <| .lb m10 1 U22 rfl rfl rfl <| .move rfl .nil) fun Az Hz => ?_
 have hcap51 := (m10.rd (i := 2) rfl).ns_out.cap
 have m51 := m10.takeN (i := 2) rfl un hun 20 rfl
 refine gz hK4 Hz (.c rfl (fun _ h_ => y_sliceHn h_ un rfl rfl U22 fct34 hune (Nat.le_trans hun hcap51.1)) <| .assign rfl <| .nil) fun Az Hz => ?_
 replace Hz := Hz.oz [0, 4, 5, 6]
 refine zsr fun K5 hK5 => ?_
 refine goCh Hz (.move rfl <| .move rfl <| .nilCheck rfl <| .fa 0 rfl U154 <| .lb m51 1 U22 rfl rfl rfl <| .move rfl .nil) fun Az Hz => ?_
 have m68 := m51.dropN (i := 2) rfl un hun 21 rfl
 refine goCh Hz (.c rfl (fun _ h_ => y_sliceLn h_ un rfl rfl U22 fct34 hune hun) <| .nilCheck rfl <| .fa 0 rfl U154 .nil) fun Az Hz => ?_
 refine plz (st1 Hz m68 1 fct35 fun w72 m72 _ => ?_)
 refine znl (hK5 _ _ ?_)
 replace Hz := Hz.oz [4, 6]
 refine regS Hz (.move rfl <| .assign rfl .nil) fun Az Hz => ?_
 refine rt1 Hz ?_
 have hl8 : un = (b2.take un).length := by rw [List.length_take]; omega
 have hl9 : b2.length - un = (b2.drop un).length := by rw [List.length_drop]
 exact ⟨b2.take un, b2.drop un, _, _, _, _, _, by rw [← hl8], by rw [← hl8]; omega, (fun x hx => hbb2 x (List.mem_of_mem_take hx)), by rw [← hl9]; omega, (fun x hx => hbb2 x (List.mem_of_mem_drop hx)), by rw [← hl8, ← hl9]; exact m72.ren [(1, 1), (2, 21), (3, 20)] (by decide)⟩
end
section
theorem bytes_app {a b : List Int} (ha : BytesL a) (hb : BytesL b) : BytesL (a ++ b) := fun x hx => (List.mem_append.1 hx).elim (ha x) (hb x)
theorem wrap1 (x : Int) : ∀ k, k < [IntKind.u64.wrap x].length → 0 ≤ [IntKind.u64.wrap x].getD k 0 ∧ [IntKind.u64.wrap x].getD k 0 < 2 ^ 64 := fun k hk => by
 obtain rfl : k = 0 := by simpa using hk
 have e : IntKind.u64.wrap x = x % 18446744073709551616 := by simp [IntKind.wrap, IntKind.signed, IntKind.bits]
 simp [e]; omega
set_option maxRecDepth 100000
set_option maxHeartbeats 4000000
theorem rput_own (xs : List Int) (q : Option Addr) (cq : Nat) (w0 : World) (h0 : Rd (fun _ => True) w0 (.slice q xs.length cq) (.ns .u64 xs)) (hl : xs.length ≤ 1000000) (hxb : ∀ k, k < xs.length → 0 ≤ xs.getD k 0 ∧ xs.getD k 0 < 2 ^ 64) :
   Calls Tryz.prog 87 #[.slice q xs.length cq] w0 fun e w' => ∃ (b : List Int) (p : Option Addr) (c : Nat), e = .returned (.slice p b.length c) ∧ b.length ≤ 10 * xs.length ∧ BytesL b ∧ w'.ownsRow w0.heap.size 5 1 (.slice p b.length c) b.length (b.map (Value.int .u8)) ∧ Below w0.heap.size w0 w' := by
 refine ent1 Tryz.func87 rfl Tryz.ntmps87 fun Az Hz => ?_
 have m0 := MemOk.start (fun _ => False) w0
 refine regS Hz (.assign rfl .nil) fun Az Hz => ?_
 refine regS Hz (.assign rfl .nil) fun Az Hz => ?_
 refine wsk fun K0 hK0 => ?_
 refine regS Hz (.assign rfl .nil) fun Az Hz => ?_
 refine wp_block ?_
 refine wp_loop_ghost (fun g a w => ∃ (k : Nat) (b : List Int) (p : Option Addr) (c : Nat), k ≤ xs.length ∧ g = xs.length - k ∧ b.length ≤ 10 * k ∧ BytesL b ∧ Has 32 [(0, .slice q xs.length cq), (3, .slice p b.length c), (4, .int .i64 k)] a ∧ MemOk (cn w0) w0 [(9, .num (.slice p b.length c) 5 .u8 b)] w) (xs.length) ?_ ?_
 · have mz := m0.nilN 9 5 .u8
   exact ⟨0, [], _, _, Nat.zero_le _, rfl, by simp, (fun _ h => by cases h), Hz.only [0, 3, 4], mz.only [9]⟩
 clear Hz m0
 rintro g Az w4 ⟨k, b, p, c, hkl, hg, hbl, hbb, Hz, m4⟩
 refine wsk fun K1 hK1 => ?_
 refine regS Hz (.move rfl <| .move rfl <| .len rfl U212 <| .lss rfl rfl .nil) fun Az Hz => ?_
 refine bc Hz 9 ?_ ?_
 ·
  intro hb9 Hz; try simp only [QQ, Qax] at hb9
  have hk : k < xs.length := by omega
  have hxk := hxb k hk
  refine wct Hz ?_
  refine zss (hK1 _ _ ?_)
  refine wsk fun K2 hK2 => ?_
  refine wp_block ?_
  refine zsr fun K3 hK3 => ?_
  refine goCh Hz (.move rfl <| .move rfl .nil) fun Az Hz => ?_
  obtain ⟨gx15, ox15, hp15, hl15, hrg15⟩ := h0.extN (k) hk
  revert Hz
  cases hp15
  intro Hz
  refine gz hK3 Hz (.c rfl (fun _ h_ => y_idx h_ rfl rfl U212 fct20 (k) rfl hk) <| .loadAt1 (hrg15 m4 rfl) (q := 0) rfl rfl rfl U149 rfl <| .assign rfl <| .nil) fun Az Hz => ?_
  refine wsk fun K4 hK4 => ?_
  refine wp_block ?_
  refine wp_loop_ghost (fun g a w => ∃ (j : Nat) (u : Int) (b : List Int) (p : Option Addr) (c : Nat), j ≤ 9 ∧ 0 ≤ u ∧ u < 2 ^ (64 - 7 * j) ∧ g = u.toNat ∧ b.length ≤ 10 * k + j ∧ BytesL b ∧ Has 32 [(0, .slice (some ⟨gx15, ox15, none⟩) xs.length cq), (3, .slice p b.length c), (4, .int .i64 k), (5, .int .u64 u)] a ∧ MemOk (cn w0) w0 [(9, .num (.slice p b.length c) 5 .u8 b)] w) ((xs.getD k 0).toNat) ?_ ?_
  · exact ⟨0, xs.getD k 0, b, _, _, by omega, by omega, by simpa using hxk.2, rfl, by omega, hbb, Hz.only [0, 3, 4, 5], m4.only [9]⟩
  clear Hz m4
  rintro g Az w19 ⟨j, u, b, p, c, hj9, hu0, hu1, hg2, hbl2, hbb2, Hz, m19⟩
  refine wsk fun K5 hK5 => ?_
  refine regS Hz (.move rfl <| .geq rfl rfl .nil) fun Az Hz => ?_
  refine bc Hz 17 ?_ ?_
  ·
   intro hb22 Hz; try simp only [QQ, Qax] at hb22
   obtain ⟨z, hz, hzb⟩ : ∃ z, IntKind.u8.wrap ((BitVec.ofInt IntKind.u8.bits (IntKind.u8.wrap u) ||| BitVec.ofInt IntKind.u8.bits 128).toNat) = z ∧ 0 ≤ z ∧ z ≤ 255 := ⟨_, rfl, wrap_u8 _⟩
   obtain ⟨hj8, hu2⟩ := leb_step hj9 hu1 (by omega)
   refine wct Hz ?_
   refine zss (hK5 _ _ ?_)
   refine wp_block ?_
   refine zsr fun K6 hK6 => ?_
   refine goCh Hz (.move rfl <| .move rfl <| .conv rfl U149 U5 rfl <| .or rfl rfl (r := z) hz .nil) fun Az Hz => ?_
   refine plz (e_litN Hz m19 200 (k := .u8) rfl rfl U22 fct19 rfl rfl rfl rfl fun g31 Az w32 Hz m32 => ?_)
   refine plz (e_appN Hz m32 9 rfl rfl rfl (m32.numsO (i := 200) rfl) U22 fct19 (by decide) (by simp; omega) rfl fun p33 c33 Az w34 Hz m34 => ?_)
   refine gz hK6 Hz (.assign rfl .nil) fun Az Hz => ?_
   replace Hz := Hz.oz [0, 3, 4, 5]
   refine wp_region_lit ?_
   refine goCh Hz (.move rfl <| .shr rfl rfl (by decide) (r := u / 128) (by rw [show (2 : Int) ^ min (7 : Int).toNat IntKind.u64.bits = 128 from by decide]; exact Int.fdiv_eq_ediv_of_nonneg _ (by decide)) <| .assign rfl .nil) fun Az Hz => ?_
   refine wpList_nil ?_
   show ∃ n', n' < _ ∧ _
   exact ⟨(u / 128).toNat, by omega, j + 1, u / 128, _, _, _, hj8, by omega, hu2, rfl, by simp; omega, bytes_snoc hbb2 hzb, Hz.only [0, 3, 4, 5], m34.only [9]⟩
  intro hb22 Hz; try simp only [QQ, Qax] at hb22
  refine wcf Hz ?_
  refine wp_exit ?_
  refine hK4 _ _ ?_
  refine wp_region_lit ?_
  refine goCh Hz (.move rfl <| .move rfl <| .conv rfl U149 U5 rfl .nil) fun Az Hz => ?_
  refine plz (e_litN Hz m19 200 (k := .u8) rfl rfl U22 fct19 rfl rfl rfl rfl fun g43 Az w44 Hz m44 => ?_)
  refine plz (e_appN Hz m44 9 rfl rfl rfl (m44.numsO (i := 200) rfl) U22 fct19 (by decide) (by simp; omega) rfl fun p45 c45 Az w46 Hz m46 => ?_)
  refine gz hK2 Hz (.assign rfl .nil) fun Az Hz => ?_
  replace Hz := Hz.oz [0, 3, 4, 5]
  refine wp_region_lit ?_
  refine goCh Hz (.move rfl <| .inc (k + 1) <| .assign rfl .nil) fun Az Hz => ?_
  refine wpList_nil ?_
  show ∃ n', n' < _ ∧ _
  exact ⟨xs.length - (k + 1), by omega, k + 1, _, _, _, by omega, rfl, by simp; omega, bytes_snoc hbb2 (wrap_u8 _), Hz.only [0, 3, 4], m46.only [9]⟩
 intro hb9 Hz; try simp only [QQ, Qax] at hb9
 revert Hz
 obtain rfl : k = xs.length := by omega
 intro Hz
 refine wcf Hz ?_
 refine wp_exit ?_
 refine hK0 _ _ ?_
 refine regS Hz (.move rfl <| .assign rfl .nil) fun Az Hz => ?_
 refine rt1 Hz ?_
 exact ⟨_, _, _, rfl, hbl, hbb, m4.ok 9 _ rfl, m4.below⟩
theorem rnums16 (xs : List Int) (q : Option Addr) (cq : Nat) (w0 : World) (h0 : Rd (fun _ => True) w0 (.slice q xs.length cq) (.ns .i64 xs)) (hl : xs.length ≤ 1000000) :
   Calls Tryz.prog 58 #[.slice q xs.length cq] w0 fun e w' => ∃ (b : List Int) (p : Option Addr) (c : Nat), e = .returned (.slice p b.length c) ∧ b.length ≤ 10 * xs.length ∧ BytesL b ∧ w'.ownsRow w0.heap.size 5 1 (.slice p b.length c) b.length (b.map (Value.int .u8)) ∧ Below w0.heap.size w0 w' := by
 refine ent1 Tryz.func58 rfl Tryz.ntmps58 fun Az Hz => ?_
 have m0 := MemOk.start (fun _ => False) w0
 refine regS Hz (.assign rfl .nil) fun Az Hz => ?_
 refine regS Hz (.assign rfl .nil) fun Az Hz => ?_
 refine wsk fun K0 hK0 => ?_
 refine regS Hz (.assign rfl .nil) fun Az Hz => ?_
 refine wp_block ?_
 refine wp_loop_ghost (fun g a w => ∃ (k : Nat) (b : List Int) (p : Option Addr) (c : Nat), k ≤ xs.length ∧ g = xs.length - k ∧ b.length ≤ 10 * k ∧ BytesL b ∧ Has 21 [(0, .slice q xs.length cq), (3, .slice p b.length c), (4, .int .i64 k)] a ∧ MemOk (cn w0) w0 [(9, .num (.slice p b.length c) 5 .u8 b)] w) (xs.length) ?_ ?_
 · have mz := m0.nilN 9 5 .u8
   exact ⟨0, [], _, _, Nat.zero_le _, rfl, by simp, (fun _ h => by cases h), Hz.only [0, 3, 4], mz.only [9]⟩
 clear Hz m0
 rintro g Az w4 ⟨k, b, p, c, hkl, hg, hbl, hbb, Hz, m4⟩
 refine wsk fun K1 hK1 => ?_
 refine regS Hz (.move rfl <| .move rfl <| .len rfl U30 <| .lss rfl rfl .nil) fun Az Hz => ?_
 refine bc Hz 8 ?_ ?_
 ·
  intro hb9 Hz; try simp only [QQ, Qax] at hb9
  have hk : k < xs.length := by omega
  refine wct Hz ?_
  refine zss (hK1 _ _ ?_)
  refine wsk fun K2 hK2 => ?_
  refine wp_block ?_
  refine wp_region_lit ?_
  refine goCh Hz (.move rfl <| .move rfl <| .move rfl .nil) fun Az Hz => ?_
  obtain ⟨gx13, ox13, hp13, hl13, hrg13⟩ := h0.extN (k) hk
  revert Hz
  cases hp13
  intro Hz
  refine goCh Hz (.c rfl (fun _ h_ => y_idx h_ rfl rfl U30 fct10 (k) rfl hk) <| .loadAt1 (hrg13 m4 rfl) (q := 0) rfl rfl rfl U2 rfl <| .conv rfl U2 U149 rfl .nil) fun Az Hz => ?_
  refine plz (e_litN Hz m4 100 (k := .u64) rfl rfl U212 fct21 rfl rfl rfl rfl fun g17 Az w18 Hz m18 => ?_)
  have m19 := m18.freezeN 100 rfl
  refine plz (ecl Hz Tryz.func87 rfl (rput_own [IntKind.u64.wrap (xs.getD k 0)] _ _ _ ((m19.rd (i := 100) rfl).any) (by simp) (wrap1 _)) ?_)
  rintro e w20 ⟨d1, p20, c20, rfl, hld1, hbd1, ho20, hb20⟩
  have m21 := m19.newN 101 hb20 ho20
  refine ⟨_, rfl, ?_⟩; intro Az Hz
  refine plz (e_appN Hz m21 9 rfl rfl rfl (m21.numsO (i := 101) rfl) U22 fct19 (by decide) (by simp at hld1 ⊢; omega) rfl fun p23 c23 Az w24 Hz m24 => ?_)
  refine gz hK2 Hz (.assign rfl .nil) fun Az Hz => ?_
  replace Hz := Hz.oz [0, 3, 4]
  refine wp_region_lit ?_
  refine goCh Hz (.move rfl <| .inc (k + 1) <| .assign rfl .nil) fun Az Hz => ?_
  refine wpList_nil ?_
  show ∃ n', n' < _ ∧ _
  exact ⟨xs.length - (k + 1), by omega, k + 1, _, _, _, by omega, rfl, by simp at hld1 ⊢; omega, bytes_app hbb hbd1, Hz.only [0, 3, 4], m24.only [9]⟩
 intro hb9 Hz; try simp only [QQ, Qax] at hb9
 revert Hz
 obtain rfl : k = xs.length := by omega
 intro Hz
 refine wcf Hz ?_
 refine wp_exit ?_
 refine hK0 _ _ ?_
 refine regS Hz (.move rfl <| .assign rfl .nil) fun Az Hz => ?_
 refine rt1 Hz ?_
 exact ⟨_, _, _, rfl, hbl, hbb, m4.ok 9 _ rfl, m4.below⟩
theorem rnums13 (xs : List Int) (q : Option Addr) (cq : Nat) (w0 : World) (h0 : Rd (fun _ => True) w0 (.slice q xs.length cq) (.ns .i64 xs)) (hl : xs.length ≤ 1000000) :
   Calls Tryz.prog 88 #[.slice q xs.length cq] w0 fun e w' => ∃ (b : List Int) (p : Option Addr) (c : Nat), e = .returned (.slice p b.length c) ∧ b.length ≤ 10 * xs.length ∧ BytesL b ∧ w'.ownsRow w0.heap.size 5 1 (.slice p b.length c) b.length (b.map (Value.int .u8)) ∧ Below w0.heap.size w0 w' := by
 refine ent1 Tryz.func88 rfl Tryz.ntmps88 fun Az Hz => ?_
 have m0 := MemOk.start (fun _ => False) w0
 refine regS Hz (.assign rfl .nil) fun Az Hz => ?_
 refine regS Hz (.assign rfl .nil) fun Az Hz => ?_
 refine wsk fun K0 hK0 => ?_
 refine regS Hz (.assign rfl .nil) fun Az Hz => ?_
 refine wp_block ?_
 refine wp_loop_ghost (fun g a w => ∃ (k : Nat) (b : List Int) (p : Option Addr) (c : Nat), k ≤ xs.length ∧ g = xs.length - k ∧ b.length ≤ 10 * k ∧ BytesL b ∧ Has 21 [(0, .slice q xs.length cq), (3, .slice p b.length c), (4, .int .i64 k)] a ∧ MemOk (cn w0) w0 [(9, .num (.slice p b.length c) 5 .u8 b)] w) (xs.length) ?_ ?_
 · have mz := m0.nilN 9 5 .u8
   exact ⟨0, [], _, _, Nat.zero_le _, rfl, by simp, (fun _ h => by cases h), Hz.only [0, 3, 4], mz.only [9]⟩
 clear Hz m0
 rintro g Az w4 ⟨k, b, p, c, hkl, hg, hbl, hbb, Hz, m4⟩
 refine wsk fun K1 hK1 => ?_
 refine regS Hz (.move rfl <| .move rfl <| .len rfl U30 <| .lss rfl rfl .nil) fun Az Hz => ?_
 refine bc Hz 8 ?_ ?_
 ·
  intro hb9 Hz; try simp only [QQ, Qax] at hb9
  have hk : k < xs.length := by omega
  refine wct Hz ?_
  refine zss (hK1 _ _ ?_)
  refine wsk fun K2 hK2 => ?_
  refine wp_block ?_
  refine wp_region_lit ?_
  refine goCh Hz (.move rfl <| .move rfl <| .move rfl .nil) fun Az Hz => ?_
  obtain ⟨gx13, ox13, hp13, hl13, hrg13⟩ := h0.extN (k) hk
  revert Hz
  cases hp13
  intro Hz
  refine goCh Hz (.c rfl (fun _ h_ => y_idx h_ rfl rfl U30 fct10 (k) rfl hk) <| .loadAt1 (hrg13 m4 rfl) (q := 0) rfl rfl rfl U2 rfl <| .conv rfl U2 U149 rfl .nil) fun Az Hz => ?_
  refine plz (e_litN Hz m4 100 (k := .u64) rfl rfl U212 fct21 rfl rfl rfl rfl fun g17 Az w18 Hz m18 => ?_)
  have m19 := m18.freezeN 100 rfl
  refine plz (ecl Hz Tryz.func87 rfl (rput_own [IntKind.u64.wrap (xs.getD k 0)] _ _ _ ((m19.rd (i := 100) rfl).any) (by simp) (wrap1 _)) ?_)
  rintro e w20 ⟨d1, p20, c20, rfl, hld1, hbd1, ho20, hb20⟩
  have m21 := m19.newN 101 hb20 ho20
  refine ⟨_, rfl, ?_⟩; intro Az Hz
  refine plz (e_appN Hz m21 9 rfl rfl rfl (m21.numsO (i := 101) rfl) U22 fct19 (by decide) (by simp at hld1 ⊢; omega) rfl fun p23 c23 Az w24 Hz m24 => ?_)
  refine gz hK2 Hz (.assign rfl .nil) fun Az Hz => ?_
  replace Hz := Hz.oz [0, 3, 4]
  refine wp_region_lit ?_
  refine goCh Hz (.move rfl <| .inc (k + 1) <| .assign rfl .nil) fun Az Hz => ?_
  refine wpList_nil ?_
  show ∃ n', n' < _ ∧ _
  exact ⟨xs.length - (k + 1), by omega, k + 1, _, _, _, by omega, rfl, by simp at hld1 ⊢; omega, bytes_app hbb hbd1, Hz.only [0, 3, 4], m24.only [9]⟩
 intro hb9 Hz; try simp only [QQ, Qax] at hb9
 revert Hz
 obtain rfl : k = xs.length := by omega
 intro Hz
 refine wcf Hz ?_
 refine wp_exit ?_
 refine hK0 _ _ ?_
 refine regS Hz (.move rfl <| .assign rfl .nil) fun Az Hz => ?_
 refine rt1 Hz ?_
 exact ⟨_, _, _, rfl, hbl, hbb, m4.ok 9 _ rfl, m4.below⟩
theorem rlump (xs : List Int) (q : Option Addr) (cq : Nat) (w0 : World) (h0 : Rd (fun _ => True) w0 (.slice q xs.length cq) (.ns .u8 xs)) (hl : xs.length ≤ 1000000) (hxb : BytesL xs) :
   Calls Tryz.prog 89 #[.slice q xs.length cq] w0 fun e w' => ∃ (b : List Int) (p : Option Addr) (c : Nat), e = .returned (.slice p b.length c) ∧ b.length ≤ 10 + xs.length ∧ BytesL b ∧ w'.ownsRow w0.heap.size 5 1 (.slice p b.length c) b.length (b.map (Value.int .u8)) ∧ Below w0.heap.size w0 w' := by
 refine ent1 Tryz.func89 rfl Tryz.ntmps89 fun Az Hz => ?_
 have m0 := MemOk.start (fun _ => False) w0
 refine regS Hz (.assign rfl .nil) fun Az Hz => ?_
 refine zsr fun K0 hK0 => ?_
 refine goCh Hz (.move rfl <| .len rfl U22 <| .conv rfl U3 U149 rfl .nil) fun Az Hz => ?_
 refine plz (e_litN Hz m0 20 (k := .u64) rfl rfl U212 fct21 rfl rfl rfl rfl fun g8 Az w9 Hz m9 => ?_)
 have m10 := m9.freezeN 20 rfl
 refine plz (ecl Hz Tryz.func87 rfl (rput_own [IntKind.u64.wrap ((xs.length : Int))] _ _ _ ((m10.rd (i := 20) rfl).any) (by simp) (wrap1 _)) ?_)
 rintro e w11 ⟨d1, p11, c11, rfl, hld1, hbd1, ho11, hb11⟩
 have m12 := m10.newN 21 hb11 ho11
 refine ⟨_, rfl, ?_⟩; intro Az Hz
 refine goCh Hz (.move rfl .nil) fun Az Hz => ?_
 refine plz (e_appN Hz m12 21 rfl rfl rfl (h0.now' m12 rfl).ns_out.nums U22 fct19 (by decide) (by simp at hld1 ⊢; omega) rfl fun p15 c15 Az w16 Hz m16 => ?_)
 refine gz hK0 Hz (.assign rfl .nil) fun Az Hz => ?_
 refine rt1 Hz ?_
 exact ⟨_, _, _, rfl, (by simp at hld1 ⊢; omega), bytes_app hbd1 hxb, m16.ok 21 _ rfl, m16.below⟩
end
section
def ItsS (es : List (Int × List Int)) : Prop := ∀ e ∈ es, e.2.length ≤ 1000 ∧ BytesL e.2
set_option maxRecDepth 100000
set_option maxHeartbeats 4000000
theorem rplace (xs : List Int) (q : Option Addr) (cq : Nat) (w0 : World) (h0 : Rd (fun _ => True) w0 (.slice q xs.length cq) (.ns .i64 xs)) (hl : xs.length ≤ 1000000) :
   Calls Tryz.prog 59 #[.slice q xs.length cq] w0 fun e w' => ∃ (b : List Int) (p : Option Addr) (c : Nat), e = .returned (.slice p b.length c) ∧ b.length ≤ 10 + 10 * xs.length ∧ BytesL b ∧ w'.ownsRow w0.heap.size 5 1 (.slice p b.length c) b.length (b.map (Value.int .u8)) ∧ Below w0.heap.size w0 w' := by
 refine ent1 Tryz.func59 rfl Tryz.ntmps59 fun Az Hz => ?_
 have m0 := MemOk.start (fun _ => False) w0
 refine regS Hz (.assign rfl .nil) fun Az Hz => ?_
 refine zsr fun K0 hK0 => ?_
 refine goCh Hz (.move rfl <| .len rfl U29 .nil) fun Az Hz => ?_
 refine plz (e_litN Hz m0 20 (k := .i64) rfl rfl U30 fct22 rfl rfl rfl rfl fun g6 Az w7 Hz m7 => ?_)
 have m8 := m7.freezeN 20 rfl
 refine plz (ecl Hz Tryz.func58 rfl (rnums16 [(xs.length : Int)] _ _ _ ((m8.rd (i := 20) rfl).any) (by simp)) ?_)
 rintro e w9 ⟨d0, p9, c9, rfl, hld0, hbd0, ho9, hb9⟩
 have m10 := m8.newN 21 hb9 ho9
 refine ⟨_, rfl, ?_⟩; intro Az Hz
 refine gz hK0 Hz (.assign rfl .nil) fun Az Hz => ?_
 refine wsk fun K1 hK1 => ?_
 refine regS Hz (.assign rfl .nil) fun Az Hz => ?_
 refine wp_block ?_
 refine wp_loop_ghost (fun g a w => ∃ (k : Nat) (b : List Int) (p : Option Addr) (c : Nat), k ≤ xs.length ∧ g = xs.length - k ∧ b.length ≤ 10 + 10 * k ∧ BytesL b ∧ Has 24 [(0, .slice q xs.length cq), (3, .slice p b.length c), (4, .int .i64 k)] a ∧ MemOk (cn w0) w0 [(9, .num (.slice p b.length c) 5 .u8 b)] w) (xs.length) ?_ ?_
 · exact ⟨0, d0, _, _, Nat.zero_le _, rfl, by simpa using hld0, hbd0, Hz.only [0, 3, 4], m10.ren [(9, 21)] (by decide)⟩
 clear Hz m10
 rintro g Az w14 ⟨k, b, p, c, hkl, hg, hbl, hbb, Hz, m14⟩
 refine wsk fun K2 hK2 => ?_
 refine regS Hz (.move rfl <| .move rfl <| .len rfl U29 <| .lss rfl rfl .nil) fun Az Hz => ?_
 refine bc Hz 12 ?_ ?_
 ·
  intro hb19 Hz; try simp only [QQ, Qax] at hb19
  have hk : k < xs.length := by omega
  refine wct Hz ?_
  refine zss (hK2 _ _ ?_)
  refine wsk fun K3 hK3 => ?_
  refine wp_block ?_
  refine wp_region_lit ?_
  refine goCh Hz (.move rfl <| .move rfl <| .move rfl .nil) fun Az Hz => ?_
  obtain ⟨gx23, ox23, hp23, hl23, hrg23⟩ := h0.extN (k) hk
  revert Hz
  cases hp23
  intro Hz
  refine goCh Hz (.c rfl (fun _ h_ => y_idx h_ rfl rfl U29 fct23 (k) rfl hk) <| .loadAt1 (hrg23 m14 rfl) (q := 0) rfl rfl rfl U3 rfl .nil) fun Az Hz => ?_
  refine plz (e_litN Hz m14 100 (k := .i64) rfl rfl U30 fct22 rfl rfl rfl rfl fun g26 Az w27 Hz m27 => ?_)
  have m28 := m27.freezeN 100 rfl
  refine plz (ecl Hz Tryz.func58 rfl (rnums16 [xs.getD k 0] _ _ _ ((m28.rd (i := 100) rfl).any) (by simp)) ?_)
  rintro e w29 ⟨d1, p29, c29, rfl, hld1, hbd1, ho29, hb29⟩
  have m30 := m28.newN 101 hb29 ho29
  refine ⟨_, rfl, ?_⟩; intro Az Hz
  refine plz (e_appN Hz m30 9 rfl rfl rfl (m30.numsO (i := 101) rfl) U22 fct19 (by decide) (by simp at hld1 ⊢; omega) rfl fun p32 c32 Az w33 Hz m33 => ?_)
  refine gz hK3 Hz (.assign rfl .nil) fun Az Hz => ?_
  replace Hz := Hz.oz [0, 3, 4]
  refine wp_region_lit ?_
  refine goCh Hz (.move rfl <| .inc (k + 1) <| .assign rfl .nil) fun Az Hz => ?_
  refine wpList_nil ?_
  show ∃ n', n' < _ ∧ _
  exact ⟨xs.length - (k + 1), by omega, k + 1, _, _, _, by omega, rfl, by simp at hld1 ⊢; omega, bytes_app hbb hbd1, Hz.only [0, 3, 4], m33.only [9]⟩
 intro hb19 Hz; try simp only [QQ, Qax] at hb19
 revert Hz
 obtain rfl : k = xs.length := by omega
 intro Hz
 refine wcf Hz ?_
 refine wp_exit ?_
 refine hK1 _ _ ?_
 refine regS Hz (.move rfl <| .assign rfl .nil) fun Az Hz => ?_
 refine rt1 Hz ?_
 exact ⟨_, _, _, rfl, hbl, hbb, m14.ok 9 _ rfl, m14.below⟩
theorem rputItems (es : List (Int × List Int)) (q : Option Addr) (nn cq : Nat) (w0 : World) (h0 : Rd (fun _ => True) w0 (.slice q nn cq) (.l 2 (es.map itD))) (hl : es.length ≤ 10000) (hok : ItsS es) :
   Calls Tryz.prog 60 #[.slice q nn cq] w0 fun e w' => ∃ (b : List Int) (p : Option Addr) (c : Nat), e = .returned (.slice p b.length c) ∧ b.length ≤ 10 + 1020 * es.length ∧ BytesL b ∧ w'.ownsRow w0.heap.size 5 1 (.slice p b.length c) b.length (b.map (Value.int .u8)) ∧ Below w0.heap.size w0 w' := by
 obtain rfl : nn = es.length := by obtain ⟨pq, c9, hv, _⟩ := h0.l_shape; injection hv with _ e2 _; rw [List.length_map] at e2; exact e2
 refine ent1 Tryz.func60 rfl Tryz.ntmps60 fun Az Hz => ?_
 have m0 := MemOk.start (fun _ => False) w0
 refine regS Hz (.assign rfl .nil) fun Az Hz => ?_
 refine zsr fun K0 hK0 => ?_
 refine goCh Hz (.move rfl <| .len rfl U40 .nil) fun Az Hz => ?_
 refine plz (e_litN Hz m0 20 (k := .i64) rfl rfl U30 fct22 rfl rfl rfl rfl fun g6 Az w7 Hz m7 => ?_)
 have m8 := m7.freezeN 20 rfl
 refine plz (ecl Hz Tryz.func88 rfl (rnums13 [(es.length : Int)] _ _ _ ((m8.rd (i := 20) rfl).any) (by simp)) ?_)
 rintro e w9 ⟨d0, p9, c9, rfl, hld0, hbd0, ho9, hb9⟩
 have m10 := m8.newN 21 hb9 ho9
 refine ⟨_, rfl, ?_⟩; intro Az Hz
 refine gz hK0 Hz (.assign rfl .nil) fun Az Hz => ?_
 refine wsk fun K1 hK1 => ?_
 refine regS Hz (.assign rfl .nil) fun Az Hz => ?_
 refine wp_block ?_
 refine wp_loop_ghost (fun g a w => ∃ (k : Nat) (b : List Int) (p : Option Addr) (c : Nat), k ≤ es.length ∧ g = es.length - k ∧ b.length ≤ 10 + 1020 * k ∧ BytesL b ∧ Has 32 [(0, .slice q es.length cq), (3, .slice p b.length c), (4, .int .i64 k)] a ∧ MemOk (cn w0) w0 [(9, .num (.slice p b.length c) 5 .u8 b)] w) (es.length) ?_ ?_
 · exact ⟨0, d0, _, _, Nat.zero_le _, rfl, by simpa using hld0, hbd0, Hz.only [0, 3, 4], m10.ren [(9, 21)] (by decide)⟩
 clear Hz m10
 rintro g Az w14 ⟨k, b, p, c, hkl, hg, hbl, hbb, Hz, m14⟩
 refine wsk fun K2 hK2 => ?_
 refine regS Hz (.move rfl <| .move rfl <| .len rfl U40 <| .lss rfl rfl .nil) fun Az Hz => ?_
 refine bc Hz 12 ?_ ?_
 ·
  intro hb19 Hz; try simp only [QQ, Qax] at hb19
  have hk : k < es.length := by omega
  obtain ⟨⟨xb, xd⟩, hes⟩ : ∃ e, es[k]? = some e := ⟨_, List.getElem?_eq_getElem hk⟩
  have hed := hok _ (List.mem_of_getElem? hes)
  dsimp only at hed
  refine wct Hz ?_
  refine zss (hK2 _ _ ?_)
  refine wsk fun K3 hK3 => ?_
  refine wp_block ?_
  obtain ⟨gx21, ox21, vx21, hp21, hl21, hR21, hrg21⟩ := h0.extA (k) (r := [.v (.int .i64 xb), .ns .u8 xd]) (itD_get hes)
  revert Hz
  cases hp21
  rcases hR21 with _ | ⟨hd21_0, _ | ⟨hd21_1, _ | _⟩⟩
  obtain rfl := hd21_0.v_out
  clear hd21_0
  obtain ⟨p22, c22, hv22, hw22⟩ := hd21_1.ns_shape; subst hv22
  intro Hz
  obtain ⟨gx24, ox24, vx24, hp24, hl24, hR24, hrg24⟩ := h0.extA (k) (r := [.v (.int .i64 xb), .ns .u8 xd]) (itD_get hes)
  revert Hz
  cases hp24
  rcases hR24 with _ | ⟨hd24_0, _ | ⟨hd24_1, _ | _⟩⟩
  obtain rfl := hd24_0.v_out
  clear hd24_0
  obtain ⟨p25, c25, hv25, hw25⟩ := hd24_1.ns_shape; subst hv25
  intro Hz
  have m26 := m14.oz [9]
  refine region_p 17 (B := []) (m26.to trivial) m26 (by kernel_rfl) (fun w27 hP27 m27 => ?_); clear m26
  refine goR hP27 [0, 1, 2, 3, 4, 5, 9, 10, 11, 12, 13] [5, 13] 11 0 15935 Hz (m27.to trivial) (.move rfl <| .move rfl <| .move rfl <| .p (fun _ _ h_ => y_idx h_ rfl rfl U40 fct16 (k) rfl hk) <| .fieldAddrQ 0 rfl U111 rfl (s := 0) (by kernel_rfl) rfl <| .loadAt1 (fun _ h_ => (hrg21 h_ rfl)) (q := 0) rfl rfl rfl U3 rfl <| .move rfl <| .move rfl <| .p (fun _ _ h_ => y_idx h_ rfl rfl U40 fct16 (k) rfl hk) <| .fieldAddrQ 1 rfl U111 rfl (s := 0) (by kernel_rfl) rfl <| .loadAt1 (fun _ h_ => (hrg24 h_ rfl)) (q := 1) rfl rfl rfl U22 rfl .nil) fun Az Hz => ?_
  refine so 6 ?_
  refine e_litN Hz m27 102 (k := .i64) rfl rfl U30 fct22 rfl rfl rfl rfl fun g39 Az w40 Hz m40 => ?_
  refine ⟨m40.to trivial, ?_⟩
  have m41 := m40.freezeN 102 rfl
  refine so 7 ?_
  refine ecl Hz Tryz.func88 rfl (rnums13 [xb] _ _ _ ((m41.rd (i := 102) rfl).any) (by simp)) ?_
  rintro e w42 ⟨d1, p42, c42, rfl, hld1, hbd1, ho42, hb42⟩
  have m43 := m41.newN 103 hb42 ho42
  refine ⟨_, rfl, ?_⟩; intro Az Hz
  refine ⟨m43.to trivial, ?_⟩
  refine so 8 ?_
  refine e_appN Hz m43 9 rfl rfl rfl (m43.numsO (i := 103) rfl) U22 fct19 (by decide) (by simp at hld1 ⊢; omega) rfl fun p45 c45 Az w46 Hz m46 => ?_
  refine ⟨m46.to trivial, ?_⟩
  refine so 14 ?_
  refine ecl Hz Tryz.func89 rfl (rlump xd _ _ _ ((hd24_1.now' m46 rfl).any) (by omega) hed.2) ?_
  rintro e w47 ⟨d2, p47, c47, rfl, hld2, hbd2, ho47, hb47⟩
  have m48 := m46.newN 104 hb47 ho47
  refine ⟨_, rfl, ?_⟩; intro Az Hz
  refine ⟨m48.to trivial, ?_⟩
  refine so 15 ?_
  refine e_appN Hz m48 9 rfl rfl rfl (m48.numsO (i := 104) rfl) U22 fct19 (by decide) (by simp at hld1 ⊢; omega) rfl fun p50 c50 Az w51 Hz m51 => ?_
  refine ⟨m51.to trivial, ?_⟩
  refine goA hP27 [16] 1 65535 131071 Hz (m51.to trivial) (.assign rfl .nil) fun Az Hz => ?_
  refine wpAnyE_done (by kernel_rfl) ?_ _
  refine hK3 _ _ ?_
  replace Hz := Hz.oz [0, 3, 4]
  refine wp_region_lit ?_
  refine goCh Hz (.move rfl <| .inc (k + 1) <| .assign rfl .nil) fun Az Hz => ?_
  refine wpList_nil ?_
  show ∃ n', n' < _ ∧ _
  exact ⟨es.length - (k + 1), by omega, k + 1, _, _, _, by omega, rfl, by simp at hld1 ⊢; omega, bytes_app (bytes_app hbb hbd1) hbd2, Hz.only [0, 3, 4], m51.only [9]⟩
 intro hb19 Hz; try simp only [QQ, Qax] at hb19
 revert Hz
 obtain rfl : k = es.length := by omega
 intro Hz
 refine wcf Hz ?_
 refine wp_exit ?_
 refine hK1 _ _ ?_
 refine regS Hz (.move rfl <| .assign rfl .nil) fun Az Hz => ?_
 refine rt1 Hz ?_
 exact ⟨_, _, _, rfl, hbl, hbb, m14.ok 9 _ rfl, m14.below⟩
end
section
theorem fl111tI : flatS Tryz.prog 111 [.int .i64 0, .slice none 0 0] = true := by kernel_rfl
theorem its_snoc {es : List (Int × List Int)} {x : Int × List Int} (h : (∀ e ∈ es, e.2.length ≤ 32 ∧ BytesL e.2)) (hx : x.2.length ≤ 32 ∧ BytesL x.2) : ∀ e ∈ es ++ [x], e.2.length ≤ 32 ∧ BytesL e.2 := fun e he => by
 rcases List.mem_append.1 he with h1 | h1
 · exact h e h1
 rw [List.mem_singleton.1 h1]; exact hx
set_option maxRecDepth 100000
set_option maxHeartbeats 4000000
theorem rtakeItems (X : Cx) (B : Nat) (b : List Int) (er : Int) (p : Option Addr) (c : Nat) (w0 : World) (hb : b.length ≤ 1000000) (hbb : BytesL b) (m0 : MemOk X w0 [(1, .box B 154 [.slice p b.length c, .int .i64 er]), (2, .dat (.slice p b.length c) (.ns .u8 b))] w0) :
   Calls Tryz.prog 93 #[.pointer (some ⟨B, 0, none⟩)] w0 fun e w' => ∃ (es : List (Int × List Int)) (b' : List Int) (p' : Option Addr) (c' : Nat) (er' : Int) (p3 : Option Addr) (c3 : Nat), e = .returned (.slice p3 (es.map itD).length c3) ∧ es.length ≤ 8 ∧ (∀ e ∈ es, e.2.length ≤ 32 ∧ BytesL e.2) ∧ b'.length ≤ b.length ∧ BytesL b' ∧ MemOk X w0 [(1, .box B 154 [.slice p' b'.length c', .int .i64 er']), (2, .dat (.slice p' b'.length c') (.ns .u8 b')), (3, .dat (.slice p3 (es.map itD).length c3) (.l 2 (es.map itD)))] w' := by
 refine ent1 Tryz.func93 rfl Tryz.ntmps93 fun Az Hz => ?_
 refine regS Hz (.assign rfl .nil) fun Az Hz => ?_
 refine regS Hz (.assign rfl .nil) fun Az Hz => ?_
 refine zsr fun K0 hK0 => ?_
 refine goCh Hz (.move rfl .nil) fun Az Hz => ?_
 refine plz (ecl Hz Tryz.func91 rfl (rnum _ _ b _ 8 _ _ _ (by omega) hbb (by decide) (m0.into [(1, 1), (2, 2)] (by decide) rfl)) ?_)
 rintro e w5 ⟨un, b2, p5, c5, er5, rfl, huun, hbl2, hbb2, hm5⟩
 have mx5 := m0.back hm5 [(1, 1), (2, 2)] (by decide); clear hm5 m0
 have m5 := mx5.oz [1, 2]
 refine ⟨_, rfl, ?_⟩; intro Az Hz
 refine gz hK0 Hz (.assign rfl .nil) fun Az Hz => ?_
 refine wsk fun K1 hK1 => ?_
 refine regS Hz (.assign rfl .nil) fun Az Hz => ?_
 refine wp_block ?_
 refine wp_loop_ghost (fun g a w => ∃ (k : Nat) (es : List (Int × List Int)) (b1 : List Int) (p1 : Option Addr) (c1 : Nat) (er1 : Int) (p3 : Option Addr) (c3 : Nat), (k : Int) ≤ un ∧ g = un.toNat - k ∧ es.length ≤ k ∧ (∀ e ∈ es, e.2.length ≤ 32 ∧ BytesL e.2) ∧ b1.length ≤ b.length ∧ BytesL b1 ∧ Has 33 [(0, .pointer (some ⟨B, 0, none⟩)), (3, .slice p3 (es.map itD).length c3), (4, .int .u64 un), (5, .int .u64 (k : Int))] a ∧ MemOk X w0 [(1, .box B 154 [.slice p1 b1.length c1, .int .i64 er1]), (2, .dat (.slice p1 b1.length c1) (.ns .u8 b1)), (9, .row (.slice p3 (es.map itD).length c3) 111 2 (es.map itD))] w) (un.toNat) ?_ ?_
 · have mz := m5.nilR 9 111 2
   exact ⟨0, [], b2, _, _, _, _, _, by omega, rfl, Nat.le_refl _, (fun e h => by cases h), hbl2, hbb2, Hz.only [0, 3, 4, 5], mz.only [1, 2, 9]⟩
 clear Hz m5
 rintro g Az w9 ⟨k, es, b1, p1, c1, er1, p3, c3, hku, hg, hel, hes, hbl1, hbb1, Hz, m9⟩
 refine wsk fun K2 hK2 => ?_
 refine zsr fun K3 hK3 => ?_
 refine goCh Hz (.move rfl <| .move rfl <| .lss rfl rfl <| .move rfl .nil) fun Az Hz => ?_
 refine bc Hz 12 ?_ ?_
 ·
  intro hb18 Hz; try simp only [QQ, Qax] at hb18
  refine gz hK3 Hz (.moveZ rfl <| .nilCheckZ rfl <| .faZ 1 rfl U154 <| .loadB1Z m9 (i := 1) rfl rfl rfl U3 rfl <| .eqlZ rfl rfl <| .pickT rfl rfl <| .nil) fun Az Hz => ?_
  refine bc Hz 18 ?_ ?_
  ·
   intro hb25 Hz; try simp only [QQ, Qax] at hb25
   refine wct Hz ?_
   refine zss (hK2 _ _ ?_)
   refine wsk fun K4 hK4 => ?_
   refine wp_block ?_
   replace Hz := Hz.oz [0, 3, 4, 5]
   refine zsr fun K5 hK5 => ?_
   refine goCh Hz (.move rfl .nil) fun Az Hz => ?_
   refine plz (ecl Hz Tryz.func91 rfl (rnum _ _ b1 _ 256 _ _ _ (by omega) hbb1 (by decide) (m9.into [(1, 1), (2, 2)] (by decide) rfl)) ?_)
   rintro e w29 ⟨uv, b3, p29, c29, er29, rfl, huuv, hbl3, hbb3, hm29⟩
   have mx29 := m9.back hm29 [(1, 1), (2, 2)] (by decide); clear hm29 m9
   have m29 := mx29.oz [1, 2, 9]
   refine ⟨_, rfl, ?_⟩; intro Az Hz
   refine gz hK5 Hz (.conv rfl U149 U3 (r := uv) (IntWalk.i64_in _ (by omega)) <| .assign rfl <| .nil) fun Az Hz => ?_
   refine wp_region_lit ?_
   refine goCh Hz (.move rfl <| .move rfl <| .move rfl .nil) fun Az Hz => ?_
   refine plz (ecl Hz Tryz.func122 rfl (rlumpR _ _ b3 _ 32 _ _ _ (by omega) hbb3 (by decide) (m29.into [(1, 1), (2, 2)] (by decide) rfl)) ?_)
   rintro e w36 ⟨xd, b4, p36, c36, er36, p336, c336, rfl, hxd, hbxd, hbl4, hbb4, hm36⟩
   have mx36 := m29.back hm36 [(1, 1), (2, 2), (100, 3)] (by decide); clear hm36 m29
   have m36 := mx36.oz [1, 2, 100, 9]
   refine ⟨_, rfl, ?_⟩; intro Az Hz
   refine plz (e_app0N Hz m36 101 rfl rfl (m36.nums (i := 100) rfl) U22 fct19 (by decide) (by omega) rfl fun p38 c38 Az w39 Hz m39 => ?_)
   refine goCh Hz (.build rfl fct25 fl111tI rfl (by dsimp only [setL, List.set] <;> rfl) .nil) fun Az Hz => ?_
   have m42 := m39.freezeN 101 rfl
   refine plz (e_litR Hz m42 102 (mm := 2) rfl (.cons rfl rfl (.cons (.v _) (.cons (m42.rd (i := 101) rfl) .nil)) .nil) U40 fct24 rfl rfl rfl rfl rfl fun g41 Az w43 Hz m43 => ?_)
   have m45 := m43.freezeR 102 rfl
   refine plz (e_appR Hz m45 9 rfl rfl rfl (m45.rd (i := 102) rfl) U40 fct24 rfl rfl (by decide) (by simp; omega) rfl fun p44 c44 Az w46 Hz m46 => ?_)
   refine gz hK4 Hz (.assign rfl .nil) fun Az Hz => ?_
   replace Hz := Hz.oz [0, 3, 4, 5]
   refine wp_region_lit ?_
   refine goCh Hz (.move rfl <| .add rfl rfl (r := ((k + 1 : Nat) : Int)) (by rw [IntWalk.u64_in _ (by omega)]; omega) <| .assign rfl .nil) fun Az Hz => ?_
   refine wpList_nil ?_
   show ∃ n', n' < _ ∧ _
   have hE : es.map itD ++ [[D.v (.int .i64 uv), .ns .u8 xd]] = (es ++ [(uv, xd)]).map itD := by rw [List.map_append]; rfl
   rw [hE] at m46 Hz
   exact ⟨un.toNat - (k + 1), by omega, k + 1, es ++ [(uv, xd)], b4, _, _, _, _, _, by omega, rfl, by simp; omega, its_snoc hes ⟨by have := hxd; simp only; omega, hbxd⟩, by omega, hbb4, Hz.only [0, 3, 4, 5], m46.only [1, 2, 9]⟩
  intro hb25 Hz; try simp only [QQ, Qax] at hb25
  refine wcf Hz ?_
  refine wp_exit ?_
  refine hK1 _ _ ?_
  replace Hz := Hz.oz [0, 3, 4, 5]
  refine regS Hz (.move rfl <| .assign rfl .nil) fun Az Hz => ?_
  refine rt1 Hz ?_
  have m55 := m9.freezeR 9 rfl
  exact ⟨es, b1, _, _, _, _, _, rfl, by omega, hes, hbl1, hbb1, m55.ren [(1, 1), (2, 2), (3, 9)] (by decide)⟩
 intro hb18 Hz; try simp only [QQ, Qax] at hb18
 refine gz hK3 Hz (.sk <| .sk <| .sk <| .sk <| .sk <| .pickF rfl rfl <| .nil) fun Az Hz => ?_
 refine wcf Hz ?_
 refine wp_exit ?_
 refine hK1 _ _ ?_
 replace Hz := Hz.oz [0, 3, 4, 5]
 refine regS Hz (.move rfl <| .assign rfl .nil) fun Az Hz => ?_
 refine rt1 Hz ?_
 have m65 := m9.freezeR 9 rfl
 exact ⟨es, b1, _, _, _, _, _, rfl, by omega, hes, hbl1, hbb1, m65.ren [(1, 1), (2, 2), (3, 9)] (by decide)⟩
end
end Go.Proofs.YtamjnimaeecmoaaGreat.K
