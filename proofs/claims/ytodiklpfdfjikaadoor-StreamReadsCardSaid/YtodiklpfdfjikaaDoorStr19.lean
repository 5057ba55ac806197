/- stream: StreamReads' walk. -/
import Derived.Test.YtodiklpfdfjikaaDoorStr18
import Derived.Test.YtodiklpfdfjikaaDoorG5
namespace Go.Proofs.YtodiklpfdfjikaaDoor.K
open Go.ChangeShapes Go.WideShapes Go.ChangeAt Go.RowKit
set_option linter.unusedVariables false
set_option linter.unusedSimpArgs false
theorem bytesSet {l : List Int} {A : Nat} {v : Int} (h : BytesL l) (hv : 0 ≤ v ∧ v ≤ 255) : BytesL (l.set A v) := fun x hx => (List.mem_or_eq_of_mem_set hx).elim (h x) (fun e => e ▸ hv)
theorem readIs_len {b : List Int} {bl sz fr to er : Int} {its : List (Int × List Int)} (h : ReadIs b bl sz fr to its er) (hl : b.length ≤ 10000) : its.length ≤ 1000000 := by
 rcases h with ⟨_, h1, _⟩ | ⟨_, _, _, _, _, rfl, _⟩
 · have := h1.len; omega
 simp
set_option maxRecDepth 100000
set_option maxHeartbeats 4000000
theorem rsame_yes21 (bl sz fr to : Int) (its : List (Int × List Int)) (p1 p2 : Option Addr) (n1 c1 n2 c2 : Nat) (w0 : World) (h1 : Rd (fun _ => True) w0 (.slice p1 n1 c1) (.l 2 (its.map itD))) (h2 : Rd (fun _ => True) w0 (.slice p2 n2 c2) (.l 2 (its.map itD))) (hl : its.length ≤ 1000000) :
   Calls Tryd.prog 12 #[.agg #[.int .i64 bl, .int .i64 sz, .int .i64 fr, .int .i64 to, .slice p1 n1 c1], .agg #[.int .i64 bl, .int .i64 sz, .int .i64 fr, .int .i64 to, .slice p2 n2 c2]] w0 fun e w' => e = .returned (.bool true) ∧ Below w0.heap.size w0 w' := by
 refine ent2 Tryd.func12 rfl Tryd.ntmps12 fun Az Hz => ?_
 have m0 := MemOk.start (fun _ => False) w0
 refine zsr fun K0 hK0 => ?_
 refine plz (e_box Hz m0 20 (cs := [_, _, _, _, _]) rfl rfl rfl fun g1 Az w2 Hz m2 _ _ => ?_)
 refine plz (e_box Hz m2 21 (cs := [_, _, _, _, _]) rfl rfl rfl fun g3 Az w4 Hz m4 _ _ => ?_)
 refine goCh Hz (.assign rfl .nil) fun Az Hz => ?_
 refine znl (hK0 _ _ ?_); clear hK0
 refine zsr fun K1 hK1 => ?_
 refine goCh Hz (.fa 0 rfl U29 <| .lb m4 20 U3 rfl rfl rfl <| .fa 0 rfl U29 <| .lb m4 21 U3 rfl rfl rfl <| .eql rfl rfl <| .move rfl <| .nil) fun Az Hz => ?_
 refine bc Hz 10 ?_ ?_
 rotate_left
 · intro hb _; exact absurd hb (by simp)
 clear Hz; intro _ Hz
 refine goCh Hz (.faZ 1 rfl U29 <| .loadB1Z m4 (i := 20) rfl rfl rfl U3 rfl <| .faZ 1 rfl U29 <| .loadB1Z m4 (i := 21) rfl rfl rfl U3 rfl <| .eqlZ rfl rfl <| .pickT rfl rfl <| .move rfl <| .nil) fun Az Hz => ?_
 refine bc Hz 17 ?_ ?_
 rotate_left
 · intro hb _; exact absurd hb (by simp)
 clear Hz; intro _ Hz
 refine goCh Hz (.faZ 2 rfl U29 <| .loadB1Z m4 (i := 20) rfl rfl rfl U2 rfl <| .faZ 2 rfl U29 <| .loadB1Z m4 (i := 21) rfl rfl rfl U2 rfl <| .eqlZ rfl rfl <| .pickT rfl rfl <| .move rfl <| .nil) fun Az Hz => ?_
 refine bc Hz 24 ?_ ?_
 rotate_left
 · intro hb _; exact absurd hb (by simp)
 clear Hz; intro _ Hz
 refine goCh Hz (.faZ 3 rfl U29 <| .loadB1Z m4 (i := 20) rfl rfl rfl U2 rfl <| .faZ 3 rfl U29 <| .loadB1Z m4 (i := 21) rfl rfl rfl U2 rfl <| .eqlZ rfl rfl <| .pickT rfl rfl <| .move rfl <| .nil) fun Az Hz => ?_
 refine bc Hz 31 ?_ ?_
 rotate_left
 · intro hb _; exact absurd hb (by simp)
 clear Hz; intro _ Hz
 refine goCh Hz (.faZ 4 rfl U29 <| .loadB1Z m4 (i := 20) rfl rfl rfl U27 rfl <| .faZ 4 rfl U29 <| .loadB1Z m4 (i := 21) rfl rfl rfl U27 rfl <| .nil) fun Az Hz => ?_
 refine stz Hz (ecb Hz Tryd.func29 rfl m4 (sitems_any its _ _ _ _ _ _ _ ((h1.now' m4 rfl).any) ((h2.now' m4 rfl).any) hl) fun Az w47 Hz m48 => ?_)
 refine goCh Hz (.pickT rfl rfl <| .assign rfl <| .nil) fun Az Hz => ?_
 refine znl (hK1 _ _ ?_); clear hK1
 refine rtd (ret1 (fn := Tryd.f12) Hz rfl rfl ?_)
 exact ⟨rfl, m48.below⟩
theorem reads21_walk (raw l : List Int) (fv tv av xv : Nat) (pr pl : Option Addr) (cr cl : Nat) (w0 : World) (hT : TabOk w0) (h01 : 1 ≤ w0.heap.size) (h1 : Rd (fun _ => True) w0 (.slice pr raw.length cr) (.ns .u8 raw)) (h2 : Rd (fun _ => True) w0 (.slice pl l.length cl) (.ns .u8 l)) (hrb : BytesL raw) (hlb : ∀ j, j < l.length → 0 ≤ l.getD j 0 ∧ l.getD j 0 ≤ 255) (hf : fv ≤ 255) (ht : tv ≤ 255) (ha9 : av ≤ 65535) (hx9 : xv < 256) :
   Calls Tryd.prog 3 #[.slice pr raw.length cr, .slice pl l.length cl, .int .u8 (fv : Int), .int .u8 (tv : Int), .int .u16 (av : Int), .int .u8 (xv : Int)] w0 fun e w' => e = .returned (.bool true) ∧ Below w0.heap.size w0 w' := by
 refine ent6 Tryd.func3 rfl Tryd.ntmps3 fun Az Hz => ?_
 have m0 := MemOk.start (fun _ => True) w0
 refine regS Hz (.assign rfl <| .nil) fun Az Hz => ?_
 refine wp_seq_k (fun K0 hK0 => ?_)
 refine zsr fun K1 hK1 => ?_
 refine plz (ecb Hz Tryd.func6 rfl m0 (sknown_any _ (hT.below m0.below h01) (Nat.le_trans h01 m0.below.size)) fun Az w2 Hz m3 => ?_)
 refine goCh Hz (.not rfl .nil) fun Az Hz => ?_
 refine znl (hK1 _ _ ?_); clear hK1
 refine wcf Hz ?_
 refine zss (hK0 _ _ ?_); clear hK0
 refine wp_seq_k (fun K2 hK2 => ?_)
 refine zsr fun K3 hK3 => ?_
 refine goCh Hz (.move rfl <| .len rfl U22 <| .gtr rfl rfl <| .move rfl <| .nil) fun Az Hz => ?_
 refine bc Hz 28 ?_ ?_
 ·
  intro hb14 Hz; try simp only [QQ, Qax] at hb14
  refine goCh Hz (.sk <| .sk <| .sk <| .pickT rfl rfl <| .nil) fun Az Hz => ?_
  refine znl (hK3 _ _ ?_); clear hK3
  refine wct Hz ?_
  replace Hz : Has 123 [(0, _), (1, _), (2, _), (3, _), (4, _), (5, _), (12, _), (28, _), (32, _)] Az := Hz.only [0, 1, 2, 3, 4, 5, 12, 28, 32]
  refine regS Hz (.assign rfl <| .nil) fun Az Hz => ?_
  refine rtd (ret1 (fn := Tryd.f3) Hz rfl rfl ?_)
  exact ⟨rfl, m3.below⟩
 intro hb14 Hz; try simp only [QQ, Qax] at hb14
 have hr100 : raw.length ≤ 100 := by have := hb14; first | omega | (simp at this; omega)
 refine goCh Hz (.moveZ rfl <| .lenZ rfl U22 <| .gtrZ rfl rfl <| .pickF rfl rfl <| .nil) fun Az Hz => ?_
 refine znl (hK3 _ _ ?_); clear hK3
 refine bc Hz 32 ?_ ?_
 ·
  intro hb25 Hz; try simp only [QQ, Qax] at hb25
  refine wct Hz ?_
  replace Hz : Has 123 [(0, _), (1, _), (2, _), (3, _), (4, _), (5, _), (12, _), (28, _), (32, _)] Az := Hz.only [0, 1, 2, 3, 4, 5, 12, 28, 32]
  refine regS Hz (.assign rfl <| .nil) fun Az Hz => ?_
  refine rtd (ret1 (fn := Tryd.f3) Hz rfl rfl ?_)
  exact ⟨rfl, m3.below⟩
 intro hb25 Hz; try simp only [QQ, Qax] at hb25
 have hl60 : l.length ≤ 60 := by have := hb25; first | omega | (simp at this; omega)
 refine wcf Hz ?_
 refine zss (hK2 _ _ ?_); clear hK2
 replace Hz : Has 123 [(0, _), (1, _), (2, _), (3, _), (4, _), (5, _), (12, _), (28, _), (32, _)] Az := Hz.only [0, 1, 2, 3, 4, 5, 12, 28, 32]
 refine zsr fun K4 hK4 => ?_
 refine goCh Hz (.move rfl <| .move rfl <| .move rfl <| .nil) fun Az Hz => ?_
 refine plz (ecl Hz Tryd.func8 rfl (some_any l fv tv _ _ _ ((h2.now' m3 rfl).any) (by omega) hlb hf ht) ?_)
 rintro e w35 ⟨bl, sz, fr, to, its, pa35, ca35, rfl, hs, hby, hd35, hb35⟩
 have m36 := m3.callF 70 rfl hb35 hd35
 clear m3
 clear hb35 hd35
 refine ⟨_, rfl, ?_⟩; intro Az Hz
 refine plz (ecn Hz Tryd.func7 rfl m36 71 (rput21_yes bl sz fr to its _ _ _ _ ((m36.rd (i := 70) rfl).any) hs hby) fun p38 c38 Az w38 Hz m39 => ?_)
 obtain ⟨bs, hbs⟩ : ∃ L, strB bl sz fr to its = L := ⟨_, rfl⟩
 have hsl : bs.length ≤ 9800 := by rw [← hbs]; exact str_len hs
 have hbsb : BytesL bs := by rw [← hbs]; exact strBytes hs hby
 have h8 : 8 ≤ bs.length := by rw [← hbs, strB, bodyB, headB, List.length_append, List.length_append, sealC_len, fourC_len, List.length_append]; have : magicB.length = 5 := rfl; omega
 obtain ⟨A, hA⟩ : ∃ A, av % bs.length = A := ⟨_, rfl⟩
 have hA1 : A < bs.length := by rw [← hA]; exact Nat.mod_lt _ (by omega)
 obtain ⟨ds, hds⟩ : ∃ L, bs.take (bs.length - 4) = L := ⟨_, rfl⟩
 have hdl : ds.length = bs.length - 4 := by rw [← hds, List.length_take]; omega
 have hdsb : BytesL ds := by rw [← hds]; exact fun z hz => hbsb z (List.mem_of_mem_take hz)
 obtain ⟨A2, hA9⟩ : ∃ A, av % ds.length = A := ⟨_, rfl⟩
 have hA2 : A2 < ds.length := by rw [← hA9]; exact Nat.mod_lt _ (by omega)
 have hb1 : 0 ≤ bs.getD A 0 ∧ bs.getD A 0 ≤ 255 := getD_bd hbsb hA1
 have hn1 : bs.getD A 0 = (((bs.getD A 0).toNat : Nat) : Int) := by omega
 have hu1 : (bs.getD A 0).toNat < 256 := by omega
 obtain ⟨V, hV⟩ : ∃ V, (bs.getD A 0).toNat ^^^ xv = V := ⟨_, rfl⟩
 have hV9 : V < 256 := by rw [← hV]; exact Nat.xor_lt_two_pow (n := 8) hu1 (by omega)
 have hb2 : 0 ≤ ds.getD A2 0 ∧ ds.getD A2 0 ≤ 255 := getD_bd hdsb hA2
 have hn2 : ds.getD A2 0 = (((ds.getD A2 0).toNat : Nat) : Int) := by omega
 have hu2 : (ds.getD A2 0).toNat < 256 := by omega
 obtain ⟨V2, hV2⟩ : ∃ V, (ds.getD A2 0).toNat ^^^ xv = V := ⟨_, rfl⟩
 have hV29 : V2 < 256 := by rw [← hV2]; exact Nat.xor_lt_two_pow (n := 8) hu2 (by omega)
 obtain ⟨cs, hcs⟩ : ∃ L, bs.set A (V : Int) = L := ⟨_, rfl⟩
 have hcl : cs.length = bs.length := by rw [← hcs, List.length_set]
 have hcsb : BytesL cs := by rw [← hcs]; exact bytesSet hbsb (by omega)
 obtain ⟨es, hes⟩ : ∃ L, ds.set A2 (V2 : Int) = L := ⟨_, rfl⟩
 have hel : es.length = ds.length := by rw [← hes, List.length_set]
 have hesb : BytesL es := by rw [← hes]; exact bytesSet hdsb (by omega)
 rw [hbs] at m39 Hz
 have m41 := m39.freezeN 71 rfl; clear m39
 refine goCh Hz (.move rfl <| .extract rfl rfl <| .extract rfl rfl <| .assign rfl <| .assign rfl <| .nil) fun Az Hz => ?_
 refine znl (hK4 _ _ ?_); clear hK4
 replace Hz : Has 123 [(0, _), (4, _), (5, _), (12, _), (28, _), (32, _), (13, _)] Az := Hz.only [0, 4, 5, 12, 28, 32, 13]
 refine zsr fun K5 hK5 => ?_
 refine goCh Hz (.move rfl .nil) fun Az Hz => ?_
 refine plz (e_app0N Hz m41 72 rfl rfl (m41.nums (i := 71) rfl) U22 fct0 (by decide) (by omega) rfl fun p50 c50 Az w51 Hz m51 => ?_)
 refine goCh Hz (.assign rfl .nil) fun Az Hz => ?_
 refine znl (hK5 _ _ ?_); clear hK5
 refine zsr fun K6 hK6 => ?_
 refine goCh Hz (.move rfl <| .move rfl <| .conv rfl U23 U3 (r := (av : Int)) (IntWalk.i64_in _ (by omega)) <| .move rfl <| .len rfl U22 <| .rem rfl rfl (by omega) (r := (A : Int)) (by rw [Int.tmod_eq_emod_of_nonneg (by omega), ← hA]; simp) <| .nil) fun Az Hz => ?_
 obtain ⟨g66, hpg66⟩ := m51.openO (i := 72) rfl (Nat.lt_of_le_of_lt (Nat.zero_le _) hA1)
 revert Hz
 cases hpg66
 intro Hz
 refine goCh Hz (.c rfl (fun _ h => y_idxO h rfl rfl U22 fct7 (A) rfl hA1) <| .c rfl (fun _ h => y_loadO h m51 (i := 72) rfl rfl rfl hA1 U5 rfl) <| .move rfl <| .xor rfl rfl (r := (V : Int)) (show bits .xor .u8 _ _ = _ from by rw [hn1, u8_xor_nat _ _ hu1 (by omega), hV]) <| .nil) fun Az Hz => ?_
 obtain ⟨g71, hpg71⟩ := m51.openO (i := 72) rfl (Nat.lt_of_le_of_lt (Nat.zero_le _) hA1)
 revert Hz
 cases hpg71
 intro Hz
 refine goCh Hz (.c rfl (fun _ h => y_idxO h rfl rfl U22 fct7 (A) rfl hA1) .nil) fun Az Hz => ?_
 refine plz (e_storeO Hz m51 72 rfl rfl rfl rfl hA1 fct7 fun w73 m73 => ?_)
 refine znl (hK6 _ _ ?_); clear hK6
 refine wp_seq_k (fun K7 hK7 => ?_)
 skip
 rw [hcs] at m73
 replace Hz : Has 123 [(0, _), (4, _), (5, _), (12, _), (28, _), (32, _), (13, _), (15, _)] Az := Hz.only [0, 4, 5, 12, 28, 32, 13, 15]
 refine wp_region_lit ?_
 refine goCh Hz (.move rfl <| .move rfl <| .len rfl U22 <| .sub rfl rfl (r := ((bs.length - 4 : Nat) : Int)) (by rw [IntWalk.i64_in _ (by omega)]; omega) <| .nil) fun Az Hz => ?_
 have m79 := m73.takeN (i := 71) rfl (bs.length - 4) (show bs.length - 4 ≤ bs.length by omega) 73 rfl
 have hcap79 := (m73.rd (i := 71) rfl).ns_out.cap; clear m73
 refine goCh Hz (.c rfl (fun _ h => y_sliceHn h (bs.length - 4) rfl rfl U22 fct7 rfl (Nat.le_trans (show bs.length - 4 ≤ bs.length by omega) hcap79.1)) .nil) fun Az Hz => ?_
 refine plz (e_app0N Hz m79 74 rfl rfl (m79.nums (i := 73) rfl) U22 fct0 (by decide) (by rw [hds]; omega) rfl fun p81 c81 Az w82 Hz m82 => ?_)
 refine goCh Hz (.assign rfl .nil) fun Az Hz => ?_
 refine znl (hK7 _ _ ?_); clear hK7
 refine wp_seq_k (fun K8 hK8 => ?_)
 have hC8 : ∀ (a : Act) (w : World), (∃ (pb pc pd : Option Addr) (cb cc cd : Nat), Has 123 [(0, .slice pr raw.length cr), (4, .int .u16 (av : Int)), (13, .slice pb bs.length cb), (15, .slice pc bs.length cc), (16, .slice pd ds.length cd)] a ∧ MemOk (cxt w0) w0 [(10, .dat (.slice pb bs.length cb) (.ns .u8 bs)), (11, .dat (.slice pc bs.length cc) (.ns .u8 cs)), (12, .dat (.slice pd ds.length cd) (.ns .u8 es))] w) → K8 a w := by
   clear Hz m82
   rintro Az w84 ⟨pb, pc, pd, cb, cc, cd, Hz, m84⟩
   refine hK8 _ _ ?_; clear hK8
   refine wp_seq_k (fun K9 hK9 => ?_)
   refine wp_seq_k (fun K10 hK10 => ?_)
   have m85 : MemOk _ _ [(10, _), (11, _), (12, _)] _ := m84.only [10, 11, 12]; clear m84
   refine region_p 26 (B := [(10, _), (11, _), (12, _)]) (m85.to ⟨il, il, il, trivial⟩) m85 (by kernel_rfl) (fun w86 hP86 m86 => ?_); clear m85
   refine dsuf (I := fun a w => ∃ (p75 p77 p84 p88 p96 : Option Addr) (c75 c77 c84 c88 c96 : Nat), Has 123 [(71, .slice pr raw.length cr), (72, .slice pb bs.length cb), (73, .slice pc bs.length cc), (75, .slice p75 (sealC es).length c75), (77, .slice p77 (sealC raw).length c77), (84, .slice p84 A c84), (88, .slice p88 (bs ++ raw).length c88), (96, .slice p96 (sealC (bs.take A)).length c96), (99, .int .i64 0)] a ∧ MemOk (cxt w0) w0 [(10, .dat (.slice pb bs.length cb) (.ns .u8 bs)), (11, .dat (.slice pc bs.length cc) (.ns .u8 cs)), (20, .dat (.slice p84 A c84) (.ns .u8 (bs.take A))), (21, .num (.slice p75 (sealC es).length c75) 5 .u8 (sealC es)), (22, .num (.slice p77 (sealC raw).length c77) 5 .u8 (sealC raw)), (23, .num (.slice p88 (bs ++ raw).length c88) 5 .u8 (bs ++ raw)), (24, .num (.slice p96 (sealC (bs.take A)).length c96) 5 .u8 (sealC (bs.take A)))] w) 2 335544319 ?_ fun hD => ?_
   ·
    clear Hz m86
    rintro Az w87 ⟨p75, p77, p84, p88, p96, c75, c77, c84, c88, c96, Hz, m87⟩
    have m89 := m87.freezeN 21 rfl; clear m87
    have m90 := m89.freezeN 22 rfl; clear m89
    have m91 := m90.freezeN 23 rfl; clear m90
    have m92 := m91.freezeN 24 rfl; clear m91
    refine se 26 ?_
    refine e_litR Hz m92 200 (mm := 1) rfl (.cons rfl rfl (.cons (m92.old h1) .nil) <| .cons rfl rfl (.cons (m92.rd (i := 10) rfl) .nil) <| .cons rfl rfl (.cons (m92.rd (i := 11) rfl) .nil) <| .cons rfl rfl (.cons (m92.rd (i := 21) rfl) .nil) <| .cons rfl rfl (.cons (m92.rd (i := 22) rfl) .nil) <| .cons rfl rfl (.cons (m92.rd (i := 20) rfl) .nil) <| .cons rfl rfl (.cons (m92.rd (i := 23) rfl) .nil) <| .cons rfl rfl (.cons (m92.rd (i := 24) rfl) .nil) <| .nil) U32 fct4 rfl rfl rfl rfl rfl fun g88 Az w93 Hz m93 => ?_
    refine goB hP86 [27] 1 402653183 536870911 Hz (.len rfl U32 <| .nil) fun Az Hz => ?_
    refine wpAnyE_done (by kernel_rfl) ?_ _
    refine hK10 _ _ ?_; clear hK10
    refine wp_block ?_
    have m95 := m93.freezeR 200 rfl; clear m93
    obtain ⟨ys, hys⟩ : ∃ L, [raw, bs, cs, sealC es, sealC raw, bs.take A, bs ++ raw, sealC (bs.take A)] = L := ⟨_, rfl⟩
    have hy8 : ys.length = 8 := by rw [← hys]; rfl
    have hyb : ∀ k, k < 8 → BytesL (ys.getD k []) ∧ (ys.getD k []).length ≤ 10000 := by
      intro k hk
      have key : ∀ y ∈ ys, BytesL y ∧ y.length ≤ 10000 := by
        rw [← hys]
        intro y hy
        simp only [List.mem_cons, List.not_mem_nil, or_false] at hy
        rcases hy with rfl | rfl | rfl | rfl | rfl | rfl | rfl | rfl
        · exact ⟨hrb, by omega⟩
        · exact ⟨hbsb, by omega⟩
        · exact ⟨hcsb, by omega⟩
        · exact ⟨sealBytes hesb, by rw [sealC_len]; omega⟩
        · exact ⟨sealBytes hrb, by rw [sealC_len]; omega⟩
        · exact ⟨fun z hz => hbsb z (List.mem_of_mem_take hz), by rw [List.length_take]; omega⟩
        · exact ⟨bytesApp hbsb hrb, by rw [List.length_append]; omega⟩
        exact ⟨sealBytes (fun z hz => hbsb z (List.mem_of_mem_take hz)), by rw [sealC_len, List.length_take]; omega⟩
      refine key _ ?_
      rw [List.getD, List.getElem?_eq_getElem (by omega)]
      exact List.getElem_mem _
    have m96 : MemOk (cxt w0) w0 [(9, .dat (.slice _ 8 _) (.l 1 (([raw, bs, cs, sealC es, sealC raw, bs.take A, bs ++ raw, sealC (bs.take A)] : List (List Int)).map bD)))] _ := m95.ren [(9, 200)] (by decide)
    rw [hys] at m96
    refine wp_loop_ghost (fun g a w => ∃ (k : Nat) (p9 : Option Addr) (c9 : Nat), k ≤ 8 ∧ g = 8 - k ∧ Has 123 [(97, .slice p9 8 c9), (98, .int .i64 ((8 : Nat) : Int)), (99, .int .i64 (k : Int))] a ∧ MemOk (cxt w0) w0 [(9, .dat (.slice p9 8 c9) (.l 1 (ys.map bD)))] w) (8) ?_ ?_
    · exact ⟨0, _, _, Nat.zero_le _, rfl, Hz.only [97, 98, 99], m96⟩
    clear Hz m96
    rintro g Az w97 ⟨k, p9, c9, hkl, hg, Hz, m97⟩
    refine regS Hz (.lss rfl rfl <| .nil) fun Az Hz => ?_
    refine wp_seq_k (fun K11 hK11 => ?_)
    refine bc Hz 100 ?_ ?_
    ·
     intro hb99 Hz; try simp only [QQ, Qax] at hb99
     have hk : k < 8 := by have := hb99; first | omega | (simp at this; omega)
     refine wct Hz ?_
     refine zss (hK11 _ _ ?_); clear hK11
     refine wp_seq_k (fun K12 hK12 => ?_)
     refine wp_block ?_
     refine zsr fun K13 hK13 => ?_
     obtain ⟨b101, o101, vs101, hp101, hR101, ho101, m101⟩ := m97.openR (i := 9) rfl (k) (r := [.ns .u8 (ys.getD k [])]) (bD_get (by omega)) 300 rfl
     revert Hz
     cases hp101; clear m97 ho101
     rcases hR101 with _ | ⟨hd101_0, _ | _⟩
     obtain ⟨p102, c102, hv102, hc102⟩ := hd101_0.ns_shape; subst hv102
     intro Hz
     have m102 := m101.dat 301 rfl (hd101_0.cast (fun _ h => (free_add rfl h))); clear m101 hd101_0
     refine goCh Hz (.c rfl (fun _ h => y_idx h rfl rfl U32 fct10 (k) rfl hk) <| .loadC0 m102 (i := 300) rfl rfl U22 rfl <| .assign rfl <| .nil) fun Az Hz => ?_
     refine znl (hK13 _ _ ?_); clear hK13
     refine zsr fun K14 hK14 => ?_
     refine goCh Hz (.move rfl .nil) fun Az Hz => ?_
     refine plz (ecl Hz Tryd.func10 rfl (sread_any (ys.getD k []) _ _ _ (hT.below m102.below h01) (Nat.le_trans h01 m102.below.size) ((m102.rd (i := 301) rfl).any) (hyb k hk).1 (hyb k hk).2) ?_)
     rintro e w108 ⟨bl1, sz1, fr1, to1, its1, pa108, ca108, er1, rfl, hR1, hd108, hb108⟩
     have m109 := m102.callF 302 rfl hb108 hd108
     clear m102
     clear hb108 hd108
     refine ⟨_, rfl, ?_⟩; intro Az Hz
     refine goCh Hz (.move rfl <| .extract rfl rfl <| .extract rfl rfl <| .nil) fun Az Hz => ?_
     refine plz (e_alloc Hz m109 303 fct12 rfl fun g114 Az w115 Hz m115 _ _ => ?_)
     refine plz (e_storeW Hz m115 303 rfl rfl rfl rfl rfl fct11 fun w116 m116 _ => ?_)
     refine goCh Hz (.assign rfl .nil) fun Az Hz => ?_
     refine znl (hK14 _ _ ?_); clear hK14
     replace Hz : Has 123 [(97, _), (98, _), (99, _), (18, _), (19, _), (20, _)] Az := Hz.only [97, 98, 99, 18, 19, 20]
     refine zsr fun K15 hK15 => ?_
     refine goCh Hz (.move rfl .nil) fun Az Hz => ?_
     refine plz (ecl Hz Tryd.func11 rfl (rread_any _ (ys.getD k []) _ _ _ (hyb k hk).1 (hyb k hk).2 (m116.into [(1, 301)] (by decide) rfl)) ?_)
     rintro e w121 ⟨bl2, sz2, fr2, to2, its2, pa121, ca121, er2, rfl, hR2, hm121⟩
     have mx121 := m116.back hm121 [(301, 1), (304, 2)] (by decide); clear hm121 m116
     have m121 : MemOk _ _ [(301, _), (304, _), (9, _), (300, _), (302, _), (303, _)] _ := mx121.only [301, 304, 9, 300, 302, 303]; clear mx121
     refine ⟨_, rfl, ?_⟩; intro Az Hz
     have hitl := readIs_len hR2 (hyb k hk).2
     obtain ⟨q1, q2, q3, q4, q5, q6⟩ := ReadIs.one hR1 hR2
     clear hR1 hR2
     revert Hz
     revert Hz
     subst q1; subst q2; subst q3; subst q4; subst q5; subst q6
     intro Hz
     intro Hz
     refine goCh Hz (.move rfl <| .extract rfl rfl <| .extract rfl rfl <| .nil) fun Az Hz => ?_
     refine plz (e_alloc Hz m121 305 fct12 rfl fun g126 Az w127 Hz m127 _ _ => ?_)
     refine plz (e_storeW Hz m127 305 rfl rfl rfl rfl rfl fct11 fun w128 m128 _ => ?_)
     refine goCh Hz (.assign rfl .nil) fun Az Hz => ?_
     refine znl (hK15 _ _ ?_); clear hK15
     replace Hz : Has 123 [(97, _), (98, _), (99, _), (19, _), (20, _), (21, _), (22, _)] Az := Hz.only [97, 98, 99, 19, 20, 21, 22]
     refine zsr fun K16 hK16 => ?_
     refine goCh Hz (.move rfl <| .move rfl <| .neq rfl rfl <| .move rfl <| .nil) fun Az Hz => ?_
     refine bc Hz 116 ?_ ?_
     · intro hb _; exact absurd hb (by simp)
     clear Hz; intro _ Hz
     refine goCh Hz (.loadBRZ m128 (i := 303) rfl rfl U29 rfl fct11 (by simp) (by dsimp only [List.drop, List.take] <;> rfl) <| .loadBRZ m128 (i := 305) rfl rfl U29 rfl fct11 (by simp) (by dsimp only [List.drop, List.take] <;> rfl) <| .nil) fun Az Hz => ?_
     refine stz Hz (ecb Hz Tryd.func12 rfl m128 (rsame_yes21 _ _ _ _ _ _ _ _ _ _ _ _ ((m128.rd (i := 302) rfl).any) ((m128.rd (i := 304) rfl).any) (by omega)) fun Az w142 Hz m143 => ?_)
     refine goCh Hz (.notZ rfl <| .pickF rfl rfl <| .nil) fun Az Hz => ?_
     refine znl (hK16 _ _ ?_); clear hK16
     refine wcf Hz ?_
     refine zss (hK12 _ _ ?_); clear hK12
     replace Hz : Has 123 [(97, _), (98, _), (99, _)] Az := Hz.only [97, 98, 99]
     refine wp_region_lit ?_
     refine goCh Hz (.add rfl rfl (r := ((k + 1 : Nat) : Int)) (by rw [IntWalk.i64_in _ (by omega)]; omega) <| .move rfl <| .nil) fun Az Hz => ?_
     refine wpList_nil ?_
     show ∃ n', n' < _ ∧ _
     exact ⟨8 - (k + 1), by omega, k + 1, _, _, by omega, rfl, Hz.only [97, 98, 99], m143.only [9]⟩
    intro hb99 Hz; try simp only [QQ, Qax] at hb99
    refine wcf Hz ?_
    refine wp_exit ?_
    refine hK9 _ _ ?_; clear hK9
    refine regS Hz (.assign rfl <| .nil) fun Az Hz => ?_
    refine rtd (ret1 (fn := Tryd.f3) Hz rfl rfl ?_)
    exact ⟨rfl, m97.below⟩
   refine goA hP86 [0, 1, 2, 3, 5, 7, 8, 9, 10, 11, 12] 11 0 8111 Hz (m86.to ⟨il, il, il, trivial⟩) (.move rfl <| .move rfl <| .move rfl <| .move rfl <| .move rfl <| .move rfl <| .move rfl <| .conv rfl U23 U3 (r := (av : Int)) (IntWalk.i64_in _ (by omega)) <| .move rfl <| .len rfl U22 <| .rem rfl rfl (by omega) (r := (A : Int)) (by rw [Int.tmod_eq_emod_of_nonneg (by omega), ← hA]; simp) <| .nil) fun Az Hz => ?_
   have m162 := m86.takeN (i := 10) rfl (A) (show A ≤ bs.length by omega) 100 rfl
   have hcap162 := (m86.rd (i := 10) rfl).ns_out.cap; clear m86
   refine goA hP86 [13, 14, 16, 18, 19, 20, 21, 22, 23] 9 8111 16613295 Hz (m162.to ⟨il, il, il, trivial⟩) (.p (fun _ _ h => y_sliceHn h (A) rfl rfl U22 fct7 rfl (Nat.le_trans (show A ≤ bs.length by omega) hcap162.1)) <| .move rfl <| .move rfl <| .move rfl <| .move rfl <| .conv rfl U23 U3 (r := (av : Int)) (IntWalk.i64_in _ (by omega)) <| .move rfl <| .len rfl U22 <| .rem rfl rfl (by omega) (r := (A : Int)) (by rw [Int.tmod_eq_emod_of_nonneg (by omega), ← hA]; simp) <| .nil) fun Az Hz => ?_
   have m172 := m162.takeN (i := 10) rfl (A) (show A ≤ bs.length by omega) 101 rfl
   have hcap172 := (m162.rd (i := 10) rfl).ns_out.cap; clear m162
   refine goA hP86 [24, 28] 2 16613295 301825967 Hz (m172.to ⟨il, il, il, trivial⟩) (.p (fun _ _ h => y_sliceHn h (A) rfl rfl U22 fct7 rfl (Nat.le_trans (show A ≤ bs.length by omega) hcap172.1)) <| .move rfl <| .nil) fun Az Hz => ?_
   refine so 4 ?_
   refine ecn Hz Tryd.func9 rfl m172 102 (rseal_x _ _ _ ((m172.rd (i := 12) rfl).any) hesb (by omega)) fun p175 c175 Az w175 Hz m176 => ?_
   refine ⟨m176.to ⟨il, il, il, trivial⟩, ?_⟩
   refine so 6 ?_
   refine ecn Hz Tryd.func9 rfl m176 103 (rseal_x _ _ _ ((h1.now' m176 rfl).any) hrb (by omega)) fun p178 c178 Az w178 Hz m179 => ?_
   refine ⟨m179.to ⟨il, il, il, trivial⟩, ?_⟩
   refine so 15 ?_
   refine e_app0N Hz m179 104 rfl rfl (m179.nums (i := 10) rfl) U22 fct0 (by decide) (by omega) rfl fun p181 c181 Az w182 Hz m182 => ?_
   refine ⟨m182.to ⟨il, il, il, trivial⟩, ?_⟩
   refine so 17 ?_
   refine e_appN Hz m182 104 rfl rfl rfl (h1.now' m182 rfl).ns_out.nums U22 fct0 (by decide) (by omega) rfl fun p183 c183 Az w184 Hz m184 => ?_
   refine ⟨m184.to ⟨il, il, il, trivial⟩, ?_⟩
   refine so 25 ?_
   refine ecn Hz Tryd.func9 rfl m184 105 (rseal_x _ _ _ ((m184.rd (i := 101) rfl).any) (fun z hz => hbsb z (List.mem_of_mem_take hz)) (by rw [List.length_take]; omega)) fun p185 c185 Az w185 Hz m186 => ?_
   refine ⟨m186.to ⟨il, il, il, trivial⟩, ?_⟩
   refine ldl 335544319 ?_
   exact hD _ _ ⟨_, _, _, _, _, _, _, _, _, _, Hz.only [71, 72, 73, 75, 77, 84, 88, 96, 99], m186.ren [(10, 10), (11, 11), (20, 100), (21, 102), (22, 103), (23, 104), (24, 105)] (by decide)⟩
 skip
 rw [hds] at m82 Hz
 replace Hz : Has 123 [(0, _), (4, _), (5, _), (12, _), (28, _), (32, _), (13, _), (15, _), (16, _)] Az := Hz.only [0, 4, 5, 12, 28, 32, 13, 15, 16]
 refine wp_region_lit ?_
 refine goCh Hz (.move rfl <| .move rfl <| .conv rfl U23 U3 (r := (av : Int)) (IntWalk.i64_in _ (by omega)) <| .move rfl <| .len rfl U22 <| .rem rfl rfl (by omega) (r := (A2 : Int)) (by rw [Int.tmod_eq_emod_of_nonneg (by omega), ← hA9]; simp) <| .nil) fun Az Hz => ?_
 obtain ⟨g195, hpg195⟩ := m82.openO (i := 74) rfl (Nat.lt_of_le_of_lt (Nat.zero_le _) hA2)
 revert Hz
 cases hpg195
 intro Hz
 refine goCh Hz (.c rfl (fun _ h => y_idxO h rfl rfl U22 fct7 (A2) rfl hA2) <| .c rfl (fun _ h => y_loadO h m82 (i := 74) rfl rfl rfl hA2 U5 rfl) <| .move rfl <| .xor rfl rfl (r := (V2 : Int)) (show bits .xor .u8 _ _ = _ from by rw [hn2, u8_xor_nat _ _ hu2 (by omega), hV2]) <| .nil) fun Az Hz => ?_
 obtain ⟨g200, hpg200⟩ := m82.openO (i := 74) rfl (Nat.lt_of_le_of_lt (Nat.zero_le _) hA2)
 revert Hz
 cases hpg200
 intro Hz
 refine goCh Hz (.c rfl (fun _ h => y_idxO h rfl rfl U22 fct7 (A2) rfl hA2) .nil) fun Az Hz => ?_
 refine plz (e_storeO Hz m82 74 rfl rfl rfl rfl hA2 fct7 fun w202 m202 => ?_)
 refine wpList_nil ?_
 rw [hes] at m202
 have m203 := m202.freezeN 72 rfl; clear m202
 have m204 := m203.freezeN 74 rfl; clear m203
 show K8 _ _
 exact hC8 _ _ ⟨_, _, _, _, _, _, Hz.only [0, 4, 13, 15, 16], m204.ren [(10, 71), (11, 72), (12, 74)] (by decide)⟩
end Go.Proofs.YtodiklpfdfjikaaDoor.K
