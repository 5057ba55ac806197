/- General laws of walks. -/
import Derived.Test.YtmoghepeggohhaaDoorG2
import Derived.Test.YtmoghepeggohhaaDoorG1
import Derived.Deep.QuietTactic
namespace Go.Proofs.YtmoghepeggohhaaDoor.K
open Go.ChangeShapes Go.WideShapes Go.ChangeAt Go.RowKit
set_option linter.unusedVariables false
set_option linter.unusedSimpArgs false
section
theorem fl83pnw : flatS Tryd.prog 83 [.slice none 0 0, .int .i64 0] = true := by kernel_rfl
theorem inf26pnw : (Tryd.prog.info? 26).map (fun i => (i.zero, i.size, i.bytes)) = some (some (.slice none 0 0), 1, 24) := by kernel_rfl
theorem ps85pnw : placesS Tryd.prog 85 = some [(0, 2)] := by kernel_rfl
theorem zc83pnw : ((Tryd.prog.info? 83).bind (·.zero)).map (·.cells.toList) = some [.slice none 0 0, .int .i64 0] := by kernel_rfl
theorem zc85pnw : ((Tryd.prog.info? 85).bind (·.zero)).map (·.cells.toList) = some [.slice none 0 0, .int .i64 0] := by kernel_rfl



set_option maxRecDepth 100000
set_option maxHeartbeats 4000000
theorem pnew_f (X : Cx) (b : List Int) (p : Option Addr) (c : Nat) (w0 : World) (hb : b.length ≤ 1000000) (m0 : MemOk X w0 [(1, .dat (.slice p b.length c) (.ns .u8 b))] w0) :
   Calls Tryd.prog 18 #[.slice p b.length c] w0 fun e w' => ∃ (B : Nat) (p' : Option Addr) (c' : Nat), e = .returned (.pointer (some ⟨B, 0, none⟩)) ∧ MemOk X w0 [(1, .box B 85 [.slice p' (b).length c', .int .i64 0]), (2, .dat (.slice p' (b).length c') (.ns .u8 (b))), (3, .dat (.slice p b.length c) (.ns .u8 b))] w' := by
 refine enter (fn := Tryd.f18) Tryd.func18 rfl Tryd.ntmps18 rfl (fun Az Hz => ?_)
 simp only [List.zipIdx_cons, List.zipIdx_nil, List.map_cons, List.map_nil, Nat.reduceAdd, Nat.zero_add] at Hz
 refine regS Hz (.assign rfl <| .nil) ?_
 clear Hz Az; intro Az Hz
 refine wp_seq_k (fun K0 hK0 => ?_)
 refine wp_region_lit ?_
 refine goCh Hz (.move rfl .nil) ?_
 clear Hz Az; intro Az Hz
 refine wpList_plain rfl (fun K hK => ?_)
 refine e_litR Hz m0 20 (mm := 1) rfl (.cons rfl rfl (.cons (m0.rd (i := 1) rfl) .nil) <| .nil) Tryd.underlying71 inf26pnw rfl rfl rfl rfl rfl ?_
 clear Hz Az m0; intro g4 Az w5 Hz m5
 refine hK _ _ ?_; clear hK K
 have m6 := m5.freezeR 20 rfl; clear m5
 refine wpList_plain rfl (fun K hK => ?_)
 refine e_call Hz Tryd.func14 rfl rfl rfl rfl (pjoin_is (ls := [b]) (S := b) ((m6.rd (i := 20) rfl).any) (by simp) (by simp [sumLen]; omega) (by simp)) ?_
 rintro e w7 ⟨p7, c7, rfl, ho7, hb7⟩
 have m8 := m6.newN 21 hb7 ho7
 clear m6
 clear hb7 ho7
 refine ⟨_, rfl, ?_⟩; clear Hz Az; intro Az Hz
 refine hK _ _ ?_; clear hK K
 refine goCh Hz (.build rfl zc83pnw fl83pnw rfl (by dsimp only [setL, List.set] <;> rfl) <| .buildG rfl zc85pnw ps85pnw rfl <| .nil) ?_
 clear Hz Az; intro Az Hz
 refine wpList_plain rfl (fun K hK => ?_)
 refine e_box Hz m8 22 (cs := [_, _]) rfl rfl rfl ?_
 clear Hz Az m8; intro g12 Az w13 Hz m13 hB13 hg13
 clear hB13 hg13
 refine hK _ _ ?_; clear hK K
 refine goCh Hz (.assign rfl .nil) ?_
 clear Hz Az; intro Az Hz
 refine wpList_nil ?_
 refine hK0 _ _ ?_; clear hK0; try clear K0
 refine wp_ret ?_
 try dsimp only [Exit.then, Exit.inBlock]
 refine (ret1 (fn := Tryd.f18) Hz rfl rfl ?_)
 have m15 := m13.freezeN 21 rfl; clear m13
 exact ⟨_, _, _, rfl, m15.ren [(1, 22), (2, 21), (3, 1)] (by decide)⟩
theorem pleft_x (X : Cx) (B : Nat) (b : List Int) (er : Int) (p : Option Addr) (c : Nat) (w0 : World) (m0 : MemOk X w0 [(1, .box B 85 [.slice p (b).length c, .int .i64 er]), (2, .dat (.slice p (b).length c) (.ns .u8 (b)))] w0) :
   Calls Tryd.prog 41 #[.pointer (some ⟨B, 0, none⟩)] w0 fun e w' => e = .returned (.int .i64 (b.length : Int)) ∧ MemOk X w0 [(1, .box B 85 [.slice p (b).length c, .int .i64 er]), (2, .dat (.slice p (b).length c) (.ns .u8 (b)))] w' := by
 refine enter (fn := Tryd.f41) Tryd.func41 rfl Tryd.ntmps41 rfl (fun Az Hz => ?_)
 simp only [List.zipIdx_cons, List.zipIdx_nil, List.map_cons, List.map_nil, Nat.reduceAdd, Nat.zero_add] at Hz
 refine regS Hz (.assign rfl <| .nil) ?_
 clear Hz Az; intro Az Hz
 refine regS Hz (.move rfl <| .nilCheck rfl <| .fieldAddr (off := 0) rfl Tryd.underlying85 rfl (s := 1) (by kernel_rfl) rfl <| .fieldAddr (off := 0) rfl Tryd.underlying83 rfl (s := 0) (by kernel_rfl) rfl <| .loadB1 m0 (i := 1) rfl rfl rfl Tryd.underlying26 rfl <| .len rfl Tryd.underlying26 <| .assign rfl <| .nil) ?_
 clear Hz Az; intro Az Hz
 refine wp_ret ?_
 try dsimp only [Exit.then, Exit.inBlock]
 refine (ret1 (fn := Tryd.f41) Hz rfl rfl ?_)
 exact ⟨rfl, m0.only [1, 2]⟩
theorem perr_x (X : Cx) (B : Nat) (b : List Int) (er : Int) (p : Option Addr) (c : Nat) (w0 : World) (m0 : MemOk X w0 [(1, .box B 85 [.slice p (b).length c, .int .i64 er]), (2, .dat (.slice p (b).length c) (.ns .u8 (b)))] w0) :
   Calls Tryd.prog 40 #[.pointer (some ⟨B, 0, none⟩)] w0 fun e w' => e = .returned (.int .i64 er) ∧ MemOk X w0 [(1, .box B 85 [.slice p (b).length c, .int .i64 er]), (2, .dat (.slice p (b).length c) (.ns .u8 (b)))] w' := by
 refine enter (fn := Tryd.f40) Tryd.func40 rfl Tryd.ntmps40 rfl (fun Az Hz => ?_)
 simp only [List.zipIdx_cons, List.zipIdx_nil, List.map_cons, List.map_nil, Nat.reduceAdd, Nat.zero_add] at Hz
 refine regS Hz (.assign rfl <| .nil) ?_
 clear Hz Az; intro Az Hz
 refine regS Hz (.move rfl <| .nilCheck rfl <| .fieldAddr (off := 0) rfl Tryd.underlying85 rfl (s := 1) (by kernel_rfl) rfl <| .fieldAddr (off := 1) rfl Tryd.underlying83 rfl (s := 0) (by kernel_rfl) rfl <| .loadB1 m0 (i := 1) rfl rfl rfl Tryd.underlying31 rfl <| .assign rfl <| .nil) ?_
 clear Hz Az; intro Az Hz
 refine wp_ret ?_
 try dsimp only [Exit.then, Exit.inBlock]
 refine (ret1 (fn := Tryd.f40) Hz rfl rfl ?_)
 exact ⟨rfl, m0.only [1, 2]⟩
theorem pnum_e {b y : List Int} {er mx a er2 : Int} (hN : numR b er mx = (a, y, er2)) (X : Cx) (B : Nat) (p : Option Addr) (c : Nat) (w0 : World) (hb : b.length ≤ 1000000) (hbb : BytesL b) (m0 : MemOk X w0 [(1, .box B 85 [.slice p (b).length c, .int .i64 er]), (2, .dat (.slice p (b).length c) (.ns .u8 (b)))] w0) :
   Calls Tryd.prog 35 #[.pointer (some ⟨B, 0, none⟩), .int .u64 mx] w0 fun e w' => ∃ (p' : Option Addr) (c' : Nat), e = .returned (.int .u64 a) ∧ MemOk X w0 [(1, .box B 85 [.slice p' (y).length c', .int .i64 er2]), (2, .dat (.slice p' (y).length c') (.ns .u8 (y)))] w' := by
 have h := pnum_x X B b er mx p c w0 hb hbb m0
 rw [hN] at h
 exact h
end
section
def timeOk (n low : Int) : Bool := decide (low ≤ n ∧ n ≤ 1099511627776)
theorem time_any (n low : Int) (w : World) :
   Calls Tryd.prog 44 #[.int .i64 n, .int .i64 low] w fun e w' => e = .returned (.bool (timeOk n low)) ∧ w' = w := by
 by_cases h1 : low ≤ n
 · by_cases h2 : n ≤ 1099511627776
   · go_enter Tryd.func44, Tryd.ntmps44
     go_wp2
     go_ret
     exact ⟨ret_bool (by simp [timeOk, h1, h2]), rfl⟩
   · go_enter Tryd.func44, Tryd.ntmps44
     go_wp2
     go_ret
     exact ⟨ret_bool (by simp [timeOk]; omega), rfl⟩
 · go_enter Tryd.func44, Tryd.ntmps44
   go_wp2
   go_ret
   exact ⟨ret_bool (by simp [timeOk]; omega), rfl⟩

def dataOk (k : Int) (d : List Int) : Bool :=
 if k = 0 then decide (d.length = 0) else if k = 1 then decide (d.length ≤ 32767) else if k = 2 then decide (d.length = 2 ∧ d.getD 0 0 < 7 ∧ d.getD 1 0 ≤ 1) else false
def entV (i t k : Int) (v : Value) : Value := .agg #[.int .i64 i, .int .i64 t, .int .i64 k, v]
def entOk (i t k : Int) (d : List Int) : Bool := timeOk i 1 && timeOk t 0 && dataOk k d
set_option maxRecDepth 100000 in
set_option maxHeartbeats 1000000 in
theorem nums_any (v : Value) (ns : List Int) (w : World) (hv : IsNums .i64 w v ns) (hb : ∀ j, j < ns.length → 0 ≤ ns.getD j 0 ∧ ns.getD j 0 ≤ 9223372036854775807) (hl : ns.length ≤ 1000) :
   Calls Tryd.prog 9 #[v] w fun e w' => ∃ u, e = .returned u ∧ w'.ownsRow w.heap.size 5 1 u (encs ns).length ((encs ns).map (Value.int .u8)) ∧ Below w.heap.size w w' := by
 obtain ⟨a, c, rfl, hd⟩ := hv
 have HD := Lib.hid hd
 have HB := Lib.hid hb
 clear hd hb
 go_enter Tryd.func9, Tryd.ntmps9
 go_wp2
 go_loopw [3, 8] (fun u i wr => ∃ k : Nat, k ≤ ns.length ∧ i = .int .i64 k ∧ wr.ownsRow w.heap.size 5 1 u (encs (ns.take k)).length ((encs (ns.take k)).map (Value.int .u8)) ∧ Below w.heap.size w wr) (fun _ i _ => ns.length - (intOf i).toNat)
 case atStart => exact ⟨0, Nat.zero_le _, rfl, World.ownsRow_nil _ _ _ _, Below.refl _ _⟩
 case round =>
   obtain ⟨k, hk, rfl, hown, hbel⟩ := hrel
   by_cases hlt : k < ns.length
   · obtain hz | ⟨b, off, rfl, hblt, hc⟩ := HD.out
     · omega
     have hck := hc k hlt
     have hbk := HB.out k hlt
     have hst := encs_snoc ns k hlt
     have htl : (encs (ns.take k)).length ≤ 10 * (ns.take k).length := encs_len _
     have htk := len_take_le ns k
     obtain ⟨x, hx⟩ : ∃ x, ns.getD k 0 = x := ⟨_, rfl⟩
     rw [hx] at hck hbk hst
     obtain ⟨L, hL⟩ : ∃ L, encs (ns.take k) = L := ⟨_, rfl⟩
     rw [hL] at hst hown htl
     have hcr : wr.cell? ⟨b, off + k, none⟩ = some (.int .i64 x) := by rw [hbel.cell hblt]; exact hck
     have hwx : IntKind.u64.wrap x = x := by rw [IntKind.wrap_u64]; omega
     obtain ⟨p3, c3, hu3⟩ := ownsRow_shape hown
     subst hu3
     have HO := Lib.hid hown
     have HBL := Lib.hid hbel
     have HST := Lib.hid hst
     have HTL : Hid (L.length ≤ 10000) := Lib.hid (by omega)
     have HXB := Lib.hid hbk
     have hkI : (k : Int) < ns.length := by omega
     have hkM : (k : Int) ≤ 1000 := by omega
     have hlI : (ns.length : Int) ≤ 1000 := by omega
     clear hck hbk hst htl htk hx hL hown hbel hc
     go_wp2_with fail
     have hn1 : IsNums .u64 (wr.alloc (.cells #[.int .u64 x] 66)) (.slice (some ⟨wr.heap.size, 0, none⟩) 1 1) [x] := IsNums.lit .u64 wr [x] wr.heap.size 66 1 1 rfl rfl
     refine (put_any _ [x] _ hn1 (fun j hj => by have := HXB.out; match j, hj with | 0, _ => exact ⟨this.1, by show x ≤ _; omega⟩) (by simp)).mono ?_
     rintro e w2 ⟨u2, rfl, ho2, hb2⟩
     rw [show encs [x] = enc x by simp [encs]] at ho2
     have hn2 : IsNums .u8 w2 u2 (enc x) := IsNums.ofOwn ho2
     have hel := enc_len x
     have hb2' : Below w.heap.size w w2 := (HBL.out.alloc HBL.out.size (.cells #[.int .u64 x] 66)).trans (hb2.mono (by have := HBL.out.size; simp; omega))
     have ho3 := own_keep (own_keep HO.out (Keep.alloc (fun _ => False) wr (.cells #[.int .u64 x] 66)) (fun _ _ h => h)) (Keep.ofBelow (bad := fun _ => False) hb2) (fun _ _ h => h)
     obtain ⟨p2, c2, hu2⟩ := ownsRow_shape ho2
     subst hu2
     have HN2 := Lib.hid hn2
     have HEL := Lib.hid hel
     have B2 := Lib.hid hb2'
     have O3 := Lib.hid ho3
     clear ho2 hn2 hel hb2 hb2' ho3 hn1 hcr
     go_wp2_with (at_builtin; (refine wpList_appN rfl (.tmp 12) (.tmp 16) 26 rfl w.heap.size 5 .u8 1 Tryd.underlying26 info_u8 (by omega) _ L.length _ rfl O3.out _ (enc x) rfl HN2.out (by have := HEL.out; have := HTL.out; omega) B2.out.size ?_); intro v4 w4 hown4 hb4; have O4 := Lib.hid hown4; have B4 := Lib.hid hb4; clear hown4 hb4)
     go_roundw
     case rel =>
       refine ⟨k + 1, by omega, by go_num, ?_, B2.out.trans B4.out⟩
       rw [HST.out, List.length_append, List.map_append]
       exact O4.out
     case measure => simp [intOf]; omega
   · obtain rfl : k = ns.length := by omega
     rw [List.take_length] at hown
     go_wp2
     go_ret
     exact ⟨_, rfl, hown, hbel⟩
end
section
def entB (i t k : Int) (d : List Int) : List Int := encs [i, t, k] ++ (enc d.length ++ d)
def entP (i t k : Int) (d : List Int) : List Int := if entOk i t k d then entB i t k d else []
end
section
def entR (bs : List Int) (e : Int) : (Int × Int × Int × List Int) × List Int × Int :=
 (((numR bs e 1099511627776).1, (numR (numR bs e 1099511627776).2.1 (numR bs e 1099511627776).2.2 1099511627776).1,
   (numR (numR (numR bs e 1099511627776).2.1 (numR bs e 1099511627776).2.2 1099511627776).2.1 (numR (numR bs e 1099511627776).2.1 (numR bs e 1099511627776).2.2 1099511627776).2.2 2).1,
   (lumpR (numR (numR (numR bs e 1099511627776).2.1 (numR bs e 1099511627776).2.2 1099511627776).2.1 (numR (numR bs e 1099511627776).2.1 (numR bs e 1099511627776).2.2 1099511627776).2.2 2).2.1 (numR (numR (numR bs e 1099511627776).2.1 (numR bs e 1099511627776).2.2 1099511627776).2.1 (numR (numR bs e 1099511627776).2.1 (numR bs e 1099511627776).2.2 1099511627776).2.2 2).2.2 32767).1),
   (lumpR (numR (numR (numR bs e 1099511627776).2.1 (numR bs e 1099511627776).2.2 1099511627776).2.1 (numR (numR bs e 1099511627776).2.1 (numR bs e 1099511627776).2.2 1099511627776).2.2 2).2.1 (numR (numR (numR bs e 1099511627776).2.1 (numR bs e 1099511627776).2.2 1099511627776).2.1 (numR (numR bs e 1099511627776).2.1 (numR bs e 1099511627776).2.2 1099511627776).2.2 2).2.2 32767).2)
def entROk (bs : List Int) (e : Int) : Bool := decide ((entR bs e).2.2 = 0) && entOk (entR bs e).1.1 (entR bs e).1.2.1 (entR bs e).1.2.2.1 (entR bs e).1.2.2.2
def entRV (bs : List Int) (e : Int) : Int × Int × Int × List Int := if entROk bs e then (entR bs e).1 else (0, 0, 0, [])
def EntReadPost (w : World) (B : Nat) (bs : List Int) (e : Int) (en : Ending) (w' : World) : Prop :=
 ∃ u, en = .returned (.tuple #[entV (entRV bs e).1 (entRV bs e).2.1 (entRV bs e).2.2.1 u, .bool (entROk bs e)]) ∧ w'.ownsRow w.heap.size 5 1 u (entRV bs e).2.2.2.length ((entRV bs e).2.2.2.map (Value.int .u8)) ∧ (∃ v', IsReader w' B v' (entR bs e).2.1 (entR bs e).2.2) ∧ Only B w w'
end
section
def okB (n : Int) : Bool := decide (0 ≤ n ∧ n < 7)
theorem maybe_any (n : Int) (w : World) : Calls Tryd.prog 50 #[.int .i64 n] w fun e w' => e = .returned (.bool (okB n)) ∧ w = w' := by
 by_cases h : 0 ≤ n
 · by_cases h7 : n < 7
   · go_enter Tryd.func50, Tryd.ntmps50
     go_wp2
     go_ret
     exact ⟨ret_bool (by simp [okB, h, h7]), rfl⟩
   · go_enter Tryd.func50, Tryd.ntmps50
     go_wp2
     go_ret
     exact ⟨ret_bool (by simp [okB, h7]), rfl⟩
 · go_enter Tryd.func50, Tryd.ntmps50
   go_wp2
   go_ret
   exact ⟨ret_bool (by simp [okB]; omega), rfl⟩
def rightB (l : List Int) : Bool := decide (0 < l.length ∧ ∀ j, j < l.length → okB (l.getD j 0) = true ∧ (0 < j → l.getD (j - 1) 0 < l.getD j 0))
theorem right_no (l : List Int) (k : Nat) (h : k < l.length) (hn : ¬ (okB (l.getD k 0) = true ∧ (0 < k → l.getD (k - 1) 0 < l.getD k 0))) : rightB l = false := by
 unfold rightB
 rw [decide_eq_false_iff_not]
 exact fun h2 => hn (h2.2 k h)
set_option maxRecDepth 100000 in
set_option maxHeartbeats 2000000 in
theorem right_any (v : Value) (l : List Int) (w : World) (hv : IsNums .i64 w v l) (hl : l.length ≤ 900) :
   Calls Tryd.prog 46 #[v] w fun e w' => e = .returned (.bool (rightB l)) ∧ w = w' := by
 obtain ⟨p, c, rfl, h⟩ := hv
 have H := Lib.hid h
 clear h
 go_enter Tryd.func46, Tryd.ntmps46
 go_wp2
 go_loop [7] (fun i => ∃ k : Nat, k ≤ l.length ∧ i = .int .i64 k ∧ ∀ j, j < k → okB (l.getD j 0) = true ∧ (0 < j → l.getD (j - 1) 0 < l.getD j 0)) (fun i => l.length - (intOf i).toNat)
 case atStart => exact ⟨0, Nat.zero_le _, rfl, fun j hj => absurd hj (by omega)⟩
 case round =>
   obtain ⟨k, hk, rfl, hall⟩ := hrel
   have HA := Lib.hid hall
   clear hall
   by_cases hlt : k < l.length
   · obtain h0 | ⟨b, off, rfl, hblk, hcell⟩ := H.out
     · omega
     have hc := hcell k hlt
     have hcp := hcell (k - 1) (by omega)
     have hno := right_no l k hlt
     have hstep : (okB (l.getD k 0) = true ∧ (0 < k → l.getD (k - 1) 0 < l.getD k 0)) → ∀ j, j < k + 1 → okB (l.getD j 0) = true ∧ (0 < j → l.getD (j - 1) 0 < l.getD j 0) := by
       intro h j hj
       by_cases e : j = k
       · subst e; exact h
       · exact HA.out j (by omega)
     have HST := Lib.hid hstep
     clear hstep
     obtain ⟨x, hx⟩ : ∃ x, l.getD k 0 = x := ⟨_, rfl⟩
     obtain ⟨y, hy⟩ : ∃ y, l.getD (k - 1) 0 = y := ⟨_, rfl⟩
     rw [hx] at hc hno
     rw [hy] at hcp hno
     have HX := Lib.hid hx
     have HY := Lib.hid hy
     have HN := Lib.hid hno
     clear hcell hx hy hno
     cases hok : okB x with
     | false =>
       have hr : rightB l = false := HN.out (fun h => by rw [hok] at h; exact absurd h.1 (by simp))
       have HR := Lib.hid hr
       clear hr hcp
       go_wp2_with (go_at_call 50; ((with_reducible refine (maybe_any _ _).mono ?_); rintro e w' ⟨rfl, rfl⟩))
       go_ret
       exact ⟨ret_bool HR.out.symm, rfl⟩
     | true =>
       by_cases h0 : k ≤ 0
       · clear hcp
         go_wp2_with (go_at_call 50; ((with_reducible refine (maybe_any _ _).mono ?_); rintro e w' ⟨rfl, rfl⟩))
         go_round
         case rel => exact ⟨k + 1, by omega, by go_num, HST.out ⟨by rw [HX.out]; exact hok, fun h => absurd h (by omega)⟩⟩
         case measure => simp [intOf]; omega
       · obtain ⟨m, rfl⟩ : ∃ m, k = m + 1 := ⟨k - 1, by omega⟩
         simp only [Nat.add_sub_cancel] at hcp HY HN HST
         have ei : ((m + 1 : Nat) : Int) - 1 = m := by omega
         by_cases hxy : x ≤ y
         · have hr : rightB l = false := HN.out (fun h => by have := h.2 (by omega); omega)
           have HR := Lib.hid hr
           clear hr
           go_wp2_with (go_at_call 50; ((with_reducible refine (maybe_any _ _).mono ?_); rintro e w' ⟨rfl, rfl⟩))
           go_ret
           exact ⟨ret_bool HR.out.symm, rfl⟩
         · go_wp2_with (go_at_call 50; ((with_reducible refine (maybe_any _ _).mono ?_); rintro e w' ⟨rfl, rfl⟩))
           go_round
           case rel => exact ⟨m + 1 + 1, by omega, by go_num, HST.out ⟨by rw [HX.out]; exact hok, fun h => by rw [HX.out]; show l.getD m 0 < x; rw [HY.out]; omega⟩⟩
           case measure => simp [intOf]; omega
   · obtain rfl : k = l.length := by omega
     go_wp2
     go_ret
     refine ⟨ret_bool ?_, rfl⟩
     unfold rightB
     rw [Bool.eq_iff_iff]
     simp only [decide_eq_true_eq]
     exact ⟨fun h => ⟨by omega, HA.out⟩, fun h => by omega⟩

def baseV (i t : Int) (vc vd : Value) : Value := .agg #[.int .i64 i, .int .i64 t, vc, vd]
def baseOk (i t : Int) (cf : List Int) (d : List Int) : Bool := timeOk i 0 && timeOk t 0 && rightB cf && decide (d.length ≤ 32767)
set_option maxRecDepth 100000 in
theorem baseRight_any (i t : Int) (vc vd : Value) (cf d : List Int) (w : World) (hc : IsNums .i64 w vc cf) (hv : IsNums .u8 w vd d) (hl : cf.length ≤ 900) :
   Calls Tryd.prog 30 #[baseV i t vc vd] w fun e w' => e = .returned (.bool (baseOk i t cf d)) ∧ Below w.heap.size w w' := by
 have hb := (Below.refl w.heap.size w).alloc (Nat.le_refl _) (.cells #[.int .i64 i, .int .i64 t, vc, vd] 28)
 have hx := Blk.alloc w 28 #[.int .i64 i, .int .i64 t, vc, vd]
 have hn := hc.alloc (.cells #[.int .i64 i, .int .i64 t, vc, vd] 28)
 obtain ⟨ac, cc, rfl, -⟩ := id hc
 obtain ⟨ad, cd, rfl, -⟩ := id hv
 obtain ⟨n, hnl⟩ : ∃ n, d.length = n := ⟨_, rfl⟩
 rw [hnl] at hb hx hn ⊢
 have x0 := hx.cell 0
 have x1 := hx.cell 1
 have x2 := hx.cell 2
 have x3 := hx.cell 3
 have B := Lib.hid hb
 have HNN := Lib.hid hn
 unfold baseV
 have hz : baseOk i t cf d = (timeOk i 0 && timeOk t 0 && rightB cf && decide (n ≤ 32767)) := by unfold baseOk; rw [hnl]
 rw [hz]
 clear hz hb hx hn hc hv hnl
 cases h1 : timeOk i 0 with
 | false =>
   have H1 := Lib.hid h1
   clear h1
   go_enter Tryd.func30, Tryd.ntmps30
   go_wp2_with fail
   refine (time_any i 0 _).mono ?_
   rintro e w1 ⟨rfl, rfl⟩
   rw [H1.out]
   go_wp2
   go_ret
   exact ⟨rfl, B.out⟩
 | true =>
   have H1 := Lib.hid h1
   clear h1
   cases h2 : timeOk t 0 with
   | false =>
     have H2 := Lib.hid h2
     clear h2
     go_enter Tryd.func30, Tryd.ntmps30
     go_wp2_with fail
     refine (time_any i 0 _).mono ?_
     rintro e w1 ⟨rfl, rfl⟩
     rw [H1.out]
     go_wp2_with fail
     refine (time_any t 0 _).mono ?_
     rintro e w1 ⟨rfl, rfl⟩
     rw [H2.out]
     go_wp2
     go_ret
     exact ⟨rfl, B.out⟩
   | true =>
     have H2 := Lib.hid h2
     clear h2
     cases h3 : rightB cf with
     | false =>
       have H3 := Lib.hid h3
       clear h3
       go_enter Tryd.func30, Tryd.ntmps30
       go_wp2_with fail
       refine (time_any i 0 _).mono ?_
       rintro e w1 ⟨rfl, rfl⟩
       rw [H1.out]
       go_wp2_with fail
       refine (time_any t 0 _).mono ?_
       rintro e w1 ⟨rfl, rfl⟩
       rw [H2.out]
       go_wp2_with fail
       refine (right_any _ cf _ HNN.out hl).mono ?_
       rintro e w1 ⟨rfl, rfl⟩
       rw [H3.out]
       go_wp2
       go_ret
       exact ⟨rfl, B.out⟩
     | true =>
       have H3 := Lib.hid h3
       clear h3
       by_cases hn : n ≤ 32767
       · have hnI : (n : Int) ≤ 32767 := by omega
         go_enter Tryd.func30, Tryd.ntmps30
         go_wp2_with fail
         refine (time_any i 0 _).mono ?_
         rintro e w1 ⟨rfl, rfl⟩
         rw [H1.out]
         go_wp2_with fail
         refine (time_any t 0 _).mono ?_
         rintro e w1 ⟨rfl, rfl⟩
         rw [H2.out]
         go_wp2_with fail
         refine (right_any _ cf _ HNN.out hl).mono ?_
         rintro e w1 ⟨rfl, rfl⟩
         rw [H3.out]
         go_wp2
         go_ret
         exact ⟨ret_bool (by simp; exact hn), B.out⟩
       · have hnI : ¬ (n : Int) ≤ 32767 := by omega
         go_enter Tryd.func30, Tryd.ntmps30
         go_wp2_with fail
         refine (time_any i 0 _).mono ?_
         rintro e w1 ⟨rfl, rfl⟩
         rw [H1.out]
         go_wp2_with fail
         refine (time_any t 0 _).mono ?_
         rintro e w1 ⟨rfl, rfl⟩
         rw [H2.out]
         go_wp2_with fail
         refine (right_any _ cf _ HNN.out hl).mono ?_
         rintro e w1 ⟨rfl, rfl⟩
         rw [H3.out]
         go_wp2
         go_ret
         exact ⟨ret_bool (by simp; omega), B.out⟩
end
section
set_option maxRecDepth 100000 in
theorem eqInts_any (w : World) (u v : Value) (xs ys : List Int) (hu : IsNums .i64 w u xs) (hv : IsNums .i64 w v ys) (hl : xs.length ≤ 1000000) :
   Calls Tryd.prog 42 #[u, v] w fun e w' => e = .returned (.bool (decide (xs = ys))) ∧ Below w.heap.size w w' := by
 obtain ⟨p, c, rfl, hx⟩ := hu
 obtain ⟨q, c', rfl, hy⟩ := hv
 by_cases hn : xs.length = ys.length
 · have HX := Lib.hid hx
   have HY := Lib.hid hy
   obtain ⟨n, hnn⟩ : ∃ n, xs.length = n := ⟨_, rfl⟩
   have hyn : ys.length = n := by omega
   rw [hnn] at hl ⊢
   rw [hyn]
   have HXN := Lib.hid hnn
   have HYN := Lib.hid hyn
   have hlI : (n : Int) ≤ 1000000 := by omega
   clear hx hy hn hnn hyn
   go_enter Tryd.func42, Tryd.ntmps42
   go_wp2
   go_loopw [13] (fun i wr => ∃ k : Nat, k ≤ n ∧ i = .int .i64 k ∧ (∀ j, j < k → xs.getD j 0 = ys.getD j 0) ∧ Below w.heap.size w wr) (fun i _ => n - (intOf i).toNat)
   case atStart => exact ⟨0, Nat.zero_le _, rfl, fun j hj => absurd hj (Nat.not_lt_zero _), Below.refl _ _⟩
   case round =>
     obtain ⟨k, hk, rfl, heq, hbel⟩ := hrel
     by_cases hlt : k < n
     · obtain h0 | ⟨b, o, rfl, hb, hc⟩ := HX.out
       · have := HXN.out; omega
       obtain h0 | ⟨b', o', rfl, hb', hc'⟩ := HY.out
       · have := HYN.out; omega
       have c1 := hc k (by have := HXN.out; omega)
       have c2 := hc' k (by have := HYN.out; omega)
       obtain ⟨x, hxe⟩ : ∃ x, xs.getD k 0 = x := ⟨_, rfl⟩
       obtain ⟨y, hye⟩ : ∃ x, ys.getD k 0 = x := ⟨_, rfl⟩
       rw [hxe] at c1
       rw [hye] at c2
       have d1 : wr.cell? ⟨b, o + k, none⟩ = some (.int .i64 x) := by rw [hbel.cell hb]; exact c1
       have d2 : wr.cell? ⟨b', o' + k, none⟩ = some (.int .i64 y) := by rw [hbel.cell hb']; exact c2
       have HEQ := Lib.hid heq
       have HBL := Lib.hid hbel
       have HXE := Lib.hid hxe
       have HYE := Lib.hid hye
       have hkI : (k : Int) < n := by omega
       clear hc hc' c1 c2 heq hbel hxe hye
       by_cases q : x = y
       · subst q
         go_wp2_with fail
         go_quiet (fail)
         go_wp2
         go_roundw
         case rel => exact ⟨k + 1, by omega, by go_num, fun j hj => (by
             by_cases e : j = k
             · rw [e, HXE.out, HYE.out]
             · exact HEQ.out j (by omega)), HBL.out.trans ⟨rfl, rfl, rfl, Nat.le_refl _, fun _ _ => rfl⟩⟩
         case measure => simp [intOf]; omega
       · have q2 : (x == y) = false := by rw [beq_eq_false_iff_ne]; exact q
         have Q := Lib.hid q
         go_wp2_with fail
         go_quiet (fail)
         go_wp2
         go_ret
         exact ⟨ret_bool (by first | rfl | (symm; rw [decide_eq_false_iff_not]; intro h; exact Q.out (by rw [← HXE.out, ← HYE.out, h]))), HBL.out.trans ⟨rfl, rfl, rfl, Nat.le_refl _, fun _ _ => rfl⟩⟩
     · obtain rfl : k = n := by omega
       have HEQ := Lib.hid heq
       have HBL := Lib.hid hbel
       clear heq hbel
       go_wp2
       go_ret
       refine ⟨ret_bool ?_, HBL.out⟩
       symm
       rw [decide_eq_true_iff]
       refine List.ext_getElem? fun j => ?_
       by_cases hj : j < k
       · have := HEQ.out j hj
         rw [List.getD_eq_getElem?_getD, List.getD_eq_getElem?_getD, List.getElem?_eq_getElem (by rw [HXN.out]; exact hj), List.getElem?_eq_getElem (by rw [HYN.out]; exact hj)] at this
         rw [List.getElem?_eq_getElem (by rw [HXN.out]; exact hj), List.getElem?_eq_getElem (by rw [HYN.out]; exact hj)]
         exact congrArg some this
       · rw [List.getElem?_eq_none (by rw [HXN.out]; omega), List.getElem?_eq_none (by rw [HYN.out]; omega)]
 · have hnI : ¬ (xs.length : Int) = ys.length := by omega
   have hne : decide (xs = ys) = false := by rw [decide_eq_false_iff_not]; intro h; exact hn (by rw [h])
   rw [hne]
   clear hx hy hne hl
   go_enter Tryd.func42, Tryd.ntmps42
   go_wp2
   go_ret
   exact ⟨rfl, Below.refl _ _⟩

set_option maxRecDepth 100000 in
set_option maxHeartbeats 1000000 in
theorem baseSame_any (i t i' t' : Int) (vc vd vc' vd' : Value) (cf d cf' d' : List Int) (w : World) (hc : IsNums .i64 w vc cf) (hc' : IsNums .i64 w vc' cf') (hv : IsNums .u8 w vd d) (hv' : IsNums .u8 w vd' d') (hd : ∀ x ∈ d, 0 ≤ x ∧ x ≤ 255) (hd' : ∀ x ∈ d', 0 ≤ x ∧ x ≤ 255) (hl : cf.length ≤ 1000000) :
   Calls Tryd.prog 23 #[baseV i t vc vd, baseV i' t' vc' vd'] w fun e w' => e = .returned (.bool (decide ((i, t, cf, d) = (i', t', cf', d')))) ∧ Below w.heap.size w w' := by
 obtain ⟨a, c, rfl, -⟩ := id hv
 obtain ⟨a', c', rfl, -⟩ := id hv'
 obtain ⟨ac, cc, rfl, -⟩ := id hc
 obtain ⟨ac', cc', rfl, -⟩ := id hc'
 obtain ⟨n, hn⟩ : ∃ n, d.length = n := ⟨_, rfl⟩
 obtain ⟨n', hn'⟩ : ∃ n, d'.length = n := ⟨_, rfl⟩
 obtain ⟨m, hm⟩ : ∃ n, cf.length = n := ⟨_, rfl⟩
 obtain ⟨m', hm'⟩ : ∃ n, cf'.length = n := ⟨_, rfl⟩
 rw [hn] at hv ⊢
 rw [hn'] at hv' ⊢
 rw [hm] at hc ⊢
 rw [hm'] at hc' ⊢
 have hb := ((Below.refl w.heap.size w).alloc (Nat.le_refl _) (.cells #[.int .i64 i, .int .i64 t, .slice ac m cc, .slice a n c] 28))
 have hx := Blk.alloc w 28 #[.int .i64 i, .int .i64 t, .slice ac m cc, .slice a n c]
 obtain ⟨w1, hw1⟩ : ∃ x, w.alloc (.cells #[.int .i64 i, .int .i64 t, .slice ac m cc, .slice a n c] 28) = x := ⟨_, rfl⟩
 rw [hw1] at hb hx
 have hb2 := hb.alloc hb.size (.cells #[.int .i64 i', .int .i64 t', .slice ac' m' cc', .slice a' n' c'] 28)
 have hy := Blk.alloc w1 28 #[.int .i64 i', .int .i64 t', .slice ac' m' cc', .slice a' n' c']
 have hx2 := hx.below ((Below.refl w1.heap.size w1).alloc (Nat.le_refl _) (.cells #[.int .i64 i', .int .i64 t', .slice ac' m' cc', .slice a' n' c'] 28)) hx.lt
 obtain ⟨w2, hw2⟩ : ∃ x, w1.alloc (.cells #[.int .i64 i', .int .i64 t', .slice ac' m' cc', .slice a' n' c'] 28) = x := ⟨_, rfl⟩
 rw [hw2] at hb2 hy hx2
 have x0 := hx2.cell 0
 have x1 := hx2.cell 1
 have x2 := hx2.cell 2
 have x3 := hx2.cell 3
 have y0 := hy.cell 0
 have y1 := hy.cell 1
 have y2 := hy.cell 2
 have y3 := hy.cell 3
 have XX := Lib.hid hx2
 have YY := Lib.hid hy
 have B := Lib.hid hb2
 have V := Lib.hid (hv.below hb2 (Nat.le_refl _))
 have V' := Lib.hid (hv'.below hb2 (Nat.le_refl _))
 have C := Lib.hid (hc.below hb2 (Nat.le_refl _))
 have C' := Lib.hid (hc'.below hb2 (Nat.le_refl _))
 have HD := Lib.hid hd
 have HD' := Lib.hid hd'
 unfold baseV
 clear hv hv' hb hx hb2 hy hx2 hd hd' hn hn' hc hc' hm hm'
 by_cases ei : i = i'
 · subst ei
   by_cases et : t = t'
   · subst et
     go_enter Tryd.func23, Tryd.ntmps23
     go_wp2_with fail
     refine (eqInts_any w2 _ _ cf cf' C.out C'.out hl).mono ?_
     rintro e w3 ⟨rfl, hb3⟩
     have x03 := (XX.out.below hb3 XX.out.lt).cell 3
     have y03 := (YY.out.below hb3 YY.out.lt).cell 3
     have B3 := Lib.hid (B.out.trans (hb3.mono B.out.size))
     have V3 := Lib.hid (V.out.below hb3 (Nat.le_refl _))
     have V3' := Lib.hid (V'.out.below hb3 (Nat.le_refl _))
     clear hb3
     by_cases q : cf = cf'
     · rw [decide_eq_true q]
       have Q := Lib.hid q
       clear q
       go_wp2_with fail
       refine (equal_any w3 _ _ d d' V3.out V3'.out HD.out HD'.out).mono ?_
       rintro e w4 ⟨rfl, rfl⟩
       by_cases q : d = d'
       · rw [decide_eq_true q]
         have Q2 := Lib.hid q
         clear q
         go_wp2
         go_ret
         exact ⟨ret_bool (by rw [Q.out, Q2.out]; simp), B3.out⟩
       · rw [decide_eq_false q]
         have Q2 := Lib.hid q
         clear q
         go_wp2
         go_ret
         exact ⟨ret_bool (by first | rfl | (symm; rw [decide_eq_false_iff_not]; intro h; injection h with h1 h2; injection h2 with h2 h3; injection h3 with h3 h4; exact Q2.out h4)), B3.out⟩
     · rw [decide_eq_false q]
       have Q := Lib.hid q
       clear q
       go_wp2
       go_ret
       exact ⟨ret_bool (by first | rfl | (symm; rw [decide_eq_false_iff_not]; intro h; injection h with h1 h2; injection h2 with h2 h3; injection h3 with h3 h4; exact Q.out h3)), B3.out⟩
   · have et' : (t == t') = false := by rw [beq_eq_false_iff_ne]; exact et
     go_enter Tryd.func23, Tryd.ntmps23
     go_wp2
     go_ret
     exact ⟨ret_bool (by first | rfl | (symm; rw [decide_eq_false_iff_not]; intro h; injection h with h1 h2; injection h2 with h2 h3; exact et h2)), B.out⟩
 · have ei' : (i == i') = false := by rw [beq_eq_false_iff_ne]; exact ei
   go_enter Tryd.func23, Tryd.ntmps23
   go_wp2
   go_ret
   exact ⟨ret_bool (by first | rfl | (symm; rw [decide_eq_false_iff_not]; intro h; injection h with h1 h2; exact ei h1)), B.out⟩
end
section
def baseB (i t : Int) (cf d : List Int) : List Int := encs [i, t, (cf.length : Int)] ++ (encs cf ++ (enc d.length ++ d))
def baseP (i t : Int) (cf d : List Int) : List Int := if baseOk i t cf d then baseB i t cf d else []
theorem sumLen_three (a b c : List Int) : sumLen [a, b, c] = a.length + b.length + c.length := by simp [sumLen]; omega
theorem lists3 {w : World} {p q r : Option Addr} {n m l c d e : Nat} {S1 S2 S3 : List Int} {T : TypeId} (h1 : IsNums .u8 w (.slice p n c) S1) (h2 : IsNums .u8 w (.slice q m d) S2) (h3 : IsNums .u8 w (.slice r l e) S3) :
   IsLists (w.alloc (.cells #[.slice p n c, .slice q m d, .slice r l e] T)) (.slice (some ⟨w.heap.size, 0, none⟩) 3 3) [S1, S2, S3] :=
 IsLists.lit w [.slice p n c, .slice q m d, .slice r l e] [S1, S2, S3] w.heap.size T 3 3 rfl rfl rfl (fun j hj => by
   match j, hj with
   | 0, _ => exact h1
   | 1, _ => exact h2
   | 2, _ => exact h3)
theorem right_bd {cf : List Int} (h : rightB cf = true) : cf.length ≤ 7 ∧ ∀ j, j < cf.length → 0 ≤ cf.getD j 0 ∧ cf.getD j 0 ≤ 6 := by
 unfold rightB at h
 obtain ⟨h0, h1⟩ := of_decide_eq_true h
 have hb : ∀ j, j < cf.length → 0 ≤ cf.getD j 0 ∧ cf.getD j 0 ≤ 6 := fun j hj => by
   have := (h1 j hj).1
   unfold okB at this
   have := of_decide_eq_true this
   omega
 have hs : ∀ j, j < cf.length → (j : Int) ≤ cf.getD j 0 := by
   intro j
   induction j with
   | zero => intro hj; exact (hb 0 hj).1
   | succ j ih =>
     intro hj
     have h2 := ih (by omega)
     have h3 := (h1 (j + 1) hj).2 (by omega)
     simp only [Nat.add_sub_cancel] at h3
     omega
 refine ⟨?_, hb⟩
 have := hs (cf.length - 1) (by omega)
 have := hb (cf.length - 1) (by omega)
 omega
theorem baseOk_bd {i t : Int} {cf d : List Int} (h : baseOk i t cf d = true) : (0 ≤ i ∧ i ≤ 1099511627776) ∧ (0 ≤ t ∧ t ≤ 1099511627776) ∧ rightB cf = true ∧ d.length ≤ 32767 := by
 unfold baseOk timeOk at h
 simp only [Bool.and_eq_true, decide_eq_true_eq] at h
 exact ⟨h.1.1.1, h.1.1.2, h.1.2, h.2⟩

set_option maxRecDepth 100000 in
set_option maxHeartbeats 2000000 in
theorem basePut_any (i t : Int) (vc v : Value) (cf d : List Int) (w : World) (hc : IsNums .i64 w vc cf) (hv : IsNums .u8 w v d) (hl : cf.length ≤ 900) :
   Calls Tryd.prog 12 #[baseV i t vc v] w fun e w' => ∃ u, e = .returned u ∧ w'.ownsRow w.heap.size 5 1 u (baseP i t cf d).length ((baseP i t cf d).map (Value.int .u8)) ∧ Below w.heap.size w w' := by
 obtain ⟨a, c, rfl, -⟩ := id hv
 obtain ⟨ac, cc, rfl, -⟩ := id hc
 obtain ⟨n, hnl⟩ : ∃ n, d.length = n := ⟨_, rfl⟩
 obtain ⟨m, hml⟩ : ∃ n, cf.length = n := ⟨_, rfl⟩
 rw [hnl] at hv ⊢
 rw [hml] at hc ⊢
 have hb := (Below.refl w.heap.size w).alloc (Nat.le_refl _) (.cells #[.int .i64 i, .int .i64 t, .slice ac m cc, .slice a n c] 28)
 have hx := Blk.alloc w 28 #[.int .i64 i, .int .i64 t, .slice ac m cc, .slice a n c]
 have hn := hv.alloc (.cells #[.int .i64 i, .int .i64 t, .slice ac m cc, .slice a n c] 28)
 have hcn := hc.alloc (.cells #[.int .i64 i, .int .i64 t, .slice ac m cc, .slice a n c] 28)
 obtain ⟨w0, hw0⟩ : ∃ x, w.alloc (.cells #[.int .i64 i, .int .i64 t, .slice ac m cc, .slice a n c] 28) = x := ⟨_, rfl⟩
 obtain ⟨Nb, hNb⟩ : ∃ x, w.heap.size = x := ⟨_, rfl⟩
 rw [hw0] at hb hx hn hcn
 rw [hNb] at hx
 have HX := Lib.hid hx
 have B0 := Lib.hid hb
 have HN0 := Lib.hid hn
 have HC0 := Lib.hid hcn
 have HN := Lib.hid hv
 have HC := Lib.hid hc
 have HL := Lib.hid hnl
 have HM := Lib.hid hml
 have HCL := Lib.hid (show cf.length ≤ 900 by omega)
 unfold baseV
 cases hr : baseOk i t cf d with
 | false =>
   have hz : baseP i t cf d = [] := by unfold baseP; rw [hr]; rfl
   rw [hz]
   have HR := Lib.hid hr
   clear hb hx hn hv hr hz hnl hml hcn hc
   have x0 := HX.out.cell 0
   have x1 := HX.out.cell 1
   have x2 := HX.out.cell 2
   have x3 := HX.out.cell 3
   go_enter Tryd.func12, Tryd.ntmps12
   go_wp2_with fail
   refine (baseRight_any i t _ _ cf d w0 HC0.out HN0.out HCL.out).mono ?_
   rintro e w1 ⟨rfl, hb1⟩
   rw [HR.out]
   have B1 := Lib.hid (B0.out.trans (hb1.mono B0.out.size))
   clear hb1
   go_wp2
   go_ret
   exact ⟨_, rfl, World.ownsRow_nil _ _ _ _, B1.out⟩
 | true =>
   have hz : baseP i t cf d = baseB i t cf d := by unfold baseP; rw [hr]; rfl
   have hbd := baseOk_bd hr
   have hrb := right_bd hbd.2.2.1
   have BD := Lib.hid hbd
   have MB : Hid (m ≤ 7) := Lib.hid (by omega)
   have CFB : Hid (∀ j, j < cf.length → 0 ≤ cf.getD j 0 ∧ cf.getD j 0 ≤ 9223372036854775807) := Lib.hid (fun j hj => by have := hrb.2 j hj; omega)
   have HR := Lib.hid hr
   have HZ := Lib.hid hz
   obtain ⟨LA, hLA⟩ : ∃ L, encs [i, t, (m : Int)] = L := ⟨_, rfl⟩
   obtain ⟨LB, hLB⟩ : ∃ L, encs cf = L := ⟨_, rfl⟩
   obtain ⟨LC, hLC⟩ : ∃ L, enc d.length ++ d = L := ⟨_, rfl⟩
   have HLA := Lib.hid hLA
   have HLB := Lib.hid hLB
   have HLC := Lib.hid hLC
   clear hLA hLB hLC hb hx hn hv hr hz hnl hml hcn hc hbd hrb
   go_enter Tryd.func12, Tryd.ntmps12
   have x0 := HX.out.cell 0
   have x1 := HX.out.cell 1
   have x2 := HX.out.cell 2
   have x3 := HX.out.cell 3
   go_wp2_with fail
   refine (baseRight_any i t _ _ cf d w0 HC0.out HN0.out HCL.out).mono ?_
   rintro e w1 ⟨rfl, hb1⟩
   rw [HR.out]
   have X1 : Hid (Blk w1.drew Nb 28 [.int .i64 i, .int .i64 t, .slice ac m cc, .slice a n c]) := Lib.hid ((HX.out.below hb1 HX.out.lt).below (Below.refl w1.heap.size w1).drew ((HX.out.below hb1 HX.out.lt).lt))
   have hB1 := (B0.out.trans (hb1.mono B0.out.size)).drew
   obtain ⟨wd, hwd⟩ : ∃ x, w1.drew = x := ⟨_, rfl⟩
   rw [hwd] at X1 hB1
   have B1 := Lib.hid hB1
   clear hb1 x0 x1 x2 x3 HX B0 HN0 HC0 hB1
   go_wp2_with fail
   refine regionE_begin 16 (fun W => Blk W Nb 28 [.int .i64 i, .int .i64 t, .slice ac m cc, .slice a n c]) (by kernel_rfl) ?_
   rw [hwd]
   clear hwd
   refine stepE_any 0 (some 6) (v := ?va0) (fun _ => X1.out) rfl (by rfl) (by kernel_rfl) (by kernel_rfl) (by kernel_rfl) (by decide) (fun _ _ _ h => h) (by rfl) ?ya0 ?na0
   case ya0 => intro W; go_simp; try with_reducible rfl
   try simp only [Act.put, List.setIfInBounds_toArray, List.set_cons_zero, List.set_cons_succ]
   refine stepE_readW 1 (some 7) (v := ?va1) (X1.out) rfl (by rfl) (by kernel_rfl) (by kernel_rfl) (by kernel_rfl) (by kernel_rfl) (by kernel_rfl) (fun _ _ _ h => h) (by rfl) ?ya1 ?na1
   case ya1 => intro W hW; have q0 := hW.cell 0; go_simp; try with_reducible rfl
   try simp only [Act.put, List.setIfInBounds_toArray, List.set_cons_zero, List.set_cons_succ]
   refine stepE_any 2 (some 8) (v := ?va2) (fun _ => X1.out) rfl (by rfl) (by kernel_rfl) (by kernel_rfl) (by kernel_rfl) (by decide) (fun _ _ _ h => h) (by rfl) ?ya2 ?na2
   case ya2 => intro W; go_simp; try with_reducible rfl
   try simp only [Act.put, List.setIfInBounds_toArray, List.set_cons_zero, List.set_cons_succ]
   refine stepE_readW 3 (some 9) (v := ?va3) (X1.out) rfl (by rfl) (by kernel_rfl) (by kernel_rfl) (by kernel_rfl) (by kernel_rfl) (by kernel_rfl) (fun _ _ _ h => h) (by rfl) ?ya3 ?na3
   case ya3 => intro W hW; have q1 := hW.cell 1; go_simp; try with_reducible rfl
   try simp only [Act.put, List.setIfInBounds_toArray, List.set_cons_zero, List.set_cons_succ]
   refine stepE_any 4 (some 10) (v := ?va4) (fun _ => X1.out) rfl (by rfl) (by kernel_rfl) (by kernel_rfl) (by kernel_rfl) (by decide) (fun _ _ _ h => h) (by rfl) ?ya4 ?na4
   case ya4 => intro W; go_simp; try with_reducible rfl
   try simp only [Act.put, List.setIfInBounds_toArray, List.set_cons_zero, List.set_cons_succ]
   refine stepE_readW 5 (some 11) (v := ?va5) (X1.out) rfl (by rfl) (by kernel_rfl) (by kernel_rfl) (by kernel_rfl) (by kernel_rfl) (by kernel_rfl) (fun _ _ _ h => h) (by rfl) ?ya5 ?na5
   case ya5 => intro W hW; have q2 := hW.cell 2; go_simp; try with_reducible rfl
   try simp only [Act.put, List.setIfInBounds_toArray, List.set_cons_zero, List.set_cons_succ]
   refine stepE_any 6 (some 12) (v := ?va6) (fun _ => X1.out) rfl (by rfl) (by kernel_rfl) (by kernel_rfl) (by kernel_rfl) (by decide) (fun _ _ _ h => h) (by rfl) ?ya6 ?na6
   case ya6 => intro W; go_simp; try with_reducible rfl
   try simp only [Act.put, List.setIfInBounds_toArray, List.set_cons_zero, List.set_cons_succ]
   refine stepE_any 9 (some 15) (v := ?va9) (fun _ => X1.out) rfl (by rfl) (by kernel_rfl) (by kernel_rfl) (by kernel_rfl) (by decide) (fun _ _ _ h => h) (by rfl) ?ya9 ?na9
   case ya9 => intro W; go_simp; try with_reducible rfl
   try simp only [Act.put, List.setIfInBounds_toArray, List.set_cons_zero, List.set_cons_succ]
   refine stepE_readW 10 (some 16) (v := ?va10) (X1.out) rfl (by rfl) (by kernel_rfl) (by kernel_rfl) (by kernel_rfl) (by kernel_rfl) (by kernel_rfl) (fun _ _ _ h => h) (by rfl) ?ya10 ?na10
   case ya10 => intro W hW; have q2 := hW.cell 2; go_simp; try with_reducible rfl
   try simp only [Act.put, List.setIfInBounds_toArray, List.set_cons_zero, List.set_cons_succ]
   refine stepE_any 12 (some 18) (v := ?va12) (fun _ => X1.out) rfl (by rfl) (by kernel_rfl) (by kernel_rfl) (by kernel_rfl) (by decide) (fun _ _ _ h => h) (by rfl) ?ya12 ?na12
   case ya12 => intro W; go_simp; try with_reducible rfl
   try simp only [Act.put, List.setIfInBounds_toArray, List.set_cons_zero, List.set_cons_succ]
   refine stepE_readW 13 (some 19) (v := ?va13) (X1.out) rfl (by rfl) (by kernel_rfl) (by kernel_rfl) (by kernel_rfl) (by kernel_rfl) (by kernel_rfl) (fun _ _ _ h => h) (by rfl) ?ya13 ?na13
   case ya13 => intro W hW; have q3 := hW.cell 3; go_simp; try with_reducible rfl
   try simp only [Act.put, List.setIfInBounds_toArray, List.set_cons_zero, List.set_cons_succ]
   -- 7: buildSlice -> 13
   refine stepE_only 7 rfl (by kernel_rfl) (by rfl) (fun K' hK => ?_)
   go_simp
   have X6 := Lib.hid (X1.out.below ((Below.refl wd.heap.size wd).alloc (Nat.le_refl _) (.cells #[.int .i64 i, .int .i64 t, .int .i64 m] 3)) X1.out.lt)
   have B6 := Lib.hid (B1.out.alloc B1.out.size (.cells #[.int .i64 i, .int .i64 t, .int .i64 m] 3))
   have N6 : Hid (IsNums .i64 (wd.alloc (.cells #[.int .i64 i, .int .i64 t, .int .i64 m] 3)) (.slice (some ⟨wd.heap.size, 0, none⟩) 3 3) [i, t, (m : Int)]) := Lib.hid (IsNums.lit .i64 wd [i, t, (m : Int)] wd.heap.size 3 3 3 rfl rfl)
   obtain ⟨w6, hw6⟩ : ∃ x, wd.alloc (.cells #[.int .i64 i, .int .i64 t, .int .i64 m] 3) = x := ⟨_, rfl⟩
   obtain ⟨M6, hM6⟩ : ∃ x, wd.heap.size = x := ⟨_, rfl⟩
   rw [hw6] at X6 B6 N6 ⊢
   rw [hM6] at N6 ⊢
   refine hK _ _ X6.out ?_
   clear hw6 hM6
   clear hK K'
   try simp only [Act.put, List.setIfInBounds_toArray, List.set_cons_zero, List.set_cons_succ]
   -- 8: call:29 -> 14
   refine stepE_only 8 rfl (by kernel_rfl) (by rfl) (fun K' hK => ?_)
   go_simp
   refine (nums_any _ [i, t, (m : Int)] w6 N6.out (by have := BD.out; have := MB.out; intro j hj; match j, hj with | 0, _ => exact ⟨by show 0 ≤ i; omega, by show i ≤ _; omega⟩ | 1, _ => exact ⟨by show 0 ≤ t; omega, by show t ≤ _; omega⟩ | 2, _ => exact ⟨by show 0 ≤ (m : Int); omega, by show (m : Int) ≤ _; omega⟩) (by simp)).mono ?_
   rintro e w7 ⟨u7, rfl, ho7, hb7⟩
   have X7 := Lib.hid (X6.out.below hb7 X6.out.lt)
   have B7 := Lib.hid (B6.out.trans (hb7.mono B6.out.size))
   have N7 : Hid (IsNums .u8 w7 u7 LA) := Lib.hid (by rw [← HLA.out]; exact IsNums.ofOwn ho7)
   refine hK _ _ X7.out ?_
   clear ho7 hb7
   clear hK K'
   try simp only [Act.put, List.setIfInBounds_toArray, List.set_cons_zero, List.set_cons_succ]
   -- 11: call:29 -> 17
   refine stepE_only 11 rfl (by kernel_rfl) (by rfl) (fun K' hK => ?_)
   go_simp
   refine (nums_any _ cf w7 (HC.out.below B7.out (Nat.le_refl _)) CFB.out (by have := MB.out; have := HM.out; omega)).mono ?_
   rintro e w8 ⟨u8, rfl, ho8, hb8⟩
   have X8 := Lib.hid (X7.out.below hb8 X7.out.lt)
   have B8' := Lib.hid (B7.out.trans (hb8.mono B7.out.size))
   have N8 : Hid (IsNums .u8 w8 u8 LB) := Lib.hid (by rw [← HLB.out]; exact IsNums.ofOwn ho8)
   have N78 := Lib.hid (N7.out.below hb8 (Nat.le_refl _))
   refine hK _ _ X8.out ?_
   clear ho8 hb8
   clear hK K'
   try simp only [Act.put, List.setIfInBounds_toArray, List.set_cons_zero, List.set_cons_succ]
   -- 14: call:30 -> 20
   refine stepE_only 14 rfl (by kernel_rfl) (by rfl) (fun K' hK => ?_)
   go_simp
   refine (lump_any _ d w8 (HN.out.below B8'.out (Nat.le_refl _)) (by have := BD.out; omega)).mono ?_
   rintro e w9 ⟨u9, rfl, ho9, hb9⟩
   have X9 := Lib.hid (X8.out.below hb9 X8.out.lt)
   have B9 := Lib.hid (B8'.out.trans (hb9.mono B8'.out.size))
   have N9 : Hid (IsNums .u8 w9 u9 LC) := Lib.hid (by rw [← HLC.out]; exact IsNums.ofOwn ho9)
   have N79 := Lib.hid (N78.out.below hb9 (Nat.le_refl _))
   have N89 := Lib.hid (N8.out.below hb9 (Nat.le_refl _))
   obtain ⟨p7, c7, hu7, -⟩ := id N7.out
   obtain ⟨p8, c8, hu8, -⟩ := id N8.out
   obtain ⟨p9, c9, hu9, -⟩ := id N9.out
   subst hu7 hu8 hu9
   refine hK _ _ X9.out ?_
   clear ho9 hb9
   clear hK K'
   try simp only [Act.put, List.setIfInBounds_toArray, List.set_cons_zero, List.set_cons_succ]
   -- 15: buildSlice -> 21
   refine stepE_only 15 rfl (by kernel_rfl) (by rfl) (fun K' hK => ?_)
   go_simp
   have X10 := Lib.hid (X9.out.below ((Below.refl w9.heap.size w9).alloc (Nat.le_refl _) (.cells #[.slice p7 LA.length c7, .slice p8 LB.length c8, .slice p9 LC.length c9] 26)) X9.out.lt)
   have B10 := Lib.hid (B9.out.alloc B9.out.size (.cells #[.slice p7 LA.length c7, .slice p8 LB.length c8, .slice p9 LC.length c9] 26))
   have L10 : Hid (IsLists (w9.alloc (.cells #[.slice p7 LA.length c7, .slice p8 LB.length c8, .slice p9 LC.length c9] 26)) (.slice (some ⟨w9.heap.size, 0, none⟩) 3 3) [LA, LB, LC]) := Lib.hid (lists3 N79.out N89.out N9.out)
   refine hK _ _ (by first | exact X10.out | simpa using X10.out) ?_
   clear hK K'
   try simp only [Act.put, List.setIfInBounds_toArray, List.set_cons_zero, List.set_cons_succ]
   -- 16: call:28 -> 22
   refine stepE_end 16 rfl (by kernel_rfl) (by rfl) (by rfl) (fun K' hK => ?_)
   go_simp
   refine (join_any _ _ _ (by first | exact L10.out | simpa using L10.out) (by simp) (by rw [sumLen_three, ← HLA.out, ← HLB.out, ← HLC.out]; have := BD.out; have h0 := MB.out; have h4 := HM.out; have h1 := encs_len [i, t, (m : Int)]; have h2 := enc_len d.length; have h3 := encs_len cf; simp only [List.length_append, List.length_cons, List.length_nil] at *; omega)).mono ?_
   rintro e w11 ⟨u11, rfl, ho11, hb11⟩
   have O11 := Lib.hid ho11
   have B11 := Lib.hid (B10.out.trans (hb11.mono B10.out.size))
   have Z11 := Lib.hid B10.out.size
   refine hK _ _ ?_
   clear ho11 hb11
   clear hK K'
   try simp only [Act.put, List.setIfInBounds_toArray, List.set_cons_zero, List.set_cons_succ]
   refine stepE_any 17 (some 2) (v := ?va17) (fun h => (Bool.false_ne_true (h.symm.trans (by rfl))).elim) rfl (by rfl) (by kernel_rfl) (by kernel_rfl) (by kernel_rfl) (by decide) (fun _ _ _ h => h) (by rfl) ?ya17 ?na17
   case ya17 => intro W; go_simp; try with_reducible rfl
   try simp only [Act.put, List.setIfInBounds_toArray, List.set_cons_zero, List.set_cons_succ]
   refine wpAnyE_done (by kernel_rfl) ?_ _
   go_wp2
   go_ret
   refine ⟨_, rfl, ?_, B11.out⟩
   rw [HZ.out]
   have h9 := ownsRow_base O11.out Z11.out
   rw [show ([LA, LB, LC] : List (List Int)).flatten = baseB i t cf d by rw [← HLA.out, ← HLB.out, ← HLC.out, ← HM.out]; simp [baseB]] at h9
   exact h9
end
section
theorem inf5pni : (Tryd.prog.info? 5).map (fun i => (i.zero, i.size, i.bytes)) = some (some (.int .u8 0), 1, 1) := by kernel_rfl
theorem inf66pni : (Tryd.prog.info? 66).map (fun i => (i.zero, i.size, i.bytes)) = some (some (.int .u64 0), 1, 8) := by kernel_rfl
theorem sz3pni : (Tryd.prog.info? 3).map (·.size) = some 1 := by kernel_rfl

set_option maxRecDepth 100000
set_option maxHeartbeats 4000000
theorem pnums_x (xs : List Int) (q : Option Addr) (cq : Nat) (w0 : World) (h0 : Rd (fun _ => True) w0 (.slice q xs.length cq) (.ns .i64 xs)) (hl : xs.length ≤ 1000000) (hxb : ∀ k, k < xs.length → 0 ≤ xs.getD k 0 ∧ xs.getD k 0 ≤ 9223372036854775807) :
   Calls Tryd.prog 9 #[.slice q xs.length cq] w0 fun e w' => ∃ (p : Option Addr) (c : Nat), e = .returned (.slice p (encs xs).length c) ∧ w'.ownsRow w0.heap.size 5 1 (.slice p (encs xs).length c) (encs xs).length ((encs xs).map (Value.int .u8)) ∧ Below w0.heap.size w0 w' := by
 refine enter (fn := Tryd.f9) Tryd.func9 rfl Tryd.ntmps9 rfl (fun Az Hz => ?_)
 simp only [List.zipIdx_cons, List.zipIdx_nil, List.map_cons, List.map_nil, Nat.reduceAdd, Nat.zero_add] at Hz
 have m0 := MemOk.start (fun _ => False) w0
 refine regS Hz (.assign rfl <| .nil) ?_
 clear Hz Az; intro Az Hz
 refine regS Hz (.assign rfl <| .nil) ?_
 clear Hz Az; intro Az Hz
 refine wp_seq_k (fun K0 hK0 => ?_)
 refine regS Hz (.move rfl <| .len rfl Tryd.underlying25 <| .move rfl <| .nil) ?_
 clear Hz Az; intro Az Hz
 refine wp_block ?_
 refine wp_loop_ghost (fun g a w => ∃ (k : Nat) (b : List Int) (p : Option Addr) (c : Nat), k ≤ xs.length ∧ g = xs.length - k ∧ b = encs (xs.take k) ∧ Has 20 [(3, .slice p b.length c), (6, .slice q xs.length cq), (7, .int .i64 xs.length), (8, .int .i64 k)] a ∧ MemOk (cn w0) w0 [(9, .num (.slice p b.length c) 5 .u8 b)] w) (xs.length) ?_ ?_
 · have mz := m0.nilN 9 5 .u8
   exact ⟨0, [], _, _, Nat.zero_le _, rfl, rfl, Hz.only [3, 6, 7, 8], mz.only [9]⟩
 ·
  clear Hz m0
  rintro g Az w6 ⟨k, b, p, c, hkl, hg, hbe, Hz, m6⟩
  refine regS Hz (.lss rfl rfl <| .nil) ?_
  clear Hz Az; intro Az Hz
  refine wp_seq_k (fun K1 hK1 => ?_)
  refine bool_cases Hz (t := 9) rfl ?_ ?_
  ·
   clear Hz; intro hb8 Hz
   try simp only [Q1x, Q2x, Q3x, Q4x, Q5x, Q6x, Q7x, Q8x, Q9x, Q0x, Qax, Qbx] at hb8
   have hk : k < xs.length := by have := hb8; first | omega | (simp at this; omega)
   have hxk := hxb k hk
   refine wp_cond_true (Hz.ev (x := .tmp 9) rfl) ?_
   refine wp_skip ?_
   refine hK1 _ _ ?_; clear hK1; try clear K1
   refine wp_seq_k (fun K2 hK2 => ?_)
   refine wp_block ?_
   refine wp_seq_k (fun K3 hK3 => ?_)
   refine wp_region_lit ?_
   obtain ⟨gx10, ox10, hp10, hl10, hrg10⟩ := h0.extN (k) hk
   cases hp10; clear hl10
   refine goCh Hz (.c rfl (fun _ h_ => y_idx h_ rfl rfl Tryd.underlying25 sz3pni (k) rfl hk) <| .loadAt1 (hrg10 m6 rfl) (q := 0) rfl rfl rfl Tryd.underlying3 rfl <| .assign rfl <| .nil) ?_
   clear Hz Az; intro Az Hz
   refine wpList_nil ?_
   refine hK3 _ _ ?_; clear hK3; try clear K3
   refine wp_region_lit ?_
   refine goCh Hz (.move rfl <| .move rfl <| .conv rfl Tryd.underlying3 Tryd.underlying66 (r := xs.getD k 0) (IntWalk.u64_in _ (by omega)) <| .nil) ?_
   clear Hz Az; intro Az Hz
   refine wpList_plain rfl (fun K hK => ?_)
   refine e_litN Hz m6 100 (k := .u64) rfl rfl Tryd.underlying90 inf66pni rfl rfl rfl rfl ?_
   clear Hz Az m6; intro g17 Az w18 Hz m18
   refine hK _ _ ?_; clear hK K
   have m19 := m18.freezeN 100 rfl; clear m18
   refine wpList_plain rfl (fun K hK => ?_)
   refine e_call Hz Tryd.func28 rfl rfl rfl rfl (pput_x _ [xs.getD k 0] _ ((m19.rd (i := 100) rfl).any) (by simp) (one63 (by omega))) ?_
   rintro e w20 ⟨p20, c20, rfl, ho20, hb20⟩
   have m21 := m19.newN 101 hb20 ho20
   clear m19
   clear hb20 ho20
   refine ⟨_, rfl, ?_⟩; clear Hz Az; intro Az Hz
   refine hK _ _ ?_; clear hK K
   refine wpList_plain rfl (fun K hK => ?_)
   refine e_appN Hz m21 9 rfl rfl rfl (m21.numsO (i := 101) rfl) Tryd.underlying26 inf5pni (by decide) (by rw [hbe]; have h8 := encs_len (xs.take k); rw [List.length_take] at h8; have h9 := encs_len [xs.getD k 0]; rw [List.length_singleton] at h9; omega) rfl ?_
   clear Hz Az m21; intro p23 c23 Az w24 Hz m24
   refine hK _ _ ?_; clear hK K
   refine goCh Hz (.assign rfl .nil) ?_
   clear Hz Az; intro Az Hz
   refine wpList_nil ?_
   refine hK2 _ _ ?_; clear hK2; try clear K2
   replace Hz : Has 20 [(3, _), (6, _), (7, _), (8, _)] Az := Hz.only [3, 6, 7, 8]
   refine wp_region_lit ?_
   refine goCh Hz (.add rfl rfl (r := ((k + 1 : Nat) : Int)) (by rw [IntWalk.i64_in _ (by omega)]; omega) <| .move rfl <| .nil) ?_
   clear Hz Az; intro Az Hz
   refine wpList_nil ?_
   show ∃ n', n' < _ ∧ _
   exact ⟨xs.length - (k + 1), by omega, k + 1, _, _, _, by omega, rfl, by rw [encs_snoc _ _ hk, ← hbe, encs_one], Hz.only [3, 6, 7, 8], m24.only [9]⟩
  ·
   clear Hz; intro hb8 Hz
   try simp only [Q1x, Q2x, Q3x, Q4x, Q5x, Q6x, Q7x, Q8x, Q9x, Q0x, Qax, Qbx] at hb8
   obtain rfl : k = xs.length := by have := hb8; first | omega | (simp at this; omega)
   refine wp_cond_false (Hz.ev (x := .tmp 9) rfl) ?_
   refine wp_exit ?_
   refine hK0 _ _ ?_; clear hK0; try clear K0
   refine regS Hz (.move rfl <| .assign rfl <| .nil) ?_
   clear Hz Az; intro Az Hz
   refine wp_ret ?_
   try dsimp only [Exit.then, Exit.inBlock]
   refine (ret1 (fn := Tryd.f9) Hz rfl rfl ?_)
   rw [List.take_length] at hbe
   subst hbe
   exact ⟨_, _, rfl, m6.ok 9 _ rfl, m6.below⟩
end
section
def OpenOwn (bs : List Int) (w : World) (e : Ending) (w' : World) : Prop :=
 ∃ u, e = .returned (.tuple #[u, .bool (openB bs)]) ∧ w'.ownsRow w.heap.size 5 1 u (openC bs).length ((openC bs).map (Value.int .u8)) ∧ Below w.heap.size w w'

set_option maxRecDepth 100000 in
set_option maxHeartbeats 2000000 in
theorem open_own (p : Option Addr) (n cc : Nat) (bs : List Int) (w : World) (hT : TabOk w) (h1 : 1 ≤ w.heap.size) (hv : IsNums .u8 w (.slice p (n + 4) cc) bs) (hl : bs.length = n + 4) (hcc : n + 4 ≤ cc) (hb : Bytes bs) (hn : n ≤ 10000) : Calls Tryd.prog 16 #[.slice p (n + 4 : Nat) cc] w (OpenOwn bs w) := by
 obtain ⟨b, off, rfl⟩ : ∃ b off, p = some ⟨b, off, none⟩ := by
   obtain ⟨a, c', hv1, h⟩ := hv
   simp only [Value.slice.injEq] at hv1
   obtain ⟨rfl, hl1, rfl⟩ := hv1
   rcases h with h | ⟨b', off', hh, -, -⟩
   · omega
   · exact ⟨b', off', hh⟩
 have HV := Lib.hid hv
 have HT := Lib.hid (show TabOk w.drew from hT)
 have HP := Lib.hid (show IsNums .u8 w.drew (.slice (some ⟨b, off, none⟩) n cc) (bs.take n) from by have := (hv.part 0 n (by omega) (by omega) cc n (by omega)).drew; simpa using this)
 have HQ := Lib.hid (show IsNums .u8 w.drew (.slice (some ⟨b, off + n, none⟩) 4 (cc - n)) (bs.drop n) from by have := (hv.part n (n + 4) (by omega) (by omega) (cc - n) 4 (by omega)).drew; rw [← hl, List.take_length] at this; exact this)
 have HF1 := Lib.hid (show ∀ j, j < [bs.take n].length → Bytes ([bs.take n].getD j []) ∧ ([bs.take n].getD j []).length ≤ 1000000 from by
   intro j hj
   obtain rfl : j = 0 := by simpa using hj
   refine ⟨fun i hi => ?_, ?_⟩
   · have hi' : i < (bs.take n).length := hi
     simp only [List.length_take] at hi'
     have := hb i (by omega)
     have e : (bs.take n).getD i 0 = bs.getD i 0 := by simp only [List.getD, List.getElem?_take]; rw [if_pos (by omega)]
     show 0 ≤ (bs.take n).getD i 0 ∧ (bs.take n).getD i 0 ≤ 255
     rw [e]; exact this
   · show (bs.take n).length ≤ _
     simp; omega)
 have HBB := Lib.hid hb
 have HL := Lib.hid hl
 clear hv hT hb hl
 have e0 : ((n + 4 : Nat) : Int) - 4 = (n : Int) := by omega
 go_enter Tryd.func16, Tryd.ntmps16
 go_wp2_with fail
 refine region_begin (by kernel_rfl) ?_
 refine step_read 0 (some 8) (v := ?v0) rfl (by rfl) (by kernel_rfl) (by kernel_rfl) (by kernel_rfl) (fun _ _ _ h => h) (by rfl) ?y0 ?n0
 case y0 => intro W hW; go_simp; try with_reducible rfl
 try simp only [Act.put, List.setIfInBounds_toArray, List.set_cons_zero, List.set_cons_succ]
 refine step_read 1 (some 9) (v := ?v1) rfl (by rfl) (by kernel_rfl) (by kernel_rfl) (by kernel_rfl) (fun _ _ _ h => h) (by rfl) ?y1 ?n1
 case y1 => intro W hW; go_simp; try with_reducible rfl
 try simp only [Act.put, List.setIfInBounds_toArray, List.set_cons_zero, List.set_cons_succ]
 refine step_read 2 (some 10) (v := ?v2) rfl (by rfl) (by kernel_rfl) (by kernel_rfl) (by kernel_rfl) (fun _ _ _ h => h) (by rfl) ?y2 ?n2
 case y2 => intro W hW; go_simp; try with_reducible rfl
 try simp only [Act.put, List.setIfInBounds_toArray, List.set_cons_zero, List.set_cons_succ]
 refine step_read 3 (some 11) (v := ?v3) rfl (by rfl) (by kernel_rfl) (by kernel_rfl) (by kernel_rfl) (fun _ _ _ h => h) (by rfl) ?y3 ?n3
 case y3 => intro W hW; go_simp; try with_reducible rfl
 try simp only [Act.put, List.setIfInBounds_toArray, List.set_cons_zero, List.set_cons_succ]
 refine step_read 4 (some 12) (v := ?v4) rfl (by rfl) (by kernel_rfl) (by kernel_rfl) (by kernel_rfl) (fun _ _ _ h => h) (by rfl) ?y4 ?n4
 case y4 => intro W hW; go_simp; try with_reducible rfl
 try simp only [Act.put, List.setIfInBounds_toArray, List.set_cons_zero, List.set_cons_succ]
 refine step_read 5 (some 13) (v := ?v5) rfl (by rfl) (by kernel_rfl) (by kernel_rfl) (by kernel_rfl) (fun _ _ _ h => h) (by rfl) ?y5 ?n5
 case y5 => intro W hW; go_simp; rw [if_pos (by omega), if_neg (by omega)]; try with_reducible rfl
 try simp only [Act.put, List.setIfInBounds_toArray, List.set_cons_zero, List.set_cons_succ]
 refine step_read 6 (some 14) (v := ?v6) rfl (by rfl) (by kernel_rfl) (by kernel_rfl) (by kernel_rfl) (fun _ _ _ h => h) (by rfl) ?y6 ?n6
 case y6 => intro W hW; have ec := conv_at HQ.out hW; go_simp; try with_reducible rfl
 try simp only [Act.put, List.setIfInBounds_toArray, List.set_cons_zero, List.set_cons_succ]
 refine step_read 7 (some 15) (v := ?v7) rfl (by rfl) (by kernel_rfl) (by kernel_rfl) (by kernel_rfl) (fun _ _ _ h => h) (by rfl) ?y7 ?n7
 case y7 => intro W hW; go_simp; try with_reducible rfl
 try simp only [Act.put, List.setIfInBounds_toArray, List.set_cons_zero, List.set_cons_succ]
 refine step_read 8 (some 16) (v := ?v8) rfl (by rfl) (by kernel_rfl) (by kernel_rfl) (by kernel_rfl) (fun _ _ _ h => h) (by rfl) ?y8 ?n8
 case y8 => intro W hW; go_simp; try with_reducible rfl
 try simp only [Act.put, List.setIfInBounds_toArray, List.set_cons_zero, List.set_cons_succ]
 refine step_read 9 (some 17) (v := ?v9) rfl (by rfl) (by kernel_rfl) (by kernel_rfl) (by kernel_rfl) (fun _ _ _ h => h) (by rfl) ?y9 ?n9
 case y9 => intro W hW; go_simp; rw [if_pos (by omega)]; try with_reducible rfl
 try simp only [Act.put, List.setIfInBounds_toArray, List.set_cons_zero, List.set_cons_succ]
 -- 10: buildSlice -> 18
 refine step_only 10 rfl (by kernel_rfl) (by rfl) (fun K' hK => ?_)
 go_simp
 refine hK _ _ ((Below.refl _ _).alloc (Nat.le_refl _) _) ?_
 have HT1 := Lib.hid (HT.out.alloc (by show 1 ≤ w.heap.size; exact h1) (Obj.cells #[Value.slice (some ⟨b, off, none⟩) n cc] 26))
 have HL1 := Lib.hid (CLists.one (HP.out) w.drew.heap.size rfl 26)
 clear hK K'
 try simp only [Act.put, List.setIfInBounds_toArray, List.set_cons_zero, List.set_cons_succ]
 -- 11: call:10 -> 19
 refine step_only 11 rfl (by kernel_rfl) (by rfl) (fun K' hK => ?_)
 go_simp
 go_at_call 32
 refine (sum_any _ [bs.take n] _ HT1.out HL1.out HF1.out (by simp)).mono ?_
 rintro e x ⟨rfl, rfl⟩
 refine hK _ _ (Below.refl _ _) ?_
 clear hK K'
 try simp only [Act.put, List.setIfInBounds_toArray, List.set_cons_zero, List.set_cons_succ]
 -- 12: call:15 -> 20
 refine step_only 12 rfl (by kernel_rfl) (by rfl) (fun K' hK => ?_)
 go_simp
 go_at_call 31
 refine (four_any (sumC [bs.take n]) _ (sumC_range _)).mono ?_
 rintro e x ⟨u20, rfl, hown20, bx⟩
 have K20 := Lib.hid (IsNums.ofOwn hown20)
 refine hK _ _ bx ?_
 clear hK K'
 try simp only [Act.put, List.setIfInBounds_toArray, List.set_cons_zero, List.set_cons_succ]
 refine step_read 13 (some 21) (v := ?v13) rfl (by rfl) (by kernel_rfl) (by kernel_rfl) (by kernel_rfl) (fun _ _ _ h => h) (by rfl) ?y13 ?n13
 case y13 => intro W hW; have ec := conv_at K20.out hW; go_simp; try with_reducible rfl
 try simp only [Act.put, List.setIfInBounds_toArray, List.set_cons_zero, List.set_cons_succ]
 refine step_read 14 (some 22) (v := ?v14) rfl (by rfl) (by kernel_rfl) (by kernel_rfl) (by kernel_rfl) (fun _ _ _ h => h) (by rfl) ?y14 ?n14
 case y14 => intro W hW; go_simp; try with_reducible rfl
 try simp only [Act.put, List.setIfInBounds_toArray, List.set_cons_zero, List.set_cons_succ]
 refine step_read 15 (some 23) (v := ?v15) rfl (by rfl) (by kernel_rfl) (by kernel_rfl) (by kernel_rfl) (fun _ _ _ h => h) (by rfl) ?y15 ?n15
 case y15 => intro W hW; go_simp; try with_reducible rfl
 try simp only [Act.put, List.setIfInBounds_toArray, List.set_cons_zero, List.set_cons_succ]
 refine wpAnyH_done (by kernel_rfl) ?_ _
 have heq : ((strOfNums (List.drop n bs)).toList == (strOfNums (fourC (sumC [List.take n bs]))).toList) = openB bs := by
   rw [str_beq (fun x hx => HBB.out.mem x (List.mem_of_mem_drop hx)) (fourC_bytes _).mem]
   unfold openB
   rw [show bs.length - 4 = n by rw [HL.out]; omega]
   simp only [decide_eq_decide]
   exact ⟨fun h => ⟨by rw [HL.out]; omega, h⟩, fun h => h.2⟩
 rw [heq]
 have hbd : Below w.drew.heap.size w.drew x := ((Below.refl _ w.drew).alloc (Nat.le_refl _) _).trans (show Below _ (w.drew.alloc _) x from bx.mono (by show w.heap.size ≤ _; simp))
 have hbx : Below w.heap.size w x := (Below.refl _ w).drew.trans hbd
 have hn0 : decide ((n : Int) < 0) = false := by simp
 rw [hn0]
 have HPx := Lib.hid (HP.out.below hbd (Nat.le_refl _))
 have HO := Lib.hid (rfl : openB bs = openB bs)
 have HBX := Lib.hid hbx
 clear heq hn0 hown20 bx hbx hbd K20 HT1 HL1 HF1 HQ HP
 obtain ⟨o, ho⟩ : ∃ o, openB bs = o := ⟨_, rfl⟩
 rw [ho]
 replace HO := Lib.hid ho
 clear ho
 cases o
 · go_wp2
   go_ret2
   refine ⟨.slice none 0 0, ?_, ?_, HBX.out⟩
   · rw [HO.out]; rfl
   · unfold openC; rw [if_neg (by rw [HO.out]; decide)]; exact World.ownsRow_nil _ _ _ _
 · go_wp2_with (at_builtin; refine wpList_appN rfl _ _ 26 rfl x.heap.size 5 .u8 1 Tryd.underlying26 info_u8 (by omega) _ 0 [] rfl (World.ownsRow_nil _ _ _ _) _ _ rfl HPx.out (by simp; omega) (Nat.le_refl _) ?_; intro v6 w6 hown6 hb6)
   go_ret2
   refine ⟨v6, ?_, ?_, HBX.out.trans (hb6.mono HBX.out.size)⟩
   · rw [HO.out]; rfl
   · have hown7 := ownsRow_base hown6 HBX.out.size
     unfold openC; rw [if_pos HO.out, HL.out]
     have hl9 : (bs.take (n + 4 - 4)).length = 0 + (List.take n bs).length := by rw [Nat.add_sub_cancel]; omega
     rw [hl9]
     simpa using hown7
end
section
theorem open_x {o : Bool} (b : List Int) (p : Option Addr) (c : Nat) (w0 : World) (hT : TabOk w0) (h01 : 1 ≤ w0.heap.size) (h0 : Rd (fun _ => True) w0 (.slice p b.length c) (.ns .u8 b)) (hy : BytesL b) (hl : b.length ≤ 10000) (h4 : 4 ≤ b.length) (hO : openB b = o) :
   Calls Tryd.prog 16 #[.slice p b.length c] w0 fun e w' => ∃ (p' : Option Addr) (c' : Nat), e = .returned (.tuple #[.slice p' (openC b).length c', .bool o]) ∧ w'.ownsRow w0.heap.size 5 1 (.slice p' (openC b).length c') (openC b).length ((openC b).map (Value.int .u8)) ∧ Below w0.heap.size w0 w' := by
 obtain ⟨n, hn⟩ : ∃ n, b.length = n + 4 := ⟨b.length - 4, by omega⟩
 have hc := h0.ns_out.cap
 have hN := h0.ns_out.nums
 rw [hn] at hN hc ⊢
 refine (open_own p n c b w0 hT h01 hN hn hc.1 (bytesLB hy) (by omega)).mono fun e w' h => ?_
 obtain ⟨u, rfl, hown, hbel⟩ := h
 obtain ⟨p', c', rfl⟩ := ownsRow_shape hown
 rw [hO]
 exact ⟨p', c', rfl, hown, hbel⟩
end
end Go.Proofs.YtmoghepeggohhaaDoor.K
