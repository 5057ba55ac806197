/- stream: Read of any bytes. -/
import Derived.Test.YtcccomafnmdlfaaDoorStr8
import Derived.Test.YtcccomafnmdlfaaDoorStr4
import Derived.Test.YtcccomafnmdlfaaDoorG5
namespace Go.Proofs.YtcccomafnmdlfaaDoor.K
open Go.ChangeShapes Go.WideShapes Go.ChangeAt Go.RowKit
set_option linter.unusedVariables false
set_option linter.unusedSimpArgs false
theorem fl38rdsh : flatS Tryd.prog 38 [.int .i64 0, .int .i64 0, .int .i64 0, .int .i64 0, .slice none 0 0] = true := by kernel_rfl
theorem fl38rdsu : flatS Tryd.prog 38 [.int .i64 0, .int .i64 0, .int .i64 0, .int .i64 0, .slice none 0 0] = true := by kernel_rfl
theorem fl38rdfo : flatS Tryd.prog 38 [.int .i64 0, .int .i64 0, .int .i64 0, .int .i64 0, .slice none 0 0] = true := by kernel_rfl
theorem fl38rddi : flatS Tryd.prog 38 [.int .i64 0, .int .i64 0, .int .i64 0, .int .i64 0, .slice none 0 0] = true := by kernel_rfl
def errE (b : List Int) : Int := if b.length < 4 then 21 else if openB b = false then 24 else 20
def ReadIs (b : List Int) (bl sz fr to : Int) (its : List (Int × List Int)) (er : Int) : Prop :=
 (er = 0 ∧ StreamOk bl sz fr to its ∧ (∀ e ∈ its, BytesL e.2) ∧ strB bl sz fr to its = b) ∨ (er = errE b ∧ bl = 0 ∧ sz = 0 ∧ fr = 0 ∧ to = 0 ∧ its = [] ∧ ∀ bl sz fr to (its : List (Int × List Int)), StreamOk bl sz fr to its → (∀ e ∈ its, BytesL e.2) → strB bl sz fr to its ≠ b)
theorem ReadIs.one {b : List Int} {bl sz fr to er bl' sz' fr' to' er' : Int} {its its' : List (Int × List Int)} (h : ReadIs b bl sz fr to its er) (h' : ReadIs b bl' sz' fr' to' its' er') : er = er' ∧ bl = bl' ∧ sz = sz' ∧ fr = fr' ∧ to = to' ∧ its = its' := by
 rcases h with ⟨e1, h1, h2, h3⟩ | ⟨e1, rfl, rfl, rfl, rfl, rfl, h1⟩
 · rcases h' with ⟨e4, h4, h5, h6⟩ | ⟨e4, _, _, _, _, _, h4⟩
   · have h7 := strB_inj h1 h4 (h3.trans h6.symm)
     injection h7 with q1 q2
     injection q2 with q2 q3
     injection q3 with q3 q4
     injection q4 with q4 q5
     exact ⟨e1.trans e4.symm, q1, q2, q3, q4, q5⟩
   exact absurd h3 (h4 _ _ _ _ _ h1 h2)
 rcases h' with ⟨e4, h4, h5, h6⟩ | ⟨e4, rfl, rfl, rfl, rfl, rfl, h4⟩
 · exact absurd h6 (h1 _ _ _ _ _ h4 h5)
 exact ⟨e1.trans e4.symm, rfl, rfl, rfl, rfl, rfl⟩
theorem itemsR_len (sz : Int) : ∀ (n : Nat) (x : List Int), (itemsR sz n x).length ≤ n
 | 0, _ => Nat.zero_le _
 | n + 1, x => by
   show (match itemR sz x with | none => [] | some (e, r) => e :: itemsR sz n r).length ≤ n + 1
   split
   · exact Nat.zero_le _
   have := itemsR_len sz n
   simp only [List.length_cons]
   exact Nat.succ_le_succ (this _)
theorem itemsR_bytes (n0 : Nat) : ∀ (n : Nat) (x : List Int), BytesL x → ∀ e ∈ itemsR (n0 : Int) n x, BytesL e.2
 | 0, _, _, e, he => by cases he
 | n + 1, x, hx, e, he => by
   have hc : itemsR (n0 : Int) (n + 1) x = match itemR (n0 : Int) x with | none => [] | some (e, r) => e :: itemsR (n0 : Int) n r := rfl
   rw [hc] at he
   cases hI : itemR (n0 : Int) x with
   | none => rw [hI] at he; cases he
   | some q =>
     obtain ⟨⟨a, d⟩, r⟩ := q
     rw [hI] at he
     rcases List.mem_cons.1 he with rfl | he
     · obtain ⟨y, -, -, rfl, -⟩ := itemR_some hI
       exact fun z hz => hx z (List.mem_of_mem_drop (List.mem_of_mem_take hz))
     exact itemsR_bytes n0 n r (itemR_bytes hI hx) e he
set_option maxRecDepth 100000
set_option maxHeartbeats 4000000
theorem take_e {x : List Int} {bl sz fr to : Int} {its : List (Int × List Int)} (hTk : takeE x = (bl, sz, fr, to, its)) (X : Cx) (p : Option Addr) (c : Nat) (w0 : World) (hl0 : x.length ≤ 1000000) (hx : BytesL x) (m0 : MemOk X w0 [(1, .dat (.slice p x.length c) (.ns .u8 x))] w0) :
   Calls Tryd.prog 41 #[.slice p x.length c] w0 fun e w' => ∃ (pa : Option Addr) (ca : Nat), e = .returned (.agg #[.int .i64 bl, .int .i64 sz, .int .i64 fr, .int .i64 to, .slice pa (its.map itD).length ca]) ∧ MemOk X w0 [(2, .dat (.slice pa (its.map itD).length ca) (.l 2 (its.map itD)))] w' := by
 by_cases hq : x.take magicB.length = magicB
 · obtain ⟨⟨a1, x1, e1⟩, hA⟩ : ∃ z, numR (x.drop 5) 0 256 = z := ⟨_, rfl⟩
   obtain ⟨⟨a2, x2, e2⟩, hB⟩ : ∃ z, numR x1 e1 32 = z := ⟨_, rfl⟩
   obtain ⟨⟨a3, x3, e3⟩, hC⟩ : ∃ z, numR x2 e2 1099511627777 = z := ⟨_, rfl⟩
   obtain ⟨⟨a4, x4, e4⟩, hD⟩ : ∃ z, numR x3 e3 1099511627776 = z := ⟨_, rfl⟩
   obtain ⟨⟨a5, x5, e5⟩, hE⟩ : ∃ z, numR x4 e4 256 = z := ⟨_, rfl⟩
   have h2 := numR_le x1 e1 32 (by decide)
   have h5 := numR_le x4 e4 256 (by decide)
   rw [hB] at h2
   rw [hE] at h5
   obtain ⟨n0, rfl⟩ : ∃ n : Nat, a2 = (n : Int) := ⟨a2.toNat, by dsimp only at h2; omega⟩
   obtain ⟨nn, rfl⟩ : ∃ n : Nat, a5 = (n : Int) := ⟨a5.toNat, by dsimp only at h5; omega⟩
   have h := take_yes X x x1 x2 x3 x4 x5 n0 nn a1 a3 a4 e1 e2 e3 e4 e5 p c w0 hl0 hx hq hA hB hC hD hE m0
   have hH : headR (x.drop 5) = (a1, (n0 : Int), a3 - 1, a4, (nn : Int), x5.drop 4) := by
     unfold headR
     rw [hA]; dsimp only
     rw [hB]; dsimp only
     rw [hC]; dsimp only
     rw [hD]; dsimp only
     rw [hE]
   unfold takeE at hTk
   rw [if_pos (show x.take 5 = magicB from hq), hH] at hTk
   dsimp only at hTk
   rw [show ((nn : Int)).toNat = nn by omega] at hTk
   injection hTk with q1 q2
   injection q2 with q2 q3
   injection q3 with q3 q4
   injection q4 with q4 q5
   subst q1; subst q2; subst q3; subst q4; subst q5
   exact h
 have h := take_no X x p c w0 hl0 hx hq m0
 unfold takeE at hTk
 rw [if_neg (show ¬ x.take 5 = magicB from hq)] at hTk
 injection hTk with q1 q2
 injection q2 with q2 q3
 injection q3 with q3 q4
 injection q4 with q4 q5
 subst q1; subst q2; subst q3; subst q4; subst q5
 refine h.mono fun e w' h => ⟨none, 0, h.1, h.2.dat 2 rfl (.l0 none 0 2)⟩
theorem takeE_ok {x : List Int} {bl sz fr to : Int} {its : List (Int × List Int)} (hTk : takeE x = (bl, sz, fr, to, its)) (hx : BytesL x) : its.length ≤ 256 ∧ ∀ e ∈ its, BytesL e.2 := by
 unfold takeE at hTk
 split at hTk
 · injection hTk with q1 q2
   injection q2 with q2 q3
   injection q3 with q3 q4
   injection q4 with q4 q5
   subst q5
   obtain ⟨⟨a1, x1, e1⟩, hA⟩ : ∃ z, numR (x.drop 5) 0 256 = z := ⟨_, rfl⟩
   obtain ⟨⟨a2, x2, e2⟩, hB⟩ : ∃ z, numR x1 e1 32 = z := ⟨_, rfl⟩
   obtain ⟨⟨a3, x3, e3⟩, hC⟩ : ∃ z, numR x2 e2 1099511627777 = z := ⟨_, rfl⟩
   obtain ⟨⟨a4, x4, e4⟩, hD⟩ : ∃ z, numR x3 e3 1099511627776 = z := ⟨_, rfl⟩
   obtain ⟨⟨a5, x5, e5⟩, hE⟩ : ∃ z, numR x4 e4 256 = z := ⟨_, rfl⟩
   have h2 := numR_le x1 e1 32 (by decide)
   have h5 := numR_le x4 e4 256 (by decide)
   have s1 := numR_sub (x.drop 5) 0 256
   have s2 := numR_sub x1 e1 32
   have s3 := numR_sub x2 e2 1099511627777
   have s4 := numR_sub x3 e3 1099511627776
   have s5 := numR_sub x4 e4 256
   rw [hA] at s1
   rw [hB] at h2 s2
   rw [hC] at s3
   rw [hD] at s4
   rw [hE] at h5 s5
   dsimp only at h2 h5 s1 s2 s3 s4 s5
   obtain ⟨n0, rfl⟩ : ∃ n : Nat, a2 = (n : Int) := ⟨a2.toNat, by omega⟩
   have hH : headR (x.drop 5) = (a1, (n0 : Int), a3 - 1, a4, a5, x5.drop 4) := by
     unfold headR
     rw [hA]; dsimp only
     rw [hB]; dsimp only
     rw [hC]; dsimp only
     rw [hD]; dsimp only
     rw [hE]
   rw [hH]
   dsimp only
   refine ⟨Nat.le_trans (itemsR_len _ _ _) (by omega), itemsR_bytes n0 _ _ (fun z hz => hx z (List.mem_of_mem_drop (s1 z (s2 z (s3 z (s4 z (s5 z (List.mem_of_mem_drop hz))))))))⟩
 injection hTk with q1 q2
 injection q2 with q2 q3
 injection q3 with q3 q4
 injection q4 with q4 q5
 subst q5
 exact ⟨Nat.zero_le _, fun e he => by cases he⟩
theorem sright_no (bl sz fr to : Int) (its : List (Int × List Int)) (pi : Option Addr) (ni ci : Nat) (w0 : World) (h1 : Rd (fun _ => True) w0 (.slice pi ni ci) (.l 2 (its.map itD))) (hil : its.length ≤ 256) (hno : ¬ StreamOk bl sz fr to its) :
   Calls Tryd.prog 28 #[.agg #[.int .i64 bl, .int .i64 sz, .int .i64 fr, .int .i64 to, .slice pi ni ci]] w0 fun e w' => e = .returned (.bool false) ∧ Below w0.heap.size w0 w' := by
 by_cases hh : HeadOk bl sz fr to
 · refine (sright_any bl sz fr to its pi ni ci w0 h1 hh hil).mono fun e w' h => ?_
   obtain ⟨b, rfl, hb, hbel⟩ := h
   cases b
   · exact ⟨rfl, hbel⟩
   exact absurd (hb.1 rfl) hno
 exact sright_hno bl sz fr to pi ni ci w0 hh
theorem sput_no (bl sz fr to : Int) (its : List (Int × List Int)) (pi : Option Addr) (ni ci : Nat) (w0 : World) (h1 : Rd (fun _ => True) w0 (.slice pi ni ci) (.l 2 (its.map itD))) (hil : its.length ≤ 256) (hno : ¬ StreamOk bl sz fr to its) :
   Calls Tryd.prog 42 #[.agg #[.int .i64 bl, .int .i64 sz, .int .i64 fr, .int .i64 to, .slice pi ni ci]] w0 fun e w' => e = .returned (.tuple #[.slice none 0 0, .int .i64 23]) ∧ Below w0.heap.size w0 w' := by
 obtain rfl : ni = its.length := by obtain ⟨pq, c9, hv, _⟩ := h1.l_shape; injection hv with _ e2 _; rw [List.length_map] at e2; exact e2
 refine ent1 Tryd.func42 rfl Tryd.ntmps42 fun Az Hz => ?_
 have m0 := MemOk.start (fun _ => False) w0
 refine zsr fun K0 hK0 => ?_
 refine plz (e_box Hz m0 20 (cs := [_, _, _, _, _]) rfl rfl rfl fun g1 Az w2 Hz m2 _ _ => ?_)
 refine gz hK0 Hz (.assign rfl <| .assign rfl <| .nil) fun Az Hz => ?_
 refine wsk fun K1 hK1 => ?_
 refine zsr fun K2 hK2 => ?_
 refine goCh Hz (.loadBR m2 (i := 20) rfl rfl U38 rfl fct2 (by simp) (by dsimp only [List.drop, List.take] <;> rfl) .nil) fun Az Hz => ?_
 refine plz (ecb Hz Tryd.func28 rfl m2 (sright_no bl sz fr to its _ _ _ _ ((h1.now' m2 rfl).any) hil hno) fun Az w7 Hz m8 => ?_)
 refine gz hK2 Hz (.not rfl .nil) fun Az Hz => ?_
 refine wct Hz ?_
 refine regS Hz (.assign rfl <| .assign rfl .nil) fun Az Hz => ?_
 refine rt2 Hz ?_
 exact ⟨rfl, m8.below⟩
theorem open_x {o : Bool} (b : List Int) (p : Option Addr) (c : Nat) (w0 : World) (hT : TabOk w0) (h01 : 1 ≤ w0.heap.size) (h0 : Rd (fun _ => True) w0 (.slice p b.length c) (.ns .u8 b)) (hy : BytesL b) (hl : b.length ≤ 10000) (h4 : 4 ≤ b.length) (hO : openB b = o) :
   Calls Tryd.prog 40 #[.slice p b.length c] w0 fun e w' => ∃ (p' : Option Addr) (c' : Nat), e = .returned (.tuple #[.slice p' (openC b).length c', .bool o]) ∧ w'.ownsRow w0.heap.size 5 1 (.slice p' (openC b).length c') (openC b).length ((openC b).map (Value.int .u8)) ∧ Below w0.heap.size w0 w' := by
 obtain ⟨n, hn⟩ : ∃ n, b.length = n + 4 := ⟨b.length - 4, by omega⟩
 have hc := h0.ns_out.cap
 have hN := h0.ns_out.nums
 rw [hn] at hN hc ⊢
 refine (open_own p n c b w0 hT h01 hN hn hc.1 (bytesLB hy) (by omega)).mono fun e w' h => ?_
 obtain ⟨u, rfl, hown, hbel⟩ := h
 obtain ⟨p', c', rfl⟩ := ownsRow_shape hown
 rw [hO]
 exact ⟨p', c', rfl, hown, hbel⟩
theorem read_short (b : List Int) (p : Option Addr) (c : Nat) (w0 : World) (hT : TabOk w0) (h01 : 1 ≤ w0.heap.size) (h0 : Rd (fun _ => True) w0 (.slice p b.length c) (.ns .u8 b)) (hy : BytesL b) (hl : b.length ≤ 10000) (h4 : b.length < 4) (hER : (21 : Int) = errE b) (hne : ∀ bl sz fr to (its : List (Int × List Int)), StreamOk bl sz fr to its → (∀ e ∈ its, BytesL e.2) → strB bl sz fr to its ≠ b) :
   Calls Tryd.prog 23 #[.slice p b.length c] w0 fun e w' => ∃ (bl sz fr to : Int) (its : List (Int × List Int)) (pa : Option Addr) (ca : Nat) (er : Int), e = .returned (.tuple #[.agg #[.int .i64 bl, .int .i64 sz, .int .i64 fr, .int .i64 to, .slice pa (its.map itD).length ca], .int .i64 er]) ∧ ReadIs b bl sz fr to its er ∧ Rd (New w0) w' (.slice pa (its.map itD).length ca) (.l 2 (its.map itD)) ∧ Below w0.heap.size w0 w' := by
 refine ent1 Tryd.func23 rfl Tryd.ntmps23 fun Az Hz => ?_
 have m0 := MemOk.start (fun _ => False) w0
 refine zsr fun K0 hK0 => ?_
 refine plz (e_alloc Hz m0 20 fct17 rfl fun g1 Az w2 Hz m2 _ _ => ?_)
 refine gz hK0 Hz (.assign rfl .nil) fun Az Hz => ?_
 refine wsk fun K1 hK1 => ?_
 refine regS Hz (.move rfl <| .len rfl U22 <| .lss rfl rfl .nil) fun Az Hz => ?_
 refine bc Hz 11 ?_ ?_
 rotate_left
 · intro hb _; exact absurd hb (by simp; omega)
 clear Hz; intro _ Hz
 refine wct Hz ?_
 refine zsr fun K2 hK2 => ?_
 refine goCh Hz (.build rfl fct17 fl38rdsh rfl (by dsimp only [setL, List.set] <;> rfl) .nil) fun Az Hz => ?_
 refine plz (stw Hz m2 20 fct2 fun w10 m10 _ => ?_)
 refine gz hK2 Hz (.assign rfl .nil) fun Az Hz => ?_
 refine rtd (retCT (fn := Tryd.f23) Hz m10 (i := 20) rfl rfl rfl rfl U38 rfl fct2 ?_)
 exact ⟨0, 0, 0, 0, [], none, 0, _, rfl, .inr ⟨hER, rfl, rfl, rfl, rfl, rfl, hne⟩, .l0 none 0 2, m10.below⟩
theorem read_sum (b : List Int) (p : Option Addr) (c : Nat) (w0 : World) (hT : TabOk w0) (h01 : 1 ≤ w0.heap.size) (h0 : Rd (fun _ => True) w0 (.slice p b.length c) (.ns .u8 b)) (hy : BytesL b) (hl : b.length ≤ 10000) (h4 : 4 ≤ b.length) (hO : openB b = false) (hER : (24 : Int) = errE b) (hne : ∀ bl sz fr to (its : List (Int × List Int)), StreamOk bl sz fr to its → (∀ e ∈ its, BytesL e.2) → strB bl sz fr to its ≠ b) :
   Calls Tryd.prog 23 #[.slice p b.length c] w0 fun e w' => ∃ (bl sz fr to : Int) (its : List (Int × List Int)) (pa : Option Addr) (ca : Nat) (er : Int), e = .returned (.tuple #[.agg #[.int .i64 bl, .int .i64 sz, .int .i64 fr, .int .i64 to, .slice pa (its.map itD).length ca], .int .i64 er]) ∧ ReadIs b bl sz fr to its er ∧ Rd (New w0) w' (.slice pa (its.map itD).length ca) (.l 2 (its.map itD)) ∧ Below w0.heap.size w0 w' := by
 refine ent1 Tryd.func23 rfl Tryd.ntmps23 fun Az Hz => ?_
 have m0 := MemOk.start (fun _ => False) w0
 refine zsr fun K0 hK0 => ?_
 refine plz (e_alloc Hz m0 20 fct17 rfl fun g1 Az w2 Hz m2 _ _ => ?_)
 refine gz hK0 Hz (.assign rfl .nil) fun Az Hz => ?_
 refine wsk fun K1 hK1 => ?_
 refine regS Hz (.move rfl <| .len rfl U22 <| .lss rfl rfl .nil) fun Az Hz => ?_
 refine bc Hz 11 ?_ ?_
 · intro hb _; exact absurd hb (by simp; omega)
 clear Hz; intro _ Hz
 refine wcf Hz ?_
 refine zss (hK1 _ _ ?_)
 refine zsr fun K2 hK2 => ?_
 refine goCh Hz (.move rfl .nil) fun Az Hz => ?_
 refine plz (ecn Hz Tryd.func40 rfl m2 21 (open_x (hO := hO) b _ _ _ (hT.below m2.below h01) (Nat.le_trans h01 m2.below.size) ((h0.now' m2 rfl).any) hy (by omega) (by omega)) fun p10 c10 Az w10 Hz m11 => ?_)
 refine gz hK2 Hz (.move rfl <| .extract rfl rfl <| .extract rfl rfl <| .assign rfl <| .assign rfl <| .nil) fun Az Hz => ?_
 refine wsk fun K3 hK3 => ?_
 replace Hz := Hz.oz [0, 2, 3, 4, 5]
 refine regS Hz (.move rfl <| .not rfl .nil) fun Az Hz => ?_
 refine wct Hz ?_
 refine zsr fun K4 hK4 => ?_
 refine goCh Hz (.build rfl fct17 fl38rdsu rfl (by dsimp only [setL, List.set] <;> rfl) .nil) fun Az Hz => ?_
 refine plz (stw Hz m11 20 fct2 fun w23 m23 _ => ?_)
 refine gz hK4 Hz (.assign rfl .nil) fun Az Hz => ?_
 refine rtd (retCT (fn := Tryd.f23) Hz m23 (i := 20) rfl rfl rfl rfl U38 rfl fct2 ?_)
 exact ⟨0, 0, 0, 0, [], none, 0, _, rfl, .inr ⟨hER, rfl, rfl, rfl, rfl, rfl, hne⟩, .l0 none 0 2, m23.below⟩
theorem read_form (b : List Int) (p : Option Addr) (c : Nat) (w0 : World) (hT : TabOk w0) (h01 : 1 ≤ w0.heap.size) (h0 : Rd (fun _ => True) w0 (.slice p b.length c) (.ns .u8 b)) (hy : BytesL b) (hl : b.length ≤ 10000) (h4 : 4 ≤ b.length) (hO : openB b = true) (bl sz fr to : Int) (its : List (Int × List Int)) (hTk : takeE (openC b) = (bl, sz, fr, to, its)) (hxl : (openC b).length ≤ 1000000) (hxy : BytesL (openC b)) (hil : its.length ≤ 256) (hno : ¬ StreamOk bl sz fr to its) (hER : (20 : Int) = errE b) (hne : ∀ bl sz fr to (its : List (Int × List Int)), StreamOk bl sz fr to its → (∀ e ∈ its, BytesL e.2) → strB bl sz fr to its ≠ b) :
   Calls Tryd.prog 23 #[.slice p b.length c] w0 fun e w' => ∃ (bl sz fr to : Int) (its : List (Int × List Int)) (pa : Option Addr) (ca : Nat) (er : Int), e = .returned (.tuple #[.agg #[.int .i64 bl, .int .i64 sz, .int .i64 fr, .int .i64 to, .slice pa (its.map itD).length ca], .int .i64 er]) ∧ ReadIs b bl sz fr to its er ∧ Rd (New w0) w' (.slice pa (its.map itD).length ca) (.l 2 (its.map itD)) ∧ Below w0.heap.size w0 w' := by
 refine ent1 Tryd.func23 rfl Tryd.ntmps23 fun Az Hz => ?_
 have m0 := MemOk.start (fun _ => False) w0
 refine zsr fun K0 hK0 => ?_
 refine plz (e_alloc Hz m0 20 fct17 rfl fun g1 Az w2 Hz m2 _ _ => ?_)
 refine gz hK0 Hz (.assign rfl .nil) fun Az Hz => ?_
 refine wsk fun K1 hK1 => ?_
 refine regS Hz (.move rfl <| .len rfl U22 <| .lss rfl rfl .nil) fun Az Hz => ?_
 refine bc Hz 11 ?_ ?_
 · intro hb _; exact absurd hb (by simp; omega)
 clear Hz; intro _ Hz
 refine wcf Hz ?_
 refine zss (hK1 _ _ ?_)
 refine zsr fun K2 hK2 => ?_
 refine goCh Hz (.move rfl .nil) fun Az Hz => ?_
 refine plz (ecn Hz Tryd.func40 rfl m2 21 (open_x (hO := hO) b _ _ _ (hT.below m2.below h01) (Nat.le_trans h01 m2.below.size) ((h0.now' m2 rfl).any) hy (by omega) (by omega)) fun p10 c10 Az w10 Hz m11 => ?_)
 refine gz hK2 Hz (.move rfl <| .extract rfl rfl <| .extract rfl rfl <| .assign rfl <| .assign rfl <| .nil) fun Az Hz => ?_
 refine wsk fun K3 hK3 => ?_
 replace Hz := Hz.oz [0, 2, 3, 4, 5]
 refine regS Hz (.move rfl <| .not rfl .nil) fun Az Hz => ?_
 refine wcf Hz ?_
 refine zss (hK3 _ _ ?_)
 refine zsr fun K4 hK4 => ?_
 refine goCh Hz (.move rfl .nil) fun Az Hz => ?_
 have m23 := m11.freezeN 21 rfl
 refine plz (ecl Hz Tryd.func41 rfl (take_e (hTk := hTk) _ _ _ _ hxl hxy (m23.into [(1, 21)] (by decide) rfl)) ?_)
 rintro e w24 ⟨p24, c24, rfl, hm24⟩
 have mx24 := m23.back hm24 [(22, 2)] (by decide); clear hm24 m23
 have m24 := mx24.oz [22, 20]
 refine ⟨_, rfl, ?_⟩; intro Az Hz
 refine plz (e_alloc Hz m24 23 fct17 rfl fun g26 Az w27 Hz m27 _ _ => ?_)
 refine plz (stw Hz m27 23 fct2 fun w28 m28 _ => ?_)
 refine znl (hK4 _ _ ?_)
 refine wsk fun K5 hK5 => ?_
 replace Hz := Hz.oz [0, 2, 3, 6]
 refine zsr fun K6 hK6 => ?_
 refine goCh Hz (.loadBR m28 (i := 23) rfl rfl U38 rfl fct2 (by simp) (by dsimp only [List.drop, List.take] <;> rfl) .nil) fun Az Hz => ?_
 refine plz (ecb Hz Tryd.func42 rfl m28 (sput_no bl sz fr to its _ _ _ _ ((m28.rd (i := 22) rfl).any) hil hno) fun Az w32 Hz m33 => ?_)
 refine gz hK6 Hz (.move rfl <| .extract rfl rfl <| .extract rfl rfl <| .assign rfl <| .assign rfl <| .nil) fun Az Hz => ?_
 refine zsr fun K7 hK7 => ?_
 refine goCh Hz (.move rfl <| .neq rfl rfl <| .move rfl .nil) fun Az Hz => ?_
 refine bc Hz 30 ?_ ?_
 rotate_left
 · intro hb _; exact absurd hb (by simp)
 clear Hz; intro _ Hz
 refine gz hK7 Hz (.sk <| .sk <| .sk <| .sk <| .pickT rfl rfl <| .nil) fun Az Hz => ?_
 refine wct Hz ?_
 replace Hz := Hz.oz [2, 3, 6]
 refine zsr fun K8 hK8 => ?_
 refine goCh Hz (.build rfl fct17 fl38rdfo rfl (by dsimp only [setL, List.set] <;> rfl) .nil) fun Az Hz => ?_
 refine plz (stw Hz m33 20 fct2 fun w55 m55 _ => ?_)
 refine gz hK8 Hz (.assign rfl .nil) fun Az Hz => ?_
 refine rtd (retCT (fn := Tryd.f23) Hz m55 (i := 20) rfl rfl rfl rfl U38 rfl fct2 ?_)
 exact ⟨0, 0, 0, 0, [], none, 0, _, rfl, .inr ⟨hER, rfl, rfl, rfl, rfl, rfl, hne⟩, .l0 none 0 2, m55.below⟩
theorem read_differ (b : List Int) (p : Option Addr) (c : Nat) (w0 : World) (hT : TabOk w0) (h01 : 1 ≤ w0.heap.size) (h0 : Rd (fun _ => True) w0 (.slice p b.length c) (.ns .u8 b)) (hy : BytesL b) (hl : b.length ≤ 10000) (h4 : 4 ≤ b.length) (hO : openB b = true) (bl sz fr to : Int) (its : List (Int × List Int)) (hTk : takeE (openC b) = (bl, sz, fr, to, its)) (hxl : (openC b).length ≤ 1000000) (hxy : BytesL (openC b)) (hs : StreamOk bl sz fr to its) (hby : ∀ e ∈ its, BytesL e.2) (hq : ¬ strB bl sz fr to its = b) (hER : (20 : Int) = errE b) (hne : ∀ bl sz fr to (its : List (Int × List Int)), StreamOk bl sz fr to its → (∀ e ∈ its, BytesL e.2) → strB bl sz fr to its ≠ b) :
   Calls Tryd.prog 23 #[.slice p b.length c] w0 fun e w' => ∃ (bl sz fr to : Int) (its : List (Int × List Int)) (pa : Option Addr) (ca : Nat) (er : Int), e = .returned (.tuple #[.agg #[.int .i64 bl, .int .i64 sz, .int .i64 fr, .int .i64 to, .slice pa (its.map itD).length ca], .int .i64 er]) ∧ ReadIs b bl sz fr to its er ∧ Rd (New w0) w' (.slice pa (its.map itD).length ca) (.l 2 (its.map itD)) ∧ Below w0.heap.size w0 w' := by
 refine ent1 Tryd.func23 rfl Tryd.ntmps23 fun Az Hz => ?_
 have m0 := MemOk.start (fun _ => False) w0
 refine zsr fun K0 hK0 => ?_
 refine plz (e_alloc Hz m0 20 fct17 rfl fun g1 Az w2 Hz m2 _ _ => ?_)
 refine gz hK0 Hz (.assign rfl .nil) fun Az Hz => ?_
 refine wsk fun K1 hK1 => ?_
 refine regS Hz (.move rfl <| .len rfl U22 <| .lss rfl rfl .nil) fun Az Hz => ?_
 refine bc Hz 11 ?_ ?_
 · intro hb _; exact absurd hb (by simp; omega)
 clear Hz; intro _ Hz
 refine wcf Hz ?_
 refine zss (hK1 _ _ ?_)
 refine zsr fun K2 hK2 => ?_
 refine goCh Hz (.move rfl .nil) fun Az Hz => ?_
 refine plz (ecn Hz Tryd.func40 rfl m2 21 (open_x (hO := hO) b _ _ _ (hT.below m2.below h01) (Nat.le_trans h01 m2.below.size) ((h0.now' m2 rfl).any) hy (by omega) (by omega)) fun p10 c10 Az w10 Hz m11 => ?_)
 refine gz hK2 Hz (.move rfl <| .extract rfl rfl <| .extract rfl rfl <| .assign rfl <| .assign rfl <| .nil) fun Az Hz => ?_
 refine wsk fun K3 hK3 => ?_
 replace Hz := Hz.oz [0, 2, 3, 4, 5]
 refine regS Hz (.move rfl <| .not rfl .nil) fun Az Hz => ?_
 refine wcf Hz ?_
 refine zss (hK3 _ _ ?_)
 refine zsr fun K4 hK4 => ?_
 refine goCh Hz (.move rfl .nil) fun Az Hz => ?_
 have m23 := m11.freezeN 21 rfl
 refine plz (ecl Hz Tryd.func41 rfl (take_e (hTk := hTk) _ _ _ _ hxl hxy (m23.into [(1, 21)] (by decide) rfl)) ?_)
 rintro e w24 ⟨p24, c24, rfl, hm24⟩
 have mx24 := m23.back hm24 [(22, 2)] (by decide); clear hm24 m23
 have m24 := mx24.oz [22, 20]
 refine ⟨_, rfl, ?_⟩; intro Az Hz
 refine plz (e_alloc Hz m24 23 fct17 rfl fun g26 Az w27 Hz m27 _ _ => ?_)
 refine plz (stw Hz m27 23 fct2 fun w28 m28 _ => ?_)
 refine znl (hK4 _ _ ?_)
 refine wsk fun K5 hK5 => ?_
 replace Hz := Hz.oz [0, 2, 3, 6]
 refine zsr fun K6 hK6 => ?_
 refine goCh Hz (.loadBR m28 (i := 23) rfl rfl U38 rfl fct2 (by simp) (by dsimp only [List.drop, List.take] <;> rfl) .nil) fun Az Hz => ?_
 refine plz (ecn Hz Tryd.func42 rfl m28 24 (sput_yes bl sz fr to its _ _ _ _ (hT.below m28.below h01) (Nat.le_trans h01 m28.below.size) ((m28.rd (i := 22) rfl).any) hs hby) fun p32 c32 Az w32 Hz m33 => ?_)
 refine gz hK6 Hz (.move rfl <| .extract rfl rfl <| .extract rfl rfl <| .assign rfl <| .assign rfl <| .nil) fun Az Hz => ?_
 refine zsr fun K7 hK7 => ?_
 refine goCh Hz (.move rfl <| .neq rfl rfl <| .move rfl .nil) fun Az Hz => ?_
 refine bc Hz 30 ?_ ?_
 · intro hb _; exact absurd hb (by simp)
 clear Hz; intro _ Hz
 refine goCh Hz (.moveZ rfl <| .moveZ rfl .nil) fun Az Hz => ?_
 have m49 := m33.freezeN 24 rfl
 refine stz Hz (ecb Hz Tryd.func43 rfl m49 (pbeq (b := false) _ ((m49.rd (i := 24) rfl).any) ((h0.now' m49 rfl).any) (strBytes hs hby) hy (by simp [hq])) fun Az w50 Hz m51 => ?_)
 refine gz hK7 Hz (.notZ rfl <| .pickF rfl rfl <| .nil) fun Az Hz => ?_
 refine wct Hz ?_
 replace Hz := Hz.oz [2, 3, 6]
 refine zsr fun K8 hK8 => ?_
 refine goCh Hz (.build rfl fct17 fl38rddi rfl (by dsimp only [setL, List.set] <;> rfl) .nil) fun Az Hz => ?_
 refine plz (stw Hz m51 20 fct2 fun w58 m58 _ => ?_)
 refine gz hK8 Hz (.assign rfl .nil) fun Az Hz => ?_
 refine rtd (retCT (fn := Tryd.f23) Hz m58 (i := 20) rfl rfl rfl rfl U38 rfl fct2 ?_)
 exact ⟨0, 0, 0, 0, [], none, 0, _, rfl, .inr ⟨hER, rfl, rfl, rfl, rfl, rfl, hne⟩, .l0 none 0 2, m58.below⟩
theorem read_same (b : List Int) (p : Option Addr) (c : Nat) (w0 : World) (hT : TabOk w0) (h01 : 1 ≤ w0.heap.size) (h0 : Rd (fun _ => True) w0 (.slice p b.length c) (.ns .u8 b)) (hy : BytesL b) (hl : b.length ≤ 10000) (h4 : 4 ≤ b.length) (hO : openB b = true) (bl sz fr to : Int) (its : List (Int × List Int)) (hTk : takeE (openC b) = (bl, sz, fr, to, its)) (hxl : (openC b).length ≤ 1000000) (hxy : BytesL (openC b)) (hs : StreamOk bl sz fr to its) (hby : ∀ e ∈ its, BytesL e.2) (hq : strB bl sz fr to its = b) :
   Calls Tryd.prog 23 #[.slice p b.length c] w0 fun e w' => ∃ (bl sz fr to : Int) (its : List (Int × List Int)) (pa : Option Addr) (ca : Nat) (er : Int), e = .returned (.tuple #[.agg #[.int .i64 bl, .int .i64 sz, .int .i64 fr, .int .i64 to, .slice pa (its.map itD).length ca], .int .i64 er]) ∧ ReadIs b bl sz fr to its er ∧ Rd (New w0) w' (.slice pa (its.map itD).length ca) (.l 2 (its.map itD)) ∧ Below w0.heap.size w0 w' := by
 refine ent1 Tryd.func23 rfl Tryd.ntmps23 fun Az Hz => ?_
 have m0 := MemOk.start (fun _ => False) w0
 refine zsr fun K0 hK0 => ?_
 refine plz (e_alloc Hz m0 20 fct17 rfl fun g1 Az w2 Hz m2 _ _ => ?_)
 refine gz hK0 Hz (.assign rfl .nil) fun Az Hz => ?_
 refine wsk fun K1 hK1 => ?_
 refine regS Hz (.move rfl <| .len rfl U22 <| .lss rfl rfl .nil) fun Az Hz => ?_
 refine bc Hz 11 ?_ ?_
 · intro hb _; exact absurd hb (by simp; omega)
 clear Hz; intro _ Hz
 refine wcf Hz ?_
 refine zss (hK1 _ _ ?_)
 refine zsr fun K2 hK2 => ?_
 refine goCh Hz (.move rfl .nil) fun Az Hz => ?_
 refine plz (ecn Hz Tryd.func40 rfl m2 21 (open_x (hO := hO) b _ _ _ (hT.below m2.below h01) (Nat.le_trans h01 m2.below.size) ((h0.now' m2 rfl).any) hy (by omega) (by omega)) fun p10 c10 Az w10 Hz m11 => ?_)
 refine gz hK2 Hz (.move rfl <| .extract rfl rfl <| .extract rfl rfl <| .assign rfl <| .assign rfl <| .nil) fun Az Hz => ?_
 refine wsk fun K3 hK3 => ?_
 replace Hz := Hz.oz [0, 2, 3, 4, 5]
 refine regS Hz (.move rfl <| .not rfl .nil) fun Az Hz => ?_
 refine wcf Hz ?_
 refine zss (hK3 _ _ ?_)
 refine zsr fun K4 hK4 => ?_
 refine goCh Hz (.move rfl .nil) fun Az Hz => ?_
 have m23 := m11.freezeN 21 rfl
 refine plz (ecl Hz Tryd.func41 rfl (take_e (hTk := hTk) _ _ _ _ hxl hxy (m23.into [(1, 21)] (by decide) rfl)) ?_)
 rintro e w24 ⟨p24, c24, rfl, hm24⟩
 have mx24 := m23.back hm24 [(22, 2)] (by decide); clear hm24 m23
 have m24 := mx24.oz [22, 20]
 refine ⟨_, rfl, ?_⟩; intro Az Hz
 refine plz (e_alloc Hz m24 23 fct17 rfl fun g26 Az w27 Hz m27 _ _ => ?_)
 refine plz (stw Hz m27 23 fct2 fun w28 m28 _ => ?_)
 refine znl (hK4 _ _ ?_)
 refine wsk fun K5 hK5 => ?_
 replace Hz := Hz.oz [0, 2, 3, 6]
 refine zsr fun K6 hK6 => ?_
 refine goCh Hz (.loadBR m28 (i := 23) rfl rfl U38 rfl fct2 (by simp) (by dsimp only [List.drop, List.take] <;> rfl) .nil) fun Az Hz => ?_
 refine plz (ecn Hz Tryd.func42 rfl m28 24 (sput_yes bl sz fr to its _ _ _ _ (hT.below m28.below h01) (Nat.le_trans h01 m28.below.size) ((m28.rd (i := 22) rfl).any) hs hby) fun p32 c32 Az w32 Hz m33 => ?_)
 refine gz hK6 Hz (.move rfl <| .extract rfl rfl <| .extract rfl rfl <| .assign rfl <| .assign rfl <| .nil) fun Az Hz => ?_
 refine zsr fun K7 hK7 => ?_
 refine goCh Hz (.move rfl <| .neq rfl rfl <| .move rfl .nil) fun Az Hz => ?_
 refine bc Hz 30 ?_ ?_
 · intro hb _; exact absurd hb (by simp)
 clear Hz; intro _ Hz
 refine goCh Hz (.moveZ rfl <| .moveZ rfl .nil) fun Az Hz => ?_
 have m49 := m33.freezeN 24 rfl
 refine stz Hz (ecb Hz Tryd.func43 rfl m49 (pbeq (b := true) _ ((m49.rd (i := 24) rfl).any) ((h0.now' m49 rfl).any) (strBytes hs hby) hy (by simp [hq])) fun Az w50 Hz m51 => ?_)
 refine gz hK7 Hz (.notZ rfl <| .pickF rfl rfl <| .nil) fun Az Hz => ?_
 refine wcf Hz ?_
 refine zss (hK5 _ _ ?_)
 replace Hz := Hz.oz [2, 3, 6]
 refine zsr fun K8 hK8 => ?_
 refine goCh Hz (.loadBR m51 (i := 23) rfl rfl U38 rfl fct2 (by simp) (by dsimp only [List.drop, List.take] <;> rfl) .nil) fun Az Hz => ?_
 refine plz (stw Hz m51 20 fct2 fun w58 m58 _ => ?_)
 refine gz hK8 Hz (.assign rfl .nil) fun Az Hz => ?_
 refine rtd (retCT (fn := Tryd.f23) Hz m58 (i := 20) rfl rfl rfl rfl U38 rfl fct2 ?_)
 exact ⟨_, _, _, _, _, _, _, _, rfl, .inl ⟨rfl, hs, hby, hq⟩, m58.outF (i := 22) rfl, m58.below⟩
theorem sread_any (b : List Int) (p : Option Addr) (c : Nat) (w0 : World) (hT : TabOk w0) (h01 : 1 ≤ w0.heap.size) (h0 : Rd (fun _ => True) w0 (.slice p b.length c) (.ns .u8 b)) (hy : BytesL b) (hl : b.length ≤ 10000) :
   Calls Tryd.prog 23 #[.slice p b.length c] w0 fun e w' => ∃ (bl sz fr to : Int) (its : List (Int × List Int)) (pa : Option Addr) (ca : Nat) (er : Int), e = .returned (.tuple #[.agg #[.int .i64 bl, .int .i64 sz, .int .i64 fr, .int .i64 to, .slice pa (its.map itD).length ca], .int .i64 er]) ∧ ReadIs b bl sz fr to its er ∧ Rd (New w0) w' (.slice pa (its.map itD).length ca) (.l 2 (its.map itD)) ∧ Below w0.heap.size w0 w' := by
 have hop : ∀ bl sz fr to (its : List (Int × List Int)), strB bl sz fr to its = b → 4 ≤ b.length ∧ openB b = true ∧ openC b = bodyB bl sz fr to its := fun bl sz fr to its h => by
   have h9 := open_str bl sz fr to its
   rw [h] at h9
   exact ⟨h9.2.2, h9.1, h9.2.1⟩
 by_cases h4 : b.length < 4
 · exact read_short b p c w0 hT h01 h0 hy hl h4 (by unfold errE; rw [if_pos h4]) (fun bl sz fr to its _ _ h => by have := (hop bl sz fr to its h).1; omega)
 cases hO : openB b with
 | false => exact read_sum b p c w0 hT h01 h0 hy hl (by omega) hO (by unfold errE; rw [if_neg h4, if_pos hO]) (fun bl sz fr to its _ _ h => by have := (hop bl sz fr to its h).2.1; rw [hO] at this; cases this)
 | true =>
   have hER : (20 : Int) = errE b := by unfold errE; rw [if_neg h4, if_neg (by rw [hO]; decide)]
   have hC : openC b = b.take (b.length - 4) := by unfold openC; rw [if_pos hO]
   have hxl : (openC b).length ≤ 1000000 := by rw [hC, List.length_take]; omega
   have hxy : BytesL (openC b) := fun z hz => hy z (List.mem_of_mem_take (by rw [← hC]; exact hz))
   obtain ⟨⟨bl, sz, fr, to, its⟩, hTk⟩ : ∃ z, takeE (openC b) = z := ⟨_, rfl⟩
   obtain ⟨hil, hby⟩ := takeE_ok hTk hxy
   have key : ∀ bl' sz' fr' to' (its' : List (Int × List Int)), StreamOk bl' sz' fr' to' its' → strB bl' sz' fr' to' its' = b → (bl, sz, fr, to, its) = (bl', sz', fr', to', its') := fun bl' sz' fr' to' its' h1 h2 => by
     rw [← hTk, (hop _ _ _ _ _ h2).2.2]; exact takeE_body h1
   by_cases hs : StreamOk bl sz fr to its
   · by_cases hq : strB bl sz fr to its = b
     · exact read_same b p c w0 hT h01 h0 hy hl (by omega) hO bl sz fr to its hTk hxl hxy hs hby hq
     refine read_differ b p c w0 hT h01 h0 hy hl (by omega) hO bl sz fr to its hTk hxl hxy hs hby hq hER (fun bl' sz' fr' to' its' h1 _ h2 => hq ?_)
     have h3 := key _ _ _ _ _ h1 h2
     injection h3 with q1 q2
     injection q2 with q2 q3
     injection q3 with q3 q4
     injection q4 with q4 q5
     subst q1; subst q2; subst q3; subst q4; subst q5
     exact h2
   refine read_form b p c w0 hT h01 h0 hy hl (by omega) hO bl sz fr to its hTk hxl hxy hil hs hER (fun bl' sz' fr' to' its' h1 _ h2 => hs ?_)
   have h3 := key _ _ _ _ _ h1 h2
   injection h3 with q1 q2
   injection q2 with q2 q3
   injection q3 with q3 q4
   injection q4 with q4 q5
   subst q1; subst q2; subst q3; subst q4; subst q5
   exact h1
end Go.Proofs.YtcccomafnmdlfaaDoor.K
