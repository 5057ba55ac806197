/- entry.time, entry.dataRight, entry.Right; parts.Nums. -/
import Derived.Test.YtkfcpnmdmoeioaaPackG
import Derived.Test.YtkfcpnmdmoeioaaGen
import Derived.Test.YtkfcpnmdmoeioaaStage2
namespace Go.Proofs.Ytkfcpnmdmoeioaa.K
open Go.ChangeShapes Go.WideShapes Go.ChangeAt Go.RowKit
set_option linter.unusedVariables false

def timeOk (n low : Int) : Bool := decide (low ≤ n ∧ n ≤ 1099511627776)
theorem time_any (n low : Int) (w : World) :
    Calls Try.prog 33 #[.int .i64 n, .int .i64 low] w fun e w' => e = .returned (.bool (timeOk n low)) ∧ w' = w := by
  by_cases h1 : low ≤ n
  · by_cases h2 : n ≤ 1099511627776
    · go_enter Try.func33, Try.ntmps33
      go_wp2
      go_ret
      exact ⟨ret_bool (by simp [timeOk, h1, h2]), rfl⟩
    · go_enter Try.func33, Try.ntmps33
      go_wp2
      go_ret
      exact ⟨ret_bool (by simp [timeOk]; omega), rfl⟩
  · go_enter Try.func33, Try.ntmps33
    go_wp2
    go_ret
    exact ⟨ret_bool (by simp [timeOk]; omega), rfl⟩

/-- May entries of that kind have that data? -/
def dataOk (k : Int) (d : List Int) : Bool :=
  if k = 0 then decide (d.length = 0) else if k = 1 then decide (d.length ≤ 32767) else if k = 2 then decide (d.length = 2 ∧ d.getD 0 0 < 7 ∧ d.getD 1 0 ≤ 1) else false
set_option maxRecDepth 100000 in
theorem dataRight_any (k : Int) (v : Value) (d : List Int) (w : World) (hv : IsNums .u8 w v d) :
    Calls Try.prog 34 #[.int .i64 k, v] w fun e w' => e = .returned (.bool (dataOk k d)) ∧ w' = w := by
  obtain ⟨a, c, rfl, hd⟩ := hv
  by_cases k0 : k = 0
  · subst k0
    obtain ⟨n, hn⟩ : ∃ n, d.length = n := ⟨_, rfl⟩
    rw [hn]
    have hz : dataOk 0 d = decide (n = 0) := by unfold dataOk; rw [if_pos rfl, hn]
    rw [hz]
    clear hd hz hn
    by_cases n0 : n = 0
    · subst n0
      go_enter Try.func34, Try.ntmps34
      go_wp2
      go_ret
      exact ⟨rfl, rfl⟩
    · have nI : ¬ (n : Int) = 0 := by omega
      go_enter Try.func34, Try.ntmps34
      go_wp2
      go_ret
      exact ⟨ret_bool (by simp [n0]), rfl⟩
  · by_cases k1 : k = 1
    · subst k1
      obtain ⟨n, hn⟩ : ∃ n, d.length = n := ⟨_, rfl⟩
      rw [hn]
      have hz : dataOk 1 d = decide (n ≤ 32767) := by unfold dataOk; rw [if_neg (by decide), if_pos rfl, hn]
      rw [hz]
      clear hd hz hn k0
      by_cases n0 : n ≤ 32767
      · have nI : (n : Int) ≤ 32767 := by omega
        go_enter Try.func34, Try.ntmps34
        go_wp2
        go_ret
        exact ⟨ret_bool (by simp [n0]), rfl⟩
      · have nI : ¬ (n : Int) ≤ 32767 := by omega
        go_enter Try.func34, Try.ntmps34
        go_wp2
        go_ret
        exact ⟨ret_bool (by simp [n0]), rfl⟩
    · by_cases k2 : k = 2
      · subst k2
        have hz : dataOk 2 d = decide (d.length = 2 ∧ d.getD 0 0 < 7 ∧ d.getD 1 0 ≤ 1) := by unfold dataOk; rw [if_neg (by decide), if_neg (by decide), if_pos rfl]
        rw [hz]
        obtain ⟨n, hn⟩ : ∃ n, d.length = n := ⟨_, rfl⟩
        rw [hn] at hd ⊢
        have HN := Lib.hid hn
        clear hz hn k0 k1
        by_cases n0 : n = 2
        · subst n0
          obtain hd | ⟨b, off, rfl, hlt, hc⟩ := hd
          · omega
          have c0 := hc 0 (by omega)
          have c1 := hc 1 (by omega)
          obtain ⟨x, hx⟩ : ∃ x, d.getD 0 0 = x := ⟨_, rfl⟩
          obtain ⟨y, hy⟩ : ∃ x, d.getD 1 0 = x := ⟨_, rfl⟩
          rw [hx] at c0 ⊢
          rw [hy] at c1 ⊢
          rw [Nat.add_zero] at c0
          clear hc hx hy
          by_cases x0 : x < 7
          · by_cases y0 : y ≤ 1
            · go_enter Try.func34, Try.ntmps34
              go_wp2
              go_ret
              exact ⟨ret_bool (by simp [x0, y0]), rfl⟩
            · go_enter Try.func34, Try.ntmps34
              go_wp2
              go_ret
              exact ⟨ret_bool (by simp; omega), rfl⟩
          · go_enter Try.func34, Try.ntmps34
            go_wp2
            go_ret
            exact ⟨ret_bool (by simp; omega), rfl⟩
        · have nI : ¬ (n : Int) = 2 := by omega
          clear hd
          go_enter Try.func34, Try.ntmps34
          go_wp2
          go_ret
          exact ⟨ret_bool (by simp [n0]), rfl⟩
      · have hz : dataOk k d = false := by unfold dataOk; rw [if_neg k0, if_neg k1, if_neg k2]
        rw [hz]
        clear hd hz
        go_enter Try.func34, Try.ntmps34
        go_wp2
        go_ret
        exact ⟨rfl, rfl⟩

/-- An entry as a value. -/
def entV (i t k : Int) (v : Value) : Value := .agg #[.int .i64 i, .int .i64 t, .int .i64 k, v]
def entOk (i t k : Int) (d : List Int) : Bool := timeOk i 1 && timeOk t 0 && dataOk k d
set_option maxRecDepth 100000 in
theorem entRight_any (i t k : Int) (v : Value) (d : List Int) (w : World) (hv : IsNums .u8 w v d) :
    Calls Try.prog 11 #[entV i t k v] w fun e w' => e = .returned (.bool (entOk i t k d)) ∧ Below w.heap.size w w' := by
  have hb := (Below.refl w.heap.size w).alloc (Nat.le_refl _) (.cells #[.int .i64 i, .int .i64 t, .int .i64 k, v] 24)
  have hx := Blk.alloc w 24 #[.int .i64 i, .int .i64 t, .int .i64 k, v]
  have hn := hv.alloc (.cells #[.int .i64 i, .int .i64 t, .int .i64 k, v] 24)
  obtain ⟨a, c, rfl, -⟩ := id hv
  have x0 := hx.cell 0
  have x1 := hx.cell 1
  have x2 := hx.cell 2
  have x3 := hx.cell 3
  have B := Lib.hid hb
  have HNN := Lib.hid hn
  unfold entV
  cases h1 : timeOk i 1 with
  | false =>
    have hz : entOk i t k d = false := by unfold entOk; rw [h1]; rfl
    rw [hz]
    have H1 := Lib.hid h1
    clear hb hx hn hv h1 hz
    go_enter Try.func11, Try.ntmps11
    go_wp2_with fail
    refine (time_any i 1 _).mono ?_
    rintro e w1 ⟨rfl, rfl⟩
    rw [H1.out]
    go_wp2
    go_ret
    exact ⟨rfl, B.out⟩
  | true =>
    have H1 := Lib.hid h1
    cases h2 : timeOk t 0 with
    | false =>
      have hz : entOk i t k d = false := by unfold entOk; rw [h1, h2]; rfl
      rw [hz]
      have H2 := Lib.hid h2
      clear hb hx hn hv h1 h2 hz
      go_enter Try.func11, Try.ntmps11
      go_wp2_with fail
      refine (time_any i 1 _).mono ?_
      rintro e w1 ⟨rfl, rfl⟩
      rw [H1.out]
      go_wp2_with fail
      refine (time_any t 0 _).mono ?_
      rintro e w1 ⟨rfl, rfl⟩
      rw [H2.out]
      go_wp2
      go_ret
      exact ⟨rfl, B.out⟩
    | true =>
      have hz : entOk i t k d = dataOk k d := by unfold entOk; rw [h1, h2]; rfl
      rw [hz]
      have H2 := Lib.hid h2
      clear hb hx hn hv h1 h2 hz
      go_enter Try.func11, Try.ntmps11
      go_wp2_with fail
      refine (time_any i 1 _).mono ?_
      rintro e w1 ⟨rfl, rfl⟩
      rw [H1.out]
      go_wp2_with fail
      refine (time_any t 0 _).mono ?_
      rintro e w1 ⟨rfl, rfl⟩
      rw [H2.out]
      go_wp2_with fail
      refine (dataRight_any k _ d _ HNN.out).mono ?_
      rintro e w1 ⟨rfl, rfl⟩
      obtain ⟨bq, hbq⟩ : ∃ b, dataOk k d = b := ⟨_, rfl⟩
      rw [hbq]
      go_wp2
      go_ret
      exact ⟨by rw [hbq]; rfl, B.out⟩

set_option maxRecDepth 100000 in
set_option maxHeartbeats 1000000 in
theorem nums_any (v : Value) (ns : List Int) (w : World) (hv : IsNums .i64 w v ns) (hb : ∀ j, j < ns.length → 0 ≤ ns.getD j 0 ∧ ns.getD j 0 ≤ 9223372036854775807) (hl : ns.length ≤ 1000) :
    Calls Try.prog 29 #[v] w fun e w' => ∃ u, e = .returned u ∧ w'.ownsRow w.heap.size 5 1 u (encs ns).length ((encs ns).map (Value.int .u8)) ∧ Below w.heap.size w w' := by
  obtain ⟨a, c, rfl, hd⟩ := hv
  have HD := Lib.hid hd
  have HB := Lib.hid hb
  clear hd hb
  go_enter Try.func29, Try.ntmps29
  go_wp2
  go_loopw [3, 8] (fun u i wr => ∃ k : Nat, k ≤ ns.length ∧ i = .int .i64 k ∧ wr.ownsRow w.heap.size 5 1 u (encs (ns.take k)).length ((encs (ns.take k)).map (Value.int .u8)) ∧ Below w.heap.size w wr) (fun _ i _ => ns.length - (intOf i).toNat)
  case atStart => exact ⟨0, Nat.zero_le _, rfl, World.ownsRow_nil _ _ _ _, Below.refl _ _⟩
  case round =>
    obtain ⟨k, hk, rfl, hown, hbel⟩ := hrel
    by_cases hlt : k < ns.length
    · obtain hz | ⟨b, off, rfl, hblt, hc⟩ := HD.out
      · omega
      have hck := hc k hlt
      have hbk := HB.out k hlt
      have hst := encs_snoc ns k hlt
      have htl : (encs (ns.take k)).length ≤ 10 * (ns.take k).length := encs_len _
      have htk := len_take_le ns k
      obtain ⟨x, hx⟩ : ∃ x, ns.getD k 0 = x := ⟨_, rfl⟩
      rw [hx] at hck hbk hst
      obtain ⟨L, hL⟩ : ∃ L, encs (ns.take k) = L := ⟨_, rfl⟩
      rw [hL] at hst hown htl
      have hcr : wr.cell? ⟨b, off + k, none⟩ = some (.int .i64 x) := by rw [hbel.cell hblt]; exact hck
      have hwx : IntKind.u64.wrap x = x := by rw [IntKind.wrap_u64]; omega
      obtain ⟨p3, c3, hu3⟩ := ownsRow_shape hown
      subst hu3
      have HO := Lib.hid hown
      have HBL := Lib.hid hbel
      have HST := Lib.hid hst
      have HTL : Hid (L.length ≤ 10000) := Lib.hid (by omega)
      have HXB := Lib.hid hbk
      have hkI : (k : Int) < ns.length := by omega
      have hkM : (k : Int) ≤ 1000 := by omega
      have hlI : (ns.length : Int) ≤ 1000 := by omega
      clear hck hbk hst htl htk hx hL hown hbel hc
      go_wp2_with fail
      have hn1 : IsNums .u64 (wr.alloc (.cells #[.int .u64 x] 62)) (.slice (some ⟨wr.heap.size, 0, none⟩) 1 1) [x] := IsNums.lit .u64 wr [x] wr.heap.size 62 1 1 rfl rfl
      refine (put_any _ [x] _ hn1 (fun j hj => by have := HXB.out; match j, hj with | 0, _ => exact ⟨this.1, by show x ≤ _; omega⟩) (by simp)).mono ?_
      rintro e w2 ⟨u2, rfl, ho2, hb2⟩
      rw [show encs [x] = enc x by simp [encs]] at ho2
      have hn2 : IsNums .u8 w2 u2 (enc x) := IsNums.ofOwn ho2
      have hel := enc_len x
      have hb2' : Below w.heap.size w w2 := (HBL.out.alloc HBL.out.size (.cells #[.int .u64 x] 62)).trans (hb2.mono (by have := HBL.out.size; simp; omega))
      have ho3 := own_keep (own_keep HO.out (Keep.alloc (fun _ => False) wr (.cells #[.int .u64 x] 62)) (fun _ _ h => h)) (Keep.ofBelow (bad := fun _ => False) hb2) (fun _ _ h => h)
      obtain ⟨p2, c2, hu2⟩ := ownsRow_shape ho2
      subst hu2
      have HN2 := Lib.hid hn2
      have HEL := Lib.hid hel
      have B2 := Lib.hid hb2'
      have O3 := Lib.hid ho3
      clear ho2 hn2 hel hb2 hb2' ho3 hn1 hcr
      go_wp2_with (at_builtin; (refine wpList_appN rfl (.tmp 12) (.tmp 16) 22 rfl w.heap.size 5 .u8 1 Try.underlying22 info_u8 (by omega) _ L.length _ rfl O3.out _ (enc x) rfl HN2.out (by have := HEL.out; have := HTL.out; omega) B2.out.size ?_); intro v4 w4 hown4 hb4; have O4 := Lib.hid hown4; have B4 := Lib.hid hb4; clear hown4 hb4)
      go_roundw
      case rel =>
        refine ⟨k + 1, by omega, by go_num, ?_, B2.out.trans B4.out⟩
        rw [HST.out, List.length_append, List.map_append]
        exact O4.out
      case measure => simp [intOf]; omega
    · obtain rfl : k = ns.length := by omega
      rw [List.take_length] at hown
      go_wp2
      go_ret
      exact ⟨_, rfl, hown, hbel⟩
end Go.Proofs.Ytkfcpnmdmoeioaa.K
