/- entry.Right in a log's seat (out of Entry1). -/
import Derived.Test.YtmdckdhogbbhlaaLConf
import Derived.Test.YtmdckdhogbbhlaaMid
import Derived.Test.YtmdckdhogbbhlaaStage2
namespace Go.Proofs.Ytmdckdhogbbhlaa.K
open Go.ChangeShapes Go.WideShapes Go.ChangeAt Go.RowKit
set_option linter.unusedVariables false
set_option linter.unusedSimpArgs false

def timeOk (n low : Int) : Bool := decide (low ≤ n ∧ n ≤ 1099511627776)
theorem time_any (n low : Int) (w : World) :
    Calls Try.prog 49 #[.int .i64 n, .int .i64 low] w fun e w' => e = .returned (.bool (timeOk n low)) ∧ w' = w := by
  by_cases h1 : low ≤ n
  · by_cases h2 : n ≤ 1099511627776
    · go_enter Try.func49, Try.ntmps49
      go_wp2
      go_ret
      exact ⟨ret_bool (by simp [timeOk, h1, h2]), rfl⟩
    · go_enter Try.func49, Try.ntmps49
      go_wp2
      go_ret
      exact ⟨ret_bool (by simp [timeOk]; omega), rfl⟩
  · go_enter Try.func49, Try.ntmps49
    go_wp2
    go_ret
    exact ⟨ret_bool (by simp [timeOk]; omega), rfl⟩
/-- May entries of that kind have that data? -/
def dataOk (k : Int) (d : List Int) : Bool :=
  if k = 0 then decide (d.length = 0) else if k = 1 then decide (d.length ≤ 32767) else if k = 2 then decide (d.length = 2 ∧ d.getD 0 0 < 7 ∧ d.getD 1 0 ≤ 1) else false
set_option maxRecDepth 100000 in
theorem dataRight_any (k : Int) (v : Value) (d : List Int) (w : World) (hv : IsNums .u8 w v d) :
    Calls Try.prog 50 #[.int .i64 k, v] w fun e w' => e = .returned (.bool (dataOk k d)) ∧ w' = w := by
  obtain ⟨a, c, rfl, hd⟩ := hv
  by_cases k0 : k = 0
  · subst k0
    obtain ⟨n, hn⟩ : ∃ n, d.length = n := ⟨_, rfl⟩
    rw [hn]
    have hz : dataOk 0 d = decide (n = 0) := by unfold dataOk; rw [if_pos rfl, hn]
    rw [hz]
    clear hd hz hn
    by_cases n0 : n = 0
    · subst n0
      go_enter Try.func50, Try.ntmps50
      go_wp2
      go_ret
      exact ⟨rfl, rfl⟩
    · have nI : ¬ (n : Int) = 0 := by omega
      go_enter Try.func50, Try.ntmps50
      go_wp2
      go_ret
      exact ⟨ret_bool (by simp [n0]), rfl⟩
  · by_cases k1 : k = 1
    · subst k1
      obtain ⟨n, hn⟩ : ∃ n, d.length = n := ⟨_, rfl⟩
      rw [hn]
      have hz : dataOk 1 d = decide (n ≤ 32767) := by unfold dataOk; rw [if_neg (by decide), if_pos rfl, hn]
      rw [hz]
      clear hd hz hn k0
      by_cases n0 : n ≤ 32767
      · have nI : (n : Int) ≤ 32767 := by omega
        go_enter Try.func50, Try.ntmps50
        go_wp2
        go_ret
        exact ⟨ret_bool (by simp [n0]), rfl⟩
      · have nI : ¬ (n : Int) ≤ 32767 := by omega
        go_enter Try.func50, Try.ntmps50
        go_wp2
        go_ret
        exact ⟨ret_bool (by simp [n0]), rfl⟩
    · by_cases k2 : k = 2
      · subst k2
        have hz : dataOk 2 d = decide (d.length = 2 ∧ d.getD 0 0 < 7 ∧ d.getD 1 0 ≤ 1) := by unfold dataOk; rw [if_neg (by decide), if_neg (by decide), if_pos rfl]
        rw [hz]
        obtain ⟨n, hn⟩ : ∃ n, d.length = n := ⟨_, rfl⟩
        rw [hn] at hd ⊢
        have HN := Lib.hid hn
        clear hz hn k0 k1
        by_cases n0 : n = 2
        · subst n0
          obtain hd | ⟨b, off, rfl, hlt, hc⟩ := hd
          · omega
          have c0 := hc 0 (by omega)
          have c1 := hc 1 (by omega)
          obtain ⟨x, hx⟩ : ∃ x, d.getD 0 0 = x := ⟨_, rfl⟩
          obtain ⟨y, hy⟩ : ∃ x, d.getD 1 0 = x := ⟨_, rfl⟩
          rw [hx] at c0 ⊢
          rw [hy] at c1 ⊢
          rw [Nat.add_zero] at c0
          clear hc hx hy
          by_cases x0 : x < 7
          · by_cases y0 : y ≤ 1
            · go_enter Try.func50, Try.ntmps50
              go_wp2
              go_ret
              exact ⟨ret_bool (by simp [x0, y0]), rfl⟩
            · go_enter Try.func50, Try.ntmps50
              go_wp2
              go_ret
              exact ⟨ret_bool (by simp; omega), rfl⟩
          · go_enter Try.func50, Try.ntmps50
            go_wp2
            go_ret
            exact ⟨ret_bool (by simp; omega), rfl⟩
        · have nI : ¬ (n : Int) = 2 := by omega
          clear hd
          go_enter Try.func50, Try.ntmps50
          go_wp2
          go_ret
          exact ⟨ret_bool (by simp [n0]), rfl⟩
      · have hz : dataOk k d = false := by unfold dataOk; rw [if_neg k0, if_neg k1, if_neg k2]
        rw [hz]
        clear hd hz
        go_enter Try.func50, Try.ntmps50
        go_wp2
        go_ret
        exact ⟨rfl, rfl⟩
/-- An entry as a value. -/
def entV (i t k : Int) (v : Value) : Value := .agg #[.int .i64 i, .int .i64 t, .int .i64 k, v]
def entOk (i t k : Int) (d : List Int) : Bool := timeOk i 1 && timeOk t 0 && dataOk k d
set_option maxRecDepth 100000 in
theorem entRight_any (i t k : Int) (v : Value) (d : List Int) (w : World) (hv : IsNums .u8 w v d) :
    Calls Try.prog 45 #[entV i t k v] w fun e w' => e = .returned (.bool (entOk i t k d)) ∧ Below w.heap.size w w' := by
  have hb := (Below.refl w.heap.size w).alloc (Nat.le_refl _) (.cells #[.int .i64 i, .int .i64 t, .int .i64 k, v] 32)
  have hx := Blk.alloc w 32 #[.int .i64 i, .int .i64 t, .int .i64 k, v]
  have hn := hv.alloc (.cells #[.int .i64 i, .int .i64 t, .int .i64 k, v] 32)
  obtain ⟨a, c, rfl, -⟩ := id hv
  have x0 := hx.cell 0
  have x1 := hx.cell 1
  have x2 := hx.cell 2
  have x3 := hx.cell 3
  have B := Lib.hid hb
  have HNN := Lib.hid hn
  unfold entV
  cases h1 : timeOk i 1 with
  | false =>
    have hz : entOk i t k d = false := by unfold entOk; rw [h1]; rfl
    rw [hz]
    have H1 := Lib.hid h1
    clear hb hx hn hv h1 hz
    go_enter Try.func45, Try.ntmps45
    go_wp2_with fail
    refine (time_any i 1 _).mono ?_
    rintro e w1 ⟨rfl, rfl⟩
    rw [H1.out]
    go_wp2
    go_ret
    exact ⟨rfl, B.out⟩
  | true =>
    have H1 := Lib.hid h1
    cases h2 : timeOk t 0 with
    | false =>
      have hz : entOk i t k d = false := by unfold entOk; rw [h1, h2]; rfl
      rw [hz]
      have H2 := Lib.hid h2
      clear hb hx hn hv h1 h2 hz
      go_enter Try.func45, Try.ntmps45
      go_wp2_with fail
      refine (time_any i 1 _).mono ?_
      rintro e w1 ⟨rfl, rfl⟩
      rw [H1.out]
      go_wp2_with fail
      refine (time_any t 0 _).mono ?_
      rintro e w1 ⟨rfl, rfl⟩
      rw [H2.out]
      go_wp2
      go_ret
      exact ⟨rfl, B.out⟩
    | true =>
      have hz : entOk i t k d = dataOk k d := by unfold entOk; rw [h1, h2]; rfl
      rw [hz]
      have H2 := Lib.hid h2
      clear hb hx hn hv h1 h2 hz
      go_enter Try.func45, Try.ntmps45
      go_wp2_with fail
      refine (time_any i 1 _).mono ?_
      rintro e w1 ⟨rfl, rfl⟩
      rw [H1.out]
      go_wp2_with fail
      refine (time_any t 0 _).mono ?_
      rintro e w1 ⟨rfl, rfl⟩
      rw [H2.out]
      go_wp2_with fail
      refine (dataRight_any k _ d _ HNN.out).mono ?_
      rintro e w1 ⟨rfl, rfl⟩
      obtain ⟨bq, hbq⟩ : ∃ b, dataOk k d = b := ⟨_, rfl⟩
      rw [hbq]
      go_wp2
      go_ret
      exact ⟨by rw [hbq]; rfl, B.out⟩

end Go.Proofs.Ytmdckdhogbbhlaa.K
