/- pdisk.Crash. -/
import Derived.Test.YthecjhjomkpgkaaDisk5
namespace Go.Proofs.Ythecjhjomkpgkaa.K
open Go.ChangeShapes Go.WideShapes Go.ChangeAt Go.RowKit
set_option linter.unusedVariables false

/-- What there was ahead of these writes. -/
def undo : List Un → List (List Int) → List (List Int)
  | [], s => s
  | u :: r, s => (undo r s).set u.pos u.was
theorem undo_len : ∀ (l : List Un) (s : List (List Int)), (undo l s).length = s.length
  | [], _ => rfl
  | u :: r, s => by rw [undo, List.length_set, undo_len r s]
theorem undo_ok {n : Nat} : ∀ (l : List Un) (s : List (List Int)), (∀ u ∈ l, u.Good n) → (∀ x ∈ s, Sec x) → ∀ x ∈ undo l s, Sec x
  | [], _, _, hs => hs
  | u :: r, s, hl, hs => by
    intro x hx
    rw [undo] at hx
    rcases List.mem_or_eq_of_mem_set hx with hx | rfl
    · exact undo_ok r s (fun v hv => hl v (by simp [hv])) hs x hx
    · exact (hl u (by simp)).2.1
theorem undo_drop (l : List Un) (s : List (List Int)) (k : Nat) (hk : k < l.length) : undo (l.drop k) s = (undo (l.drop (k + 1)) s).set (l.getD k ⟨0, [], []⟩).pos (l.getD k ⟨0, [], []⟩).was := by
  rw [List.drop_eq_getElem_cons hk, undo]
  simp [List.getD, hk]
/-- How much of the k-th of them is new. -/
def newN (kept : List Un) (torn : Int) (k : Nat) : Nat := if k + 1 = kept.length ∧ 0 ≤ torn ∧ torn < 64 then torn.toNat else 64
theorem newN_le (kept : List Un) (torn : Int) (k : Nat) : newN kept torn k ≤ 64 := by unfold newN; split <;> omega
def redoN (kept : List Un) (torn : Int) (s : List (List Int)) : Nat → List (List Int)
  | 0 => s
  | k + 1 => (redoN kept torn s k).set (kept.getD k ⟨0, [], []⟩).pos ((kept.getD k ⟨0, [], []⟩).new.take (newN kept torn k) ++ ((redoN kept torn s k).getD (kept.getD k ⟨0, [], []⟩).pos []).drop (newN kept torn k))
theorem redoN_len (kept : List Un) (torn : Int) (s : List (List Int)) : ∀ k, (redoN kept torn s k).length = s.length
  | 0 => rfl
  | k + 1 => by rw [redoN, List.length_set, redoN_len kept torn s k]
theorem torn_ok {a b : List Int} (ha : Sec a) (hb : Sec b) (n : Nat) : Sec (a.take n ++ b.drop n) := by
  refine ⟨by rw [List.length_append, List.length_take, List.length_drop, ha.1, hb.1]; omega, fun x hx => ?_⟩
  rcases List.mem_append.1 hx with hx | hx
  · exact ha.2 x (List.mem_of_mem_take hx)
  · exact hb.2 x (List.mem_of_mem_drop hx)
/-- A disk behind a crash. -/
def crashed (secs : List (List Int)) (uns : List Un) (mask torn : Int) : List (List Int) :=
  redoN (keptN uns mask (min uns.length 64)) torn (undo uns secs) (keptN uns mask (min uns.length 64)).length

def CrashPost (w : World) (B S : Nat) (vu : Value) (secs : List (List Int)) (uns : List Un) (mask torn : Int) (e : Ending) (w' : World) : Prop :=
  e = .returned (.tuple #[]) ∧ IsDisk w' B S (.slice none 0 0) (crashed secs uns mask torn) [] (-1) ∧ Keep (Mine B S vu) w w'

theorem un_at {us : List Un} {n : Nat} (hg : ∀ u ∈ us, u.Good n) {k : Nat} (hk : k < us.length) : (us.getD k ⟨0, [], []⟩).Good n := by
  have : us.getD k ⟨0, [], []⟩ = us[k] := by simp [List.getD, hk]
  rw [this]; exact hg _ (List.getElem_mem hk)
/-- The cells of the k-th of a row of writes. -/
theorem row_at {w : World} {base N : Nat} {us : List Un} {p : Option Addr} {c : Nat} (h : w.ownsRow base 103 129 (.slice p us.length c) us.length (us.flatMap Un.cells)) (hg : ∀ u ∈ us, u.Good N) (h0 : 0 < us.length) :
    ∃ g, p = some ⟨g, 0, none⟩ ∧ base ≤ g ∧ g < w.heap.size ∧ us.length ≤ c ∧ c ≤ maxLen ∧ ∀ k, k < us.length → w.rangeAt g (k * 129) (Un.cells (us.getD k ⟨0, [], []⟩)) := by
  rcases h.2 with ⟨_, h1⟩ | ⟨g, cap, cur, hv, hbg, hgg, hle, hcm, hsz, htk⟩
  · omega
  · injection hv with e1 e2 e3
    subst e1 e3
    refine ⟨g, rfl, hbg, (Array.getElem?_eq_some_iff.1 hgg).1, hle, hcm, fun k hk j v hv => ?_⟩
    have hj : j < 129 := by
      have hl := (List.getElem?_eq_some_iff.1 hv).1
      rw [(un_at hg hk).len] at hl
      exact hl
    have := h.cells (g := g) rfl (k * 129 + j) v (by rw [parts_at Un.cells 129 us k j ⟨0, [], []⟩ (fun s hs => (hg s hs).len) hk hj]; exact hv)
    rwa [Addr.add_lit, Nat.zero_add] at this
theorem IsDisk.setSec {w W : World} {B S : Nat} {vu : Value} {secs : List (List Int)} {uns : List Un} {l : Int} (h : IsDisk w B S vu secs uns l) (hk : Keep (fun k => k = S) w W) {i : Nat} {s : List Int} (hs : Sec s) (hb : Blk W S 101 (flat (secs.set i s))) : IsDisk W B S vu (secs.set i s) uns l := by
  have hlt := h.lt
  have hap := h.apart
  refine ⟨by rw [List.length_set]; exact h.head.keep hk (by omega), hb, ownsRow_keep h.row hk (fun k e1 e2 => hap.2 (by rw [e1, e2])), h.lt, ?_, by rw [List.length_set]; exact h.uns_ok, by rw [List.length_set]; exact h.many, h.left0, h.left1⟩
  intro x hx
  rcases List.mem_or_eq_of_mem_set hx with hx | rfl
  · exact h.secs_ok x hx
  · exact hs

def Undone (w : World) (B S : Nat) (vu : Value) (secs : List (List Int)) (uns : List Un) (l : Int) (k : Nat) (wr : World) : Prop :=
  IsDisk wr B S vu (undo (uns.drop k) secs) uns l ∧ Keep (fun j => j = S) w wr

set_option maxRecDepth 100000 in
set_option maxHeartbeats 2000000 in
theorem crash_any {w : World} {B S : Nat} {vu : Value} {secs : List (List Int)} {uns : List Un} {l : Int} (h : IsDisk w B S vu secs uns l) (mask torn : Int) (m0 : 0 ≤ mask) (m1 : mask ≤ 18446744073709551615) (t0 : -9223372036854775808 ≤ torn) (t1 : torn ≤ 9223372036854775807) (hn : uns.length ≤ 1000000000) :
    Calls Try.prog 21 #[.pointer (some ⟨B, 0, none⟩), .int .u64 mask, .int .i64 torn] w (CrashPost w B S vu secs uns mask torn) := by
  obtain ⟨p, c, rfl⟩ : ∃ p c, vu = .slice p uns.length c := by
    rcases h.row.2 with ⟨e1, e2⟩ | ⟨g, cap, cur, e1, _⟩
    · exact ⟨none, 0, by rw [e1, e2]⟩
    · exact ⟨_, _, e1⟩
  have hh1 := h.head.2.1
  have HH := Lib.hid h
  clear h
  go_enter Try.func21, Try.ntmps21
  go_wp2
  clear hh1
  go_loopw [6] (fun i wr => ∃ k : Nat, k ≤ uns.length ∧ i = .int .i64 ((k : Int) - 1) ∧ Undone w B S (.slice p uns.length c) secs uns l k wr) (fun i _ => (intOf i + 1).toNat)
  case atStart =>
    refine ⟨uns.length, Nat.le_refl _, rfl, ?_, Keep.refl _ _⟩
    rw [List.drop_length]
    exact HH.out
  case round =>
    obtain ⟨k1, hk, rfl, hd, hkp⟩ := hrel
    rcases k1 with _ | k
    · rw [List.drop_zero] at hd
      obtain ⟨-, hB1, -, -, -, -⟩ := id hd.head
      have hrow := hd.row
      have HD := Lib.hid hd
      have HKP := Lib.hid hkp
      have hun := hd.uns_ok
      have HUN := Lib.hid hun
      clear hd hkp hun
      go_wp2_with fail
      refine (keep_any hrow HUN.out mask m0 m1 hn _ rfl).mono ?_
      rintro e w1 ⟨vk, rfl, hkr, hbl⟩
      clear hB1 hrow
      obtain ⟨pK, cK, rfl⟩ := ownsRow_shape hkr
      obtain ⟨w0, hw0⟩ : ∃ w0, w0 = wr := ⟨_, rfl⟩
      have hd1 : IsDisk w1 B S (.slice p uns.length c) (undo uns secs) uns l := HD.out.later hbl
      have hk1 : Keep (fun j => j = S) w w1 := HKP.out.trans' (Keep.ofBelow (bad := fun _ => False) hbl) (fun _ _ h => h.elim)
      rw [← hw0] at hkr
      have hSw0 : S < w0.heap.size := by rw [hw0]; exact HD.out.sec.lt
      have hkg := keptN_good HUN.out mask (min uns.length 64) (by omega)
      have hkl := keptN_len uns mask (min uns.length 64)
      have hcr : crashed secs uns mask torn = redoN (keptN uns mask (min uns.length 64)) torn (undo uns secs) (keptN uns mask (min uns.length 64)).length := rfl
      generalize keptN uns mask (min uns.length 64) = KN at hkr hkg hkl hcr
      have hkl64 : KN.length ≤ 64 := by omega
      have HKG := Lib.hid hkg
      have HCR := Lib.hid hcr
      have HD1 := Lib.hid hd1
      have HK1 := Lib.hid hk1
      have HR1 := Lib.hid hkr
      clear hw0 hkr hkg hcr hd1 hk1 HD HKP hbl hkl
      go_wp2
      go_loopw [50] (fun i wr => ∃ k : Nat, k ≤ KN.length ∧ i = .int .i64 k ∧ IsDisk wr B S (.slice p uns.length c) (redoN KN torn (undo uns secs) k) uns l ∧ Keep (fun j => j = S) w wr ∧ wr.ownsRow w0.heap.size 103 129 (.slice pK KN.length cK) KN.length (KN.flatMap Un.cells)) (fun i _ => KN.length - (intOf i).toNat)
      case atStart => exact ⟨0, Nat.zero_le _, rfl, HD1.out, HK1.out, HR1.out⟩
      case round =>
        obtain ⟨k, hk, rfl, hd, hkp, hrk⟩ := hrel
        by_cases hlt : k < KN.length
        · obtain ⟨g, rfl, hbg, hgl, hlc, hcm, hrow⟩ := row_at hrk HKG.out (by omega)
          have hgk := un_at HKG.out hlt
          have hr9 := hrow k hlt
          obtain ⟨u9, huk⟩ : ∃ u, KN.getD k ⟨0, [], []⟩ = u := ⟨_, rfl⟩
          rw [huk] at hgk hr9
          generalize hsk : redoN KN torn (undo uns secs) k = SK at hd
          unfold maxLen at hcm
          have hmany := hd.many
          have hpos : u9.pos < SK.length := by
            have h1 := hgk.1
            have h2 : SK.length = (undo uns secs).length := by rw [← hsk, redoN_len]
            omega
          have hi9 : (Try.prog.info? 103).map (·.size) = some (Un.cells u9).length := by rw [hgk.len]; exact infoWr
          have HI9 := Lib.hid hi9
          have HGK := Lib.hid hgk
          have HL9 := Lib.hid hgk.len
          have HR9 := Lib.hid hr9
          have HUK := Lib.hid huk
          have HSK := Lib.hid hsk
          have HKP := Lib.hid hkp
          have HRK := Lib.hid hrk
          have HDK := Lib.hid hd
          have hkI : (k : Int) + 1 ≤ KN.length := by omega
          have hposI : (u9.pos : Int) < SK.length := by omega
          clear hi9 hgk hr9 huk hsk hkp hrk hd hrow
          have arm : True := trivial
          by_cases hlast : k + 1 = KN.length
          · have e1 : ((k : Int) == (KN.length : Int) - 1) = true := by simp; omega
            by_cases ht0 : 0 ≤ torn
            · by_cases ht1 : torn < 64
              · obtain ⟨tn, rfl⟩ : ∃ tn : Nat, torn = (tn : Int) := ⟨torn.toNat, by omega⟩
                have htn : tn < 64 := by omega
                go_wp2_with (first | ((with_reducible refine wpList_loadM (.tmp 53) g (k * 129) (Un.cells u9) _ HR9.out Try.underlying103 rfl ?_ ?_ ?_); exact HI9.out; exact rfl) | ((with_reducible refine wpList_allocM zeroWrite ?_ ?_); exact zeroWr) | ((with_reducible refine wpList_storeN (.tmp 9) (.tmp 54) (Un.cells u9) (Un.cells_one _) ?_ ?_ ?_ ?_ ?_); exact HI9.out; exact rfl; exact rfl; exact HL9.out; intro w2 hb2 hbl2 hz2; have HZ2 := Lib.hid hz2; have HB2 := Lib.hid hb2; have HBL2 := Lib.hid hbl2; have HD2 := Lib.hid (HDK.out.later hbl2); have hc2 : ∀ W, Keep (fun _ => False) w2.drew W → W.cell? ⟨wr.heap.size, 0, none⟩ = some (.int .i64 u9.pos) := (fun W hW => by rw [hW.cell (fun h => h) (show wr.heap.size < w2.drew.heap.size from hb2.lt)]; exact hb2.cell 0); have HC2 := Lib.hid hc2; clear hz2 hb2 hbl2 hc2))
                have hnu : NumsOff (fun _ => False) w2.drew (.slice (some ⟨wr.heap.size, 65, none⟩) (tn) 64) (u9.new.take (tn)) := by
                  refine NumsOff.of (Blk.nums (w := w2.drew) HB2.out 65 64 _ _ ?_ (fun j hj => ?_)) (fun _ _ h => h)
                  · rw [List.length_take, HGK.out.2.2.1]; omega
                  · rw [List.length_take, HGK.out.2.2.1] at hj
                    show (Un.cells u9)[65 + j]? = _
                    rw [show 65 + j = (64 + j) + 1 by omega]
                    show (B8 u9.was ++ B8 u9.new)[64 + j]? = _
                    rw [List.getElem?_append_right (by rw [B8_len, HGK.out.2.1.1]; omega), B8_len, HGK.out.2.1.1, Nat.add_sub_cancel_left, B8_take, List.getElem?_take, if_pos (by omega)]
                have hnl : (u9.new.take (tn)).length = tn := by rw [List.length_take, HGK.out.2.2.1]; omega
                have hf9 : u9.pos * 64 + (u9.new.take (tn)).length ≤ (flat SK).length := by
                  have := parts_len B8 64 SK (fun s hs => by rw [B8_len]; exact (HD2.out.secs_ok s hs).1)
                  unfold flat
                  rw [this, hnl]
                  have : (u9.pos + 1) * 64 ≤ SK.length * 64 := Nat.mul_le_mul_right _ hpos
                  omega
                have HNU := Lib.hid hnu.nums
                have HNL := Lib.hid hnl
                have HF9 := Lib.hid hf9
                have hnnI : ((tn : Nat) : Int) ≤ 64 := by omega
                have hnn0 : (0 : Int) ≤ ((tn : Nat) : Int) := by omega
                clear hnu hnl hf9
                go_wp2_with fail
                refine regionE_begin 12 (fun W => Keep (fun _ => False) w2.drew W) (by kernel_rfl) ?_
                refine stepE_any 0 (some 70) (v := ?vba0) (fun _ => Keep.refl _ _) rfl (by rfl) (by kernel_rfl) (by kernel_rfl) (by kernel_rfl) (by decide) (fun _ _ _ h => h) (by rfl) ?yba0 ?nba0
                case yba0 => intro W; go_simp; try with_reducible rfl
                try simp only [Act.put, List.setIfInBounds_toArray, List.set_cons_zero, List.set_cons_succ]
                refine stepE_any 1 (some 71) (v := ?vba1) (fun _ => Keep.refl _ _) rfl (by rfl) (by kernel_rfl) (by kernel_rfl) (by kernel_rfl) (by decide) (fun _ _ _ h => h) (by rfl) ?yba1 ?nba1
                case yba1 => intro W; go_simp; try with_reducible rfl
                try simp only [Act.put, List.setIfInBounds_toArray, List.set_cons_zero, List.set_cons_succ]
                refine stepE_any 2 (some 72) (v := ?vba2) (fun _ => Keep.refl _ _) rfl (by rfl) (by kernel_rfl) (by kernel_rfl) (by kernel_rfl) (by decide) (fun _ _ _ h => h) (by rfl) ?yba2 ?nba2
                case yba2 => intro W; go_simp; try with_reducible rfl
                try simp only [Act.put, List.setIfInBounds_toArray, List.set_cons_zero, List.set_cons_succ]
                refine stepE_read 3 14 (some 73) (v := ?vba3) (Keep.refl _ _) rfl (by rfl) (by kernel_rfl) (by kernel_rfl) (by kernel_rfl) (by kernel_rfl) (by kernel_rfl) (fun _ _ _ h => h) (by rfl) ?yba3 ?nba3
                case yba3 => intro W hW; have q := (HD2.out.head.keep (w := w2.drew) hW (fun h => h)).1; go_simp; try with_reducible rfl
                try simp only [Act.put, List.setIfInBounds_toArray, List.set_cons_zero, List.set_cons_succ]
                refine stepE_any 4 (some 74) (v := ?vba4) (fun _ => Keep.refl _ _) rfl (by rfl) (by kernel_rfl) (by kernel_rfl) (by kernel_rfl) (by decide) (fun _ _ _ h => h) (by rfl) ?yba4 ?nba4
                case yba4 => intro W; go_simp; try with_reducible rfl
                try simp only [Act.put, List.setIfInBounds_toArray, List.set_cons_zero, List.set_cons_succ]
                refine stepE_read 5 14 (some 75) (v := ?vba5) (Keep.refl _ _) rfl (by rfl) (by kernel_rfl) (by kernel_rfl) (by kernel_rfl) (by kernel_rfl) (by kernel_rfl) (fun _ _ _ h => h) (by rfl) ?yba5 ?nba5
                case yba5 => intro W hW; have q := HC2.out W hW; go_simp; try with_reducible rfl
                try simp only [Act.put, List.setIfInBounds_toArray, List.set_cons_zero, List.set_cons_succ]
                refine stepE_any 6 (some 76) (v := ?vba6) (fun _ => Keep.refl _ _) rfl (by rfl) (by kernel_rfl) (by kernel_rfl) (by kernel_rfl) (by decide) (fun _ _ _ h => h) (by rfl) ?yba6 ?nba6
                case yba6 => intro W; go_simp; try with_reducible rfl
                try simp only [Act.put, List.setIfInBounds_toArray, List.set_cons_zero, List.set_cons_succ]
                refine stepE_any 7 (some 77) (v := ?vba7) (fun _ => Keep.refl _ _) rfl (by rfl) (by kernel_rfl) (by kernel_rfl) (by kernel_rfl) (by decide) (fun _ _ _ h => h) (by rfl) ?yba7 ?nba7
                case yba7 => intro W; go_simp; try with_reducible rfl
                try simp only [Act.put, List.setIfInBounds_toArray, List.set_cons_zero, List.set_cons_succ]
                refine stepE_any 8 (some 78) (v := ?vba8) (fun _ => Keep.refl _ _) rfl (by rfl) (by kernel_rfl) (by kernel_rfl) (by kernel_rfl) (by decide) (fun _ _ _ h => h) (by rfl) ?yba8 ?nba8
                case yba8 => intro W; go_simp; try with_reducible rfl
                try simp only [Act.put, List.setIfInBounds_toArray, List.set_cons_zero, List.set_cons_succ]
                refine stepE_any 9 (some 79) (v := ?vba9) (fun _ => Keep.refl _ _) rfl (by rfl) (by kernel_rfl) (by kernel_rfl) (by kernel_rfl) (by decide) (fun _ _ _ h => h) (by rfl) ?yba9 ?nba9
                case yba9 => intro W; go_simp; try with_reducible rfl
                try simp only [Act.put, List.setIfInBounds_toArray, List.set_cons_zero, List.set_cons_succ]
                refine stepE_any 10 (some 80) (v := ?vba10) (fun _ => Keep.refl _ _) rfl (by rfl) (by kernel_rfl) (by kernel_rfl) (by kernel_rfl) (by decide) (fun _ _ _ h => h) (by rfl) ?yba10 ?nba10
                case yba10 => intro W; go_simp; try with_reducible rfl
                try simp only [Act.put, List.setIfInBounds_toArray, List.set_cons_zero, List.set_cons_succ]
                refine stepE_any 11 (some 81) (v := ?vba11) (fun _ => Keep.refl _ _) rfl (by rfl) (by kernel_rfl) (by kernel_rfl) (by kernel_rfl) (by decide) (fun _ _ _ h => h) (by rfl) ?yba11 ?nba11
                case yba11 => intro W; go_simp; try with_reducible rfl
                try simp only [Act.put, List.setIfInBounds_toArray, List.set_cons_zero, List.set_cons_succ]
                -- 12: builtin:copy -> 82
                refine stepE_end 12 rfl (by kernel_rfl) (by rfl) (by rfl) (fun K' hK => ?_)
                refine wp_copyB (Blk.keep (w := w2) HD2.out.sec (Keep.drew (fun _ => False) w2) (fun h => h)) (.tmp 78) (.tmp 81) 25 25 rfl (u9.pos * 64) (tn) 64 _ (u9.new.take (tn)) HNU.out (by rw [HNL.out]; omega) HF9.out 5 Try.underlying25 (by kernel_rfl) (by rfl) (by rfl) (fun w4 hb4 hk4 => hK _ _ ?_)
                clear hK K'
                refine wpAnyE_done (by kernel_rfl) ?_ _
                have hk4' : Keep (fun j => j = S) w2.drew w4 := hk4 _ rfl
                have hb4' : Blk w4 S 101 (flat (SK.set u9.pos (u9.new.take (tn) ++ (SK.getD u9.pos []).drop (tn)))) := by
                  have e := flat_head SK u9.pos (u9.new.take (tn)) _ 64 (fun s hs => (HD2.out.secs_ok s hs).1) (by rw [HNL.out]; omega) hpos rfl
                  rw [HNL.out] at e
                  rw [HNL.out, e] at hb4
                  exact hb4
                have hd4 : IsDisk w4 B S (.slice p uns.length c) (redoN KN (tn : Int) (undo uns secs) (k + 1)) uns l := by
                  have e9 : newN KN (tn : Int) k = tn := by unfold newN; rw [if_pos ⟨hlast, by omega, by omega⟩]; omega
                  rw [redoN, HUK.out, HSK.out, e9]
                  exact (HD2.out.keep (Keep.drew (fun _ => False) w2) (fun _ _ h => h)).setSec hk4' (torn_ok HGK.out.2.2 (sec_get HD2.out.secs_ok hpos) _) hb4'
                have HD4 := Lib.hid hd4
                have HK4 : Hid (Keep (fun j => j = S) w w4) := Lib.hid (((HKP.out.trans' (Keep.ofBelow (bad := fun _ => False) HBL2.out) (fun _ _ h => h.elim)).trans (Keep.drew _ _)).trans' hk4' (fun _ _ h => h))
                have HR4 : Hid (w4.ownsRow w0.heap.size 103 129 (.slice (some ⟨g, 0, none⟩) KN.length cK) KN.length (KN.flatMap Un.cells)) := Lib.hid (ownsRow_keep (ownsRow_keep HRK.out (Keep.ofBelow (bad := fun _ => False) HBL2.out) (fun _ _ h => h)) ((Keep.drew (fun j => j = S) w2).trans hk4') (fun j e1 e2 => by have := (HRK.out.lt j e1).1; omega))
                clear hb4 hb4' hk4 hk4' hd4
                go_wp2
                go_roundw
                case rel => exact ⟨k + 1, by omega, by go_num, HD4.out, HK4.out, HR4.out⟩
                case measure => simp [intOf]; omega
              · go_wp2_with (first | ((with_reducible refine wpList_loadM (.tmp 53) g (k * 129) (Un.cells u9) _ HR9.out Try.underlying103 rfl ?_ ?_ ?_); exact HI9.out; exact rfl) | ((with_reducible refine wpList_allocM zeroWrite ?_ ?_); exact zeroWr) | ((with_reducible refine wpList_storeN (.tmp 9) (.tmp 54) (Un.cells u9) (Un.cells_one _) ?_ ?_ ?_ ?_ ?_); exact HI9.out; exact rfl; exact rfl; exact HL9.out; intro w2 hb2 hbl2 hz2; have HZ2 := Lib.hid hz2; have HB2 := Lib.hid hb2; have HBL2 := Lib.hid hbl2; have HD2 := Lib.hid (HDK.out.later hbl2); have hc2 : ∀ W, Keep (fun _ => False) w2.drew W → W.cell? ⟨wr.heap.size, 0, none⟩ = some (.int .i64 u9.pos) := (fun W hW => by rw [hW.cell (fun h => h) (show wr.heap.size < w2.drew.heap.size from hb2.lt)]; exact hb2.cell 0); have HC2 := Lib.hid hc2; clear hz2 hb2 hbl2 hc2))
                have hnu : NumsOff (fun _ => False) w2.drew (.slice (some ⟨wr.heap.size, 65, none⟩) (64) 64) (u9.new.take (64)) := by
                  refine NumsOff.of (Blk.nums (w := w2.drew) HB2.out 65 64 _ _ ?_ (fun j hj => ?_)) (fun _ _ h => h)
                  · rw [List.length_take, HGK.out.2.2.1]; omega
                  · rw [List.length_take, HGK.out.2.2.1] at hj
                    show (Un.cells u9)[65 + j]? = _
                    rw [show 65 + j = (64 + j) + 1 by omega]
                    show (B8 u9.was ++ B8 u9.new)[64 + j]? = _
                    rw [List.getElem?_append_right (by rw [B8_len, HGK.out.2.1.1]; omega), B8_len, HGK.out.2.1.1, Nat.add_sub_cancel_left, B8_take, List.getElem?_take, if_pos (by omega)]
                have hnl : (u9.new.take (64)).length = 64 := by rw [List.length_take, HGK.out.2.2.1]; omega
                have hf9 : u9.pos * 64 + (u9.new.take (64)).length ≤ (flat SK).length := by
                  have := parts_len B8 64 SK (fun s hs => by rw [B8_len]; exact (HD2.out.secs_ok s hs).1)
                  unfold flat
                  rw [this, hnl]
                  have : (u9.pos + 1) * 64 ≤ SK.length * 64 := Nat.mul_le_mul_right _ hpos
                  omega
                have HNU := Lib.hid hnu.nums
                have HNL := Lib.hid hnl
                have HF9 := Lib.hid hf9
                have hnnI : ((64 : Nat) : Int) ≤ 64 := by omega
                have hnn0 : (0 : Int) ≤ ((64 : Nat) : Int) := by omega
                clear hnu hnl hf9
                go_wp2_with fail
                refine regionE_begin 12 (fun W => Keep (fun _ => False) w2.drew W) (by kernel_rfl) ?_
                refine stepE_any 0 (some 70) (v := ?vbb0) (fun _ => Keep.refl _ _) rfl (by rfl) (by kernel_rfl) (by kernel_rfl) (by kernel_rfl) (by decide) (fun _ _ _ h => h) (by rfl) ?ybb0 ?nbb0
                case ybb0 => intro W; go_simp; try with_reducible rfl
                try simp only [Act.put, List.setIfInBounds_toArray, List.set_cons_zero, List.set_cons_succ]
                refine stepE_any 1 (some 71) (v := ?vbb1) (fun _ => Keep.refl _ _) rfl (by rfl) (by kernel_rfl) (by kernel_rfl) (by kernel_rfl) (by decide) (fun _ _ _ h => h) (by rfl) ?ybb1 ?nbb1
                case ybb1 => intro W; go_simp; try with_reducible rfl
                try simp only [Act.put, List.setIfInBounds_toArray, List.set_cons_zero, List.set_cons_succ]
                refine stepE_any 2 (some 72) (v := ?vbb2) (fun _ => Keep.refl _ _) rfl (by rfl) (by kernel_rfl) (by kernel_rfl) (by kernel_rfl) (by decide) (fun _ _ _ h => h) (by rfl) ?ybb2 ?nbb2
                case ybb2 => intro W; go_simp; try with_reducible rfl
                try simp only [Act.put, List.setIfInBounds_toArray, List.set_cons_zero, List.set_cons_succ]
                refine stepE_read 3 14 (some 73) (v := ?vbb3) (Keep.refl _ _) rfl (by rfl) (by kernel_rfl) (by kernel_rfl) (by kernel_rfl) (by kernel_rfl) (by kernel_rfl) (fun _ _ _ h => h) (by rfl) ?ybb3 ?nbb3
                case ybb3 => intro W hW; have q := (HD2.out.head.keep (w := w2.drew) hW (fun h => h)).1; go_simp; try with_reducible rfl
                try simp only [Act.put, List.setIfInBounds_toArray, List.set_cons_zero, List.set_cons_succ]
                refine stepE_any 4 (some 74) (v := ?vbb4) (fun _ => Keep.refl _ _) rfl (by rfl) (by kernel_rfl) (by kernel_rfl) (by kernel_rfl) (by decide) (fun _ _ _ h => h) (by rfl) ?ybb4 ?nbb4
                case ybb4 => intro W; go_simp; try with_reducible rfl
                try simp only [Act.put, List.setIfInBounds_toArray, List.set_cons_zero, List.set_cons_succ]
                refine stepE_read 5 14 (some 75) (v := ?vbb5) (Keep.refl _ _) rfl (by rfl) (by kernel_rfl) (by kernel_rfl) (by kernel_rfl) (by kernel_rfl) (by kernel_rfl) (fun _ _ _ h => h) (by rfl) ?ybb5 ?nbb5
                case ybb5 => intro W hW; have q := HC2.out W hW; go_simp; try with_reducible rfl
                try simp only [Act.put, List.setIfInBounds_toArray, List.set_cons_zero, List.set_cons_succ]
                refine stepE_any 6 (some 76) (v := ?vbb6) (fun _ => Keep.refl _ _) rfl (by rfl) (by kernel_rfl) (by kernel_rfl) (by kernel_rfl) (by decide) (fun _ _ _ h => h) (by rfl) ?ybb6 ?nbb6
                case ybb6 => intro W; go_simp; try with_reducible rfl
                try simp only [Act.put, List.setIfInBounds_toArray, List.set_cons_zero, List.set_cons_succ]
                refine stepE_any 7 (some 77) (v := ?vbb7) (fun _ => Keep.refl _ _) rfl (by rfl) (by kernel_rfl) (by kernel_rfl) (by kernel_rfl) (by decide) (fun _ _ _ h => h) (by rfl) ?ybb7 ?nbb7
                case ybb7 => intro W; go_simp; try with_reducible rfl
                try simp only [Act.put, List.setIfInBounds_toArray, List.set_cons_zero, List.set_cons_succ]
                refine stepE_any 8 (some 78) (v := ?vbb8) (fun _ => Keep.refl _ _) rfl (by rfl) (by kernel_rfl) (by kernel_rfl) (by kernel_rfl) (by decide) (fun _ _ _ h => h) (by rfl) ?ybb8 ?nbb8
                case ybb8 => intro W; go_simp; try with_reducible rfl
                try simp only [Act.put, List.setIfInBounds_toArray, List.set_cons_zero, List.set_cons_succ]
                refine stepE_any 9 (some 79) (v := ?vbb9) (fun _ => Keep.refl _ _) rfl (by rfl) (by kernel_rfl) (by kernel_rfl) (by kernel_rfl) (by decide) (fun _ _ _ h => h) (by rfl) ?ybb9 ?nbb9
                case ybb9 => intro W; go_simp; try with_reducible rfl
                try simp only [Act.put, List.setIfInBounds_toArray, List.set_cons_zero, List.set_cons_succ]
                refine stepE_any 10 (some 80) (v := ?vbb10) (fun _ => Keep.refl _ _) rfl (by rfl) (by kernel_rfl) (by kernel_rfl) (by kernel_rfl) (by decide) (fun _ _ _ h => h) (by rfl) ?ybb10 ?nbb10
                case ybb10 => intro W; go_simp; try with_reducible rfl
                try simp only [Act.put, List.setIfInBounds_toArray, List.set_cons_zero, List.set_cons_succ]
                refine stepE_any 11 (some 81) (v := ?vbb11) (fun _ => Keep.refl _ _) rfl (by rfl) (by kernel_rfl) (by kernel_rfl) (by kernel_rfl) (by decide) (fun _ _ _ h => h) (by rfl) ?ybb11 ?nbb11
                case ybb11 => intro W; go_simp; try with_reducible rfl
                try simp only [Act.put, List.setIfInBounds_toArray, List.set_cons_zero, List.set_cons_succ]
                -- 12: builtin:copy -> 82
                refine stepE_end 12 rfl (by kernel_rfl) (by rfl) (by rfl) (fun K' hK => ?_)
                refine wp_copyB (Blk.keep (w := w2) HD2.out.sec (Keep.drew (fun _ => False) w2) (fun h => h)) (.tmp 78) (.tmp 81) 25 25 rfl (u9.pos * 64) (64) 64 _ (u9.new.take (64)) HNU.out (by rw [HNL.out]; omega) HF9.out 5 Try.underlying25 (by kernel_rfl) (by rfl) (by rfl) (fun w4 hb4 hk4 => hK _ _ ?_)
                clear hK K'
                refine wpAnyE_done (by kernel_rfl) ?_ _
                have hk4' : Keep (fun j => j = S) w2.drew w4 := hk4 _ rfl
                have hb4' : Blk w4 S 101 (flat (SK.set u9.pos (u9.new.take (64) ++ (SK.getD u9.pos []).drop (64)))) := by
                  have e := flat_head SK u9.pos (u9.new.take (64)) _ 64 (fun s hs => (HD2.out.secs_ok s hs).1) (by rw [HNL.out]; omega) hpos rfl
                  rw [HNL.out] at e
                  rw [HNL.out, e] at hb4
                  exact hb4
                have hd4 : IsDisk w4 B S (.slice p uns.length c) (redoN KN torn (undo uns secs) (k + 1)) uns l := by
                  have e9 : newN KN torn k = 64 := by unfold newN; rw [if_neg (by omega)]
                  rw [redoN, HUK.out, HSK.out, e9]
                  exact (HD2.out.keep (Keep.drew (fun _ => False) w2) (fun _ _ h => h)).setSec hk4' (torn_ok HGK.out.2.2 (sec_get HD2.out.secs_ok hpos) _) hb4'
                have HD4 := Lib.hid hd4
                have HK4 : Hid (Keep (fun j => j = S) w w4) := Lib.hid (((HKP.out.trans' (Keep.ofBelow (bad := fun _ => False) HBL2.out) (fun _ _ h => h.elim)).trans (Keep.drew _ _)).trans' hk4' (fun _ _ h => h))
                have HR4 : Hid (w4.ownsRow w0.heap.size 103 129 (.slice (some ⟨g, 0, none⟩) KN.length cK) KN.length (KN.flatMap Un.cells)) := Lib.hid (ownsRow_keep (ownsRow_keep HRK.out (Keep.ofBelow (bad := fun _ => False) HBL2.out) (fun _ _ h => h)) ((Keep.drew (fun j => j = S) w2).trans hk4') (fun j e1 e2 => by have := (HRK.out.lt j e1).1; omega))
                clear hb4 hb4' hk4 hk4' hd4
                go_wp2
                go_roundw
                case rel => exact ⟨k + 1, by omega, by go_num, HD4.out, HK4.out, HR4.out⟩
                case measure => simp [intOf]; omega
            · have ht0' : torn < 0 := by omega
              go_wp2_with (first | ((with_reducible refine wpList_loadM (.tmp 53) g (k * 129) (Un.cells u9) _ HR9.out Try.underlying103 rfl ?_ ?_ ?_); exact HI9.out; exact rfl) | ((with_reducible refine wpList_allocM zeroWrite ?_ ?_); exact zeroWr) | ((with_reducible refine wpList_storeN (.tmp 9) (.tmp 54) (Un.cells u9) (Un.cells_one _) ?_ ?_ ?_ ?_ ?_); exact HI9.out; exact rfl; exact rfl; exact HL9.out; intro w2 hb2 hbl2 hz2; have HZ2 := Lib.hid hz2; have HB2 := Lib.hid hb2; have HBL2 := Lib.hid hbl2; have HD2 := Lib.hid (HDK.out.later hbl2); have hc2 : ∀ W, Keep (fun _ => False) w2.drew W → W.cell? ⟨wr.heap.size, 0, none⟩ = some (.int .i64 u9.pos) := (fun W hW => by rw [hW.cell (fun h => h) (show wr.heap.size < w2.drew.heap.size from hb2.lt)]; exact hb2.cell 0); have HC2 := Lib.hid hc2; clear hz2 hb2 hbl2 hc2))
              have hnu : NumsOff (fun _ => False) w2.drew (.slice (some ⟨wr.heap.size, 65, none⟩) (64) 64) (u9.new.take (64)) := by
                refine NumsOff.of (Blk.nums (w := w2.drew) HB2.out 65 64 _ _ ?_ (fun j hj => ?_)) (fun _ _ h => h)
                · rw [List.length_take, HGK.out.2.2.1]; omega
                · rw [List.length_take, HGK.out.2.2.1] at hj
                  show (Un.cells u9)[65 + j]? = _
                  rw [show 65 + j = (64 + j) + 1 by omega]
                  show (B8 u9.was ++ B8 u9.new)[64 + j]? = _
                  rw [List.getElem?_append_right (by rw [B8_len, HGK.out.2.1.1]; omega), B8_len, HGK.out.2.1.1, Nat.add_sub_cancel_left, B8_take, List.getElem?_take, if_pos (by omega)]
              have hnl : (u9.new.take (64)).length = 64 := by rw [List.length_take, HGK.out.2.2.1]; omega
              have hf9 : u9.pos * 64 + (u9.new.take (64)).length ≤ (flat SK).length := by
                have := parts_len B8 64 SK (fun s hs => by rw [B8_len]; exact (HD2.out.secs_ok s hs).1)
                unfold flat
                rw [this, hnl]
                have : (u9.pos + 1) * 64 ≤ SK.length * 64 := Nat.mul_le_mul_right _ hpos
                omega
              have HNU := Lib.hid hnu.nums
              have HNL := Lib.hid hnl
              have HF9 := Lib.hid hf9
              have hnnI : ((64 : Nat) : Int) ≤ 64 := by omega
              have hnn0 : (0 : Int) ≤ ((64 : Nat) : Int) := by omega
              clear hnu hnl hf9
              go_wp2_with fail
              refine regionE_begin 12 (fun W => Keep (fun _ => False) w2.drew W) (by kernel_rfl) ?_
              refine stepE_any 0 (some 70) (v := ?vbc0) (fun _ => Keep.refl _ _) rfl (by rfl) (by kernel_rfl) (by kernel_rfl) (by kernel_rfl) (by decide) (fun _ _ _ h => h) (by rfl) ?ybc0 ?nbc0
              case ybc0 => intro W; go_simp; try with_reducible rfl
              try simp only [Act.put, List.setIfInBounds_toArray, List.set_cons_zero, List.set_cons_succ]
              refine stepE_any 1 (some 71) (v := ?vbc1) (fun _ => Keep.refl _ _) rfl (by rfl) (by kernel_rfl) (by kernel_rfl) (by kernel_rfl) (by decide) (fun _ _ _ h => h) (by rfl) ?ybc1 ?nbc1
              case ybc1 => intro W; go_simp; try with_reducible rfl
              try simp only [Act.put, List.setIfInBounds_toArray, List.set_cons_zero, List.set_cons_succ]
              refine stepE_any 2 (some 72) (v := ?vbc2) (fun _ => Keep.refl _ _) rfl (by rfl) (by kernel_rfl) (by kernel_rfl) (by kernel_rfl) (by decide) (fun _ _ _ h => h) (by rfl) ?ybc2 ?nbc2
              case ybc2 => intro W; go_simp; try with_reducible rfl
              try simp only [Act.put, List.setIfInBounds_toArray, List.set_cons_zero, List.set_cons_succ]
              refine stepE_read 3 14 (some 73) (v := ?vbc3) (Keep.refl _ _) rfl (by rfl) (by kernel_rfl) (by kernel_rfl) (by kernel_rfl) (by kernel_rfl) (by kernel_rfl) (fun _ _ _ h => h) (by rfl) ?ybc3 ?nbc3
              case ybc3 => intro W hW; have q := (HD2.out.head.keep (w := w2.drew) hW (fun h => h)).1; go_simp; try with_reducible rfl
              try simp only [Act.put, List.setIfInBounds_toArray, List.set_cons_zero, List.set_cons_succ]
              refine stepE_any 4 (some 74) (v := ?vbc4) (fun _ => Keep.refl _ _) rfl (by rfl) (by kernel_rfl) (by kernel_rfl) (by kernel_rfl) (by decide) (fun _ _ _ h => h) (by rfl) ?ybc4 ?nbc4
              case ybc4 => intro W; go_simp; try with_reducible rfl
              try simp only [Act.put, List.setIfInBounds_toArray, List.set_cons_zero, List.set_cons_succ]
              refine stepE_read 5 14 (some 75) (v := ?vbc5) (Keep.refl _ _) rfl (by rfl) (by kernel_rfl) (by kernel_rfl) (by kernel_rfl) (by kernel_rfl) (by kernel_rfl) (fun _ _ _ h => h) (by rfl) ?ybc5 ?nbc5
              case ybc5 => intro W hW; have q := HC2.out W hW; go_simp; try with_reducible rfl
              try simp only [Act.put, List.setIfInBounds_toArray, List.set_cons_zero, List.set_cons_succ]
              refine stepE_any 6 (some 76) (v := ?vbc6) (fun _ => Keep.refl _ _) rfl (by rfl) (by kernel_rfl) (by kernel_rfl) (by kernel_rfl) (by decide) (fun _ _ _ h => h) (by rfl) ?ybc6 ?nbc6
              case ybc6 => intro W; go_simp; try with_reducible rfl
              try simp only [Act.put, List.setIfInBounds_toArray, List.set_cons_zero, List.set_cons_succ]
              refine stepE_any 7 (some 77) (v := ?vbc7) (fun _ => Keep.refl _ _) rfl (by rfl) (by kernel_rfl) (by kernel_rfl) (by kernel_rfl) (by decide) (fun _ _ _ h => h) (by rfl) ?ybc7 ?nbc7
              case ybc7 => intro W; go_simp; try with_reducible rfl
              try simp only [Act.put, List.setIfInBounds_toArray, List.set_cons_zero, List.set_cons_succ]
              refine stepE_any 8 (some 78) (v := ?vbc8) (fun _ => Keep.refl _ _) rfl (by rfl) (by kernel_rfl) (by kernel_rfl) (by kernel_rfl) (by decide) (fun _ _ _ h => h) (by rfl) ?ybc8 ?nbc8
              case ybc8 => intro W; go_simp; try with_reducible rfl
              try simp only [Act.put, List.setIfInBounds_toArray, List.set_cons_zero, List.set_cons_succ]
              refine stepE_any 9 (some 79) (v := ?vbc9) (fun _ => Keep.refl _ _) rfl (by rfl) (by kernel_rfl) (by kernel_rfl) (by kernel_rfl) (by decide) (fun _ _ _ h => h) (by rfl) ?ybc9 ?nbc9
              case ybc9 => intro W; go_simp; try with_reducible rfl
              try simp only [Act.put, List.setIfInBounds_toArray, List.set_cons_zero, List.set_cons_succ]
              refine stepE_any 10 (some 80) (v := ?vbc10) (fun _ => Keep.refl _ _) rfl (by rfl) (by kernel_rfl) (by kernel_rfl) (by kernel_rfl) (by decide) (fun _ _ _ h => h) (by rfl) ?ybc10 ?nbc10
              case ybc10 => intro W; go_simp; try with_reducible rfl
              try simp only [Act.put, List.setIfInBounds_toArray, List.set_cons_zero, List.set_cons_succ]
              refine stepE_any 11 (some 81) (v := ?vbc11) (fun _ => Keep.refl _ _) rfl (by rfl) (by kernel_rfl) (by kernel_rfl) (by kernel_rfl) (by decide) (fun _ _ _ h => h) (by rfl) ?ybc11 ?nbc11
              case ybc11 => intro W; go_simp; try with_reducible rfl
              try simp only [Act.put, List.setIfInBounds_toArray, List.set_cons_zero, List.set_cons_succ]
              -- 12: builtin:copy -> 82
              refine stepE_end 12 rfl (by kernel_rfl) (by rfl) (by rfl) (fun K' hK => ?_)
              refine wp_copyB (Blk.keep (w := w2) HD2.out.sec (Keep.drew (fun _ => False) w2) (fun h => h)) (.tmp 78) (.tmp 81) 25 25 rfl (u9.pos * 64) (64) 64 _ (u9.new.take (64)) HNU.out (by rw [HNL.out]; omega) HF9.out 5 Try.underlying25 (by kernel_rfl) (by rfl) (by rfl) (fun w4 hb4 hk4 => hK _ _ ?_)
              clear hK K'
              refine wpAnyE_done (by kernel_rfl) ?_ _
              have hk4' : Keep (fun j => j = S) w2.drew w4 := hk4 _ rfl
              have hb4' : Blk w4 S 101 (flat (SK.set u9.pos (u9.new.take (64) ++ (SK.getD u9.pos []).drop (64)))) := by
                have e := flat_head SK u9.pos (u9.new.take (64)) _ 64 (fun s hs => (HD2.out.secs_ok s hs).1) (by rw [HNL.out]; omega) hpos rfl
                rw [HNL.out] at e
                rw [HNL.out, e] at hb4
                exact hb4
              have hd4 : IsDisk w4 B S (.slice p uns.length c) (redoN KN torn (undo uns secs) (k + 1)) uns l := by
                have e9 : newN KN torn k = 64 := by unfold newN; rw [if_neg (by omega)]
                rw [redoN, HUK.out, HSK.out, e9]
                exact (HD2.out.keep (Keep.drew (fun _ => False) w2) (fun _ _ h => h)).setSec hk4' (torn_ok HGK.out.2.2 (sec_get HD2.out.secs_ok hpos) _) hb4'
              have HD4 := Lib.hid hd4
              have HK4 : Hid (Keep (fun j => j = S) w w4) := Lib.hid (((HKP.out.trans' (Keep.ofBelow (bad := fun _ => False) HBL2.out) (fun _ _ h => h.elim)).trans (Keep.drew _ _)).trans' hk4' (fun _ _ h => h))
              have HR4 : Hid (w4.ownsRow w0.heap.size 103 129 (.slice (some ⟨g, 0, none⟩) KN.length cK) KN.length (KN.flatMap Un.cells)) := Lib.hid (ownsRow_keep (ownsRow_keep HRK.out (Keep.ofBelow (bad := fun _ => False) HBL2.out) (fun _ _ h => h)) ((Keep.drew (fun j => j = S) w2).trans hk4') (fun j e1 e2 => by have := (HRK.out.lt j e1).1; omega))
              clear hb4 hb4' hk4 hk4' hd4
              go_wp2
              go_roundw
              case rel => exact ⟨k + 1, by omega, by go_num, HD4.out, HK4.out, HR4.out⟩
              case measure => simp [intOf]; omega
          · have e1 : ((k : Int) == (KN.length : Int) - 1) = false := by simp; omega
            go_wp2_with (first | ((with_reducible refine wpList_loadM (.tmp 53) g (k * 129) (Un.cells u9) _ HR9.out Try.underlying103 rfl ?_ ?_ ?_); exact HI9.out; exact rfl) | ((with_reducible refine wpList_allocM zeroWrite ?_ ?_); exact zeroWr) | ((with_reducible refine wpList_storeN (.tmp 9) (.tmp 54) (Un.cells u9) (Un.cells_one _) ?_ ?_ ?_ ?_ ?_); exact HI9.out; exact rfl; exact rfl; exact HL9.out; intro w2 hb2 hbl2 hz2; have HZ2 := Lib.hid hz2; have HB2 := Lib.hid hb2; have HBL2 := Lib.hid hbl2; have HD2 := Lib.hid (HDK.out.later hbl2); have hc2 : ∀ W, Keep (fun _ => False) w2.drew W → W.cell? ⟨wr.heap.size, 0, none⟩ = some (.int .i64 u9.pos) := (fun W hW => by rw [hW.cell (fun h => h) (show wr.heap.size < w2.drew.heap.size from hb2.lt)]; exact hb2.cell 0); have HC2 := Lib.hid hc2; clear hz2 hb2 hbl2 hc2))
            have hnu : NumsOff (fun _ => False) w2.drew (.slice (some ⟨wr.heap.size, 65, none⟩) (64) 64) (u9.new.take (64)) := by
              refine NumsOff.of (Blk.nums (w := w2.drew) HB2.out 65 64 _ _ ?_ (fun j hj => ?_)) (fun _ _ h => h)
              · rw [List.length_take, HGK.out.2.2.1]; omega
              · rw [List.length_take, HGK.out.2.2.1] at hj
                show (Un.cells u9)[65 + j]? = _
                rw [show 65 + j = (64 + j) + 1 by omega]
                show (B8 u9.was ++ B8 u9.new)[64 + j]? = _
                rw [List.getElem?_append_right (by rw [B8_len, HGK.out.2.1.1]; omega), B8_len, HGK.out.2.1.1, Nat.add_sub_cancel_left, B8_take, List.getElem?_take, if_pos (by omega)]
            have hnl : (u9.new.take (64)).length = 64 := by rw [List.length_take, HGK.out.2.2.1]; omega
            have hf9 : u9.pos * 64 + (u9.new.take (64)).length ≤ (flat SK).length := by
              have := parts_len B8 64 SK (fun s hs => by rw [B8_len]; exact (HD2.out.secs_ok s hs).1)
              unfold flat
              rw [this, hnl]
              have : (u9.pos + 1) * 64 ≤ SK.length * 64 := Nat.mul_le_mul_right _ hpos
              omega
            have HNU := Lib.hid hnu.nums
            have HNL := Lib.hid hnl
            have HF9 := Lib.hid hf9
            have hnnI : ((64 : Nat) : Int) ≤ 64 := by omega
            have hnn0 : (0 : Int) ≤ ((64 : Nat) : Int) := by omega
            clear hnu hnl hf9
            go_wp2_with fail
            refine regionE_begin 12 (fun W => Keep (fun _ => False) w2.drew W) (by kernel_rfl) ?_
            refine stepE_any 0 (some 70) (v := ?vbd0) (fun _ => Keep.refl _ _) rfl (by rfl) (by kernel_rfl) (by kernel_rfl) (by kernel_rfl) (by decide) (fun _ _ _ h => h) (by rfl) ?ybd0 ?nbd0
            case ybd0 => intro W; go_simp; try with_reducible rfl
            try simp only [Act.put, List.setIfInBounds_toArray, List.set_cons_zero, List.set_cons_succ]
            refine stepE_any 1 (some 71) (v := ?vbd1) (fun _ => Keep.refl _ _) rfl (by rfl) (by kernel_rfl) (by kernel_rfl) (by kernel_rfl) (by decide) (fun _ _ _ h => h) (by rfl) ?ybd1 ?nbd1
            case ybd1 => intro W; go_simp; try with_reducible rfl
            try simp only [Act.put, List.setIfInBounds_toArray, List.set_cons_zero, List.set_cons_succ]
            refine stepE_any 2 (some 72) (v := ?vbd2) (fun _ => Keep.refl _ _) rfl (by rfl) (by kernel_rfl) (by kernel_rfl) (by kernel_rfl) (by decide) (fun _ _ _ h => h) (by rfl) ?ybd2 ?nbd2
            case ybd2 => intro W; go_simp; try with_reducible rfl
            try simp only [Act.put, List.setIfInBounds_toArray, List.set_cons_zero, List.set_cons_succ]
            refine stepE_read 3 14 (some 73) (v := ?vbd3) (Keep.refl _ _) rfl (by rfl) (by kernel_rfl) (by kernel_rfl) (by kernel_rfl) (by kernel_rfl) (by kernel_rfl) (fun _ _ _ h => h) (by rfl) ?ybd3 ?nbd3
            case ybd3 => intro W hW; have q := (HD2.out.head.keep (w := w2.drew) hW (fun h => h)).1; go_simp; try with_reducible rfl
            try simp only [Act.put, List.setIfInBounds_toArray, List.set_cons_zero, List.set_cons_succ]
            refine stepE_any 4 (some 74) (v := ?vbd4) (fun _ => Keep.refl _ _) rfl (by rfl) (by kernel_rfl) (by kernel_rfl) (by kernel_rfl) (by decide) (fun _ _ _ h => h) (by rfl) ?ybd4 ?nbd4
            case ybd4 => intro W; go_simp; try with_reducible rfl
            try simp only [Act.put, List.setIfInBounds_toArray, List.set_cons_zero, List.set_cons_succ]
            refine stepE_read 5 14 (some 75) (v := ?vbd5) (Keep.refl _ _) rfl (by rfl) (by kernel_rfl) (by kernel_rfl) (by kernel_rfl) (by kernel_rfl) (by kernel_rfl) (fun _ _ _ h => h) (by rfl) ?ybd5 ?nbd5
            case ybd5 => intro W hW; have q := HC2.out W hW; go_simp; try with_reducible rfl
            try simp only [Act.put, List.setIfInBounds_toArray, List.set_cons_zero, List.set_cons_succ]
            refine stepE_any 6 (some 76) (v := ?vbd6) (fun _ => Keep.refl _ _) rfl (by rfl) (by kernel_rfl) (by kernel_rfl) (by kernel_rfl) (by decide) (fun _ _ _ h => h) (by rfl) ?ybd6 ?nbd6
            case ybd6 => intro W; go_simp; try with_reducible rfl
            try simp only [Act.put, List.setIfInBounds_toArray, List.set_cons_zero, List.set_cons_succ]
            refine stepE_any 7 (some 77) (v := ?vbd7) (fun _ => Keep.refl _ _) rfl (by rfl) (by kernel_rfl) (by kernel_rfl) (by kernel_rfl) (by decide) (fun _ _ _ h => h) (by rfl) ?ybd7 ?nbd7
            case ybd7 => intro W; go_simp; try with_reducible rfl
            try simp only [Act.put, List.setIfInBounds_toArray, List.set_cons_zero, List.set_cons_succ]
            refine stepE_any 8 (some 78) (v := ?vbd8) (fun _ => Keep.refl _ _) rfl (by rfl) (by kernel_rfl) (by kernel_rfl) (by kernel_rfl) (by decide) (fun _ _ _ h => h) (by rfl) ?ybd8 ?nbd8
            case ybd8 => intro W; go_simp; try with_reducible rfl
            try simp only [Act.put, List.setIfInBounds_toArray, List.set_cons_zero, List.set_cons_succ]
            refine stepE_any 9 (some 79) (v := ?vbd9) (fun _ => Keep.refl _ _) rfl (by rfl) (by kernel_rfl) (by kernel_rfl) (by kernel_rfl) (by decide) (fun _ _ _ h => h) (by rfl) ?ybd9 ?nbd9
            case ybd9 => intro W; go_simp; try with_reducible rfl
            try simp only [Act.put, List.setIfInBounds_toArray, List.set_cons_zero, List.set_cons_succ]
            refine stepE_any 10 (some 80) (v := ?vbd10) (fun _ => Keep.refl _ _) rfl (by rfl) (by kernel_rfl) (by kernel_rfl) (by kernel_rfl) (by decide) (fun _ _ _ h => h) (by rfl) ?ybd10 ?nbd10
            case ybd10 => intro W; go_simp; try with_reducible rfl
            try simp only [Act.put, List.setIfInBounds_toArray, List.set_cons_zero, List.set_cons_succ]
            refine stepE_any 11 (some 81) (v := ?vbd11) (fun _ => Keep.refl _ _) rfl (by rfl) (by kernel_rfl) (by kernel_rfl) (by kernel_rfl) (by decide) (fun _ _ _ h => h) (by rfl) ?ybd11 ?nbd11
            case ybd11 => intro W; go_simp; try with_reducible rfl
            try simp only [Act.put, List.setIfInBounds_toArray, List.set_cons_zero, List.set_cons_succ]
            -- 12: builtin:copy -> 82
            refine stepE_end 12 rfl (by kernel_rfl) (by rfl) (by rfl) (fun K' hK => ?_)
            refine wp_copyB (Blk.keep (w := w2) HD2.out.sec (Keep.drew (fun _ => False) w2) (fun h => h)) (.tmp 78) (.tmp 81) 25 25 rfl (u9.pos * 64) (64) 64 _ (u9.new.take (64)) HNU.out (by rw [HNL.out]; omega) HF9.out 5 Try.underlying25 (by kernel_rfl) (by rfl) (by rfl) (fun w4 hb4 hk4 => hK _ _ ?_)
            clear hK K'
            refine wpAnyE_done (by kernel_rfl) ?_ _
            have hk4' : Keep (fun j => j = S) w2.drew w4 := hk4 _ rfl
            have hb4' : Blk w4 S 101 (flat (SK.set u9.pos (u9.new.take (64) ++ (SK.getD u9.pos []).drop (64)))) := by
              have e := flat_head SK u9.pos (u9.new.take (64)) _ 64 (fun s hs => (HD2.out.secs_ok s hs).1) (by rw [HNL.out]; omega) hpos rfl
              rw [HNL.out] at e
              rw [HNL.out, e] at hb4
              exact hb4
            have hd4 : IsDisk w4 B S (.slice p uns.length c) (redoN KN torn (undo uns secs) (k + 1)) uns l := by
              have e9 : newN KN torn k = 64 := by unfold newN; rw [if_neg (by omega)]
              rw [redoN, HUK.out, HSK.out, e9]
              exact (HD2.out.keep (Keep.drew (fun _ => False) w2) (fun _ _ h => h)).setSec hk4' (torn_ok HGK.out.2.2 (sec_get HD2.out.secs_ok hpos) _) hb4'
            have HD4 := Lib.hid hd4
            have HK4 : Hid (Keep (fun j => j = S) w w4) := Lib.hid (((HKP.out.trans' (Keep.ofBelow (bad := fun _ => False) HBL2.out) (fun _ _ h => h.elim)).trans (Keep.drew _ _)).trans' hk4' (fun _ _ h => h))
            have HR4 : Hid (w4.ownsRow w0.heap.size 103 129 (.slice (some ⟨g, 0, none⟩) KN.length cK) KN.length (KN.flatMap Un.cells)) := Lib.hid (ownsRow_keep (ownsRow_keep HRK.out (Keep.ofBelow (bad := fun _ => False) HBL2.out) (fun _ _ h => h)) ((Keep.drew (fun j => j = S) w2).trans hk4') (fun j e1 e2 => by have := (HRK.out.lt j e1).1; omega))
            clear hb4 hb4' hk4 hk4' hd4
            go_wp2
            go_roundw
            case rel => exact ⟨k + 1, by omega, by go_num, HD4.out, HK4.out, HR4.out⟩
            case measure => simp [intOf]; omega
        · obtain rfl : k = KN.length := by omega
          rw [← HCR.out] at hd
          obtain ⟨q1, q2⟩ := hd.setNone
          obtain ⟨q3, q4⟩ := q1.setLeft (-1) (by omega) (by omega)
          obtain ⟨-, h1, h2, -, h4, h5⟩ := id hd.head
          obtain ⟨-, h21, h22, -, h24, h25⟩ := id q1.head
          have Q3 := Lib.hid q3
          have Q4 := Lib.hid (q2.trans q4)
          have HKP := Lib.hid hkp
          clear q1 q2 q3 q4 hd hkp hrk
          go_wp2
          go_returns
          exact ⟨rfl, Q3.out, (HKP.out.mono (fun _ e => .inr (.inl e))).trans (Q4.out.mono (fun _ e => .inl e))⟩
    · have hk' : k < uns.length := by omega
      obtain ⟨g, rfl, hbg, hgl, hlc, hcm, hrow⟩ := row_at hd.row hd.uns_ok (by omega)
      have hgk := un_at hd.uns_ok hk'
      have hst := undo_drop uns secs k hk'
      have hr9 := hrow k hk'
      generalize uns.getD k ⟨0, [], []⟩ = u9 at hgk hst hr9
      have HST := Lib.hid hst
      have hlt := hd.lt
      have hmany := hd.many
      unfold maxLen at hcm
      have hpos := hgk.1
      have hi9 : (Try.prog.info? 101).map (·.size) = some (B8 u9.was).length := by rw [B8_len, hgk.2.1.1]; exact infoSec
      have HI9 := Lib.hid hi9
      have hf9 : u9.pos * 64 + (B8 u9.was).length ≤ (flat (undo (uns.drop (k + 1)) secs)).length := by
        have := parts_len B8 64 (undo (uns.drop (k + 1)) secs) (fun s hs => by rw [B8_len]; exact (hd.secs_ok s hs).1)
        unfold flat
        rw [this, B8_len, hgk.2.1.1]
        have : (u9.pos + 1) * 64 ≤ (undo (uns.drop (k + 1)) secs).length * 64 := Nat.mul_le_mul_right _ hpos
        omega
      have HF9 := Lib.hid hf9
      have hc0 : ∀ W, Keep (fun _ => False) wr.drew W → W.cell? ⟨g, k * 129, none⟩ = some (.int .i64 u9.pos) := fun W hW => by
        rw [hW.cell (fun h => h) hgl]
        have := hr9 0 _ rfl
        rwa [Nat.add_zero] at this
      have HC0 := Lib.hid hc0
      have hr1 : ∀ W, Keep (fun _ => False) wr.drew W → W.rangeAt g (k * 129 + 1) (B8 u9.was) := fun W hW j v hv => by
        rw [hW.cell (fun h => h) hgl]
        have hj : j < (B8 u9.was).length := (List.getElem?_eq_some_iff.1 hv).1
        have := hr9 (j + 1) v (by show (B8 u9.was ++ B8 u9.new)[j]? = _; rw [List.getElem?_append_left hj]; exact hv)
        rw [show k * 129 + 1 + j = k * 129 + (j + 1) by omega]
        exact this
      have HR1 := Lib.hid hr1
      have HGK := Lib.hid hgk
      have HD := Lib.hid hd
      have HKP := Lib.hid hkp
      have hkI : (k : Int) + 1 ≤ uns.length := by omega
      have hposI : (u9.pos : Int) < (undo (uns.drop (k + 1)) secs).length := by omega
      have hw1 : (((k + 1 : Nat) : Int) - 1) = (k : Int) := by omega
      rw [hw1]
      clear hw1 hst hr9 hi9 hf9 hc0 hr1 hgk hd hkp hrow hk
      go_wp2_with fail
      refine regionE_begin 21 (fun W => Keep (fun _ => False) wr.drew W) (by kernel_rfl) ?_
      refine stepE_any 0 (some 21) (v := ?va0) (fun _ => Keep.refl _ _) rfl (by rfl) (by kernel_rfl) (by kernel_rfl) (by kernel_rfl) (by decide) (fun _ _ _ h => h) (by rfl) ?ya0 ?na0
      case ya0 => intro W; go_simp; try with_reducible rfl
      try simp only [Act.put, List.setIfInBounds_toArray, List.set_cons_zero, List.set_cons_succ]
      refine stepE_any 1 (some 22) (v := ?va1) (fun _ => Keep.refl _ _) rfl (by rfl) (by kernel_rfl) (by kernel_rfl) (by kernel_rfl) (by decide) (fun _ _ _ h => h) (by rfl) ?ya1 ?na1
      case ya1 => intro W; go_simp; try with_reducible rfl
      try simp only [Act.put, List.setIfInBounds_toArray, List.set_cons_zero, List.set_cons_succ]
      refine stepE_any 2 (some 23) (v := ?va2) (fun _ => Keep.refl _ _) rfl (by rfl) (by kernel_rfl) (by kernel_rfl) (by kernel_rfl) (by decide) (fun _ _ _ h => h) (by rfl) ?ya2 ?na2
      case ya2 => intro W; go_simp; try with_reducible rfl
      try simp only [Act.put, List.setIfInBounds_toArray, List.set_cons_zero, List.set_cons_succ]
      refine stepE_read 3 22 (some 24) (v := ?va3) (Keep.refl _ _) rfl (by rfl) (by kernel_rfl) (by kernel_rfl) (by kernel_rfl) (by kernel_rfl) (by kernel_rfl) (fun _ _ _ h => h) (by rfl) ?ya3 ?na3
      case ya3 => intro W hW; have q := (HD.out.head.keep (w := wr.drew) hW (fun h => h)).1; go_simp; try with_reducible rfl
      try simp only [Act.put, List.setIfInBounds_toArray, List.set_cons_zero, List.set_cons_succ]
      refine stepE_any 4 (some 25) (v := ?va4) (fun _ => Keep.refl _ _) rfl (by rfl) (by kernel_rfl) (by kernel_rfl) (by kernel_rfl) (by decide) (fun _ _ _ h => h) (by rfl) ?ya4 ?na4
      case ya4 => intro W; go_simp; try with_reducible rfl
      try simp only [Act.put, List.setIfInBounds_toArray, List.set_cons_zero, List.set_cons_succ]
      refine stepE_any 5 (some 26) (v := ?va5) (fun _ => Keep.refl _ _) rfl (by rfl) (by kernel_rfl) (by kernel_rfl) (by kernel_rfl) (by decide) (fun _ _ _ h => h) (by rfl) ?ya5 ?na5
      case ya5 => intro W; go_simp; try with_reducible rfl
      try simp only [Act.put, List.setIfInBounds_toArray, List.set_cons_zero, List.set_cons_succ]
      refine stepE_any 6 (some 27) (v := ?va6) (fun _ => Keep.refl _ _) rfl (by rfl) (by kernel_rfl) (by kernel_rfl) (by kernel_rfl) (by decide) (fun _ _ _ h => h) (by rfl) ?ya6 ?na6
      case ya6 => intro W; go_simp; try with_reducible rfl
      try simp only [Act.put, List.setIfInBounds_toArray, List.set_cons_zero, List.set_cons_succ]
      refine stepE_read 7 22 (some 28) (v := ?va7) (Keep.refl _ _) rfl (by rfl) (by kernel_rfl) (by kernel_rfl) (by kernel_rfl) (by kernel_rfl) (by kernel_rfl) (fun _ _ _ h => h) (by rfl) ?ya7 ?na7
      case ya7 => intro W hW; have q := (HD.out.head.keep (w := wr.drew) hW (fun h => h)).2.1; go_simp; try with_reducible rfl
      try simp only [Act.put, List.setIfInBounds_toArray, List.set_cons_zero, List.set_cons_succ]
      refine stepE_any 8 (some 29) (v := ?va8) (fun _ => Keep.refl _ _) rfl (by rfl) (by kernel_rfl) (by kernel_rfl) (by kernel_rfl) (by decide) (fun _ _ _ h => h) (by rfl) ?ya8 ?na8
      case ya8 => intro W; go_simp; try with_reducible rfl
      try simp only [Act.put, List.setIfInBounds_toArray, List.set_cons_zero, List.set_cons_succ]
      refine stepE_any 9 (some 30) (v := ?va9) (fun _ => Keep.refl _ _) rfl (by rfl) (by kernel_rfl) (by kernel_rfl) (by kernel_rfl) (by decide) (fun _ _ _ h => h) (by rfl) ?ya9 ?na9
      case ya9 => intro W; go_simp; try with_reducible rfl
      try simp only [Act.put, List.setIfInBounds_toArray, List.set_cons_zero, List.set_cons_succ]
      refine stepE_any 10 (some 31) (v := ?va10) (fun _ => Keep.refl _ _) rfl (by rfl) (by kernel_rfl) (by kernel_rfl) (by kernel_rfl) (by decide) (fun _ _ _ h => h) (by rfl) ?ya10 ?na10
      case ya10 => intro W; go_simp; try with_reducible rfl
      try simp only [Act.put, List.setIfInBounds_toArray, List.set_cons_zero, List.set_cons_succ]
      refine stepE_read 11 22 (some 32) (v := ?va11) (Keep.refl _ _) rfl (by rfl) (by kernel_rfl) (by kernel_rfl) (by kernel_rfl) (by kernel_rfl) (by kernel_rfl) (fun _ _ _ h => h) (by rfl) ?ya11 ?na11
      case ya11 => intro W hW; have q := HC0.out W hW; go_simp; try with_reducible rfl
      try simp only [Act.put, List.setIfInBounds_toArray, List.set_cons_zero, List.set_cons_succ]
      refine stepE_any 12 (some 33) (v := ?va12) (fun _ => Keep.refl _ _) rfl (by rfl) (by kernel_rfl) (by kernel_rfl) (by kernel_rfl) (by decide) (fun _ _ _ h => h) (by rfl) ?ya12 ?na12
      case ya12 => intro W; go_simp; try with_reducible rfl
      try simp only [Act.put, List.setIfInBounds_toArray, List.set_cons_zero, List.set_cons_succ]
      refine stepE_any 13 (some 34) (v := ?va13) (fun _ => Keep.refl _ _) rfl (by rfl) (by kernel_rfl) (by kernel_rfl) (by kernel_rfl) (by decide) (fun _ _ _ h => h) (by rfl) ?ya13 ?na13
      case ya13 => intro W; go_simp; try with_reducible rfl
      try simp only [Act.put, List.setIfInBounds_toArray, List.set_cons_zero, List.set_cons_succ]
      refine stepE_any 14 (some 35) (v := ?va14) (fun _ => Keep.refl _ _) rfl (by rfl) (by kernel_rfl) (by kernel_rfl) (by kernel_rfl) (by decide) (fun _ _ _ h => h) (by rfl) ?ya14 ?na14
      case ya14 => intro W; go_simp; try with_reducible rfl
      try simp only [Act.put, List.setIfInBounds_toArray, List.set_cons_zero, List.set_cons_succ]
      refine stepE_read 15 22 (some 36) (v := ?va15) (Keep.refl _ _) rfl (by rfl) (by kernel_rfl) (by kernel_rfl) (by kernel_rfl) (by kernel_rfl) (by kernel_rfl) (fun _ _ _ h => h) (by rfl) ?ya15 ?na15
      case ya15 => intro W hW; have q := (HD.out.head.keep (w := wr.drew) hW (fun h => h)).2.1; go_simp; try with_reducible rfl
      try simp only [Act.put, List.setIfInBounds_toArray, List.set_cons_zero, List.set_cons_succ]
      refine stepE_any 16 (some 37) (v := ?va16) (fun _ => Keep.refl _ _) rfl (by rfl) (by kernel_rfl) (by kernel_rfl) (by kernel_rfl) (by decide) (fun _ _ _ h => h) (by rfl) ?ya16 ?na16
      case ya16 => intro W; go_simp; try with_reducible rfl
      try simp only [Act.put, List.setIfInBounds_toArray, List.set_cons_zero, List.set_cons_succ]
      refine stepE_any 17 (some 38) (v := ?va17) (fun _ => Keep.refl _ _) rfl (by rfl) (by kernel_rfl) (by kernel_rfl) (by kernel_rfl) (by decide) (fun _ _ _ h => h) (by rfl) ?ya17 ?na17
      case ya17 => intro W; go_simp; try with_reducible rfl
      try simp only [Act.put, List.setIfInBounds_toArray, List.set_cons_zero, List.set_cons_succ]
      refine stepE_any 18 (some 39) (v := ?va18) (fun _ => Keep.refl _ _) rfl (by rfl) (by kernel_rfl) (by kernel_rfl) (by kernel_rfl) (by decide) (fun _ _ _ h => h) (by rfl) ?ya18 ?na18
      case ya18 => intro W; go_simp; try with_reducible rfl
      try simp only [Act.put, List.setIfInBounds_toArray, List.set_cons_zero, List.set_cons_succ]
      refine stepE_read 19 22 (some 40) (v := ?va19) (Keep.refl _ _) rfl (by rfl) (by kernel_rfl) (by kernel_rfl) (by kernel_rfl) (by kernel_rfl) (by kernel_rfl) (fun _ _ _ h => h) (by rfl) ?ya19 ?na19
      case ya19 => intro W hW; ((refine exec_load 101 (.tmp 39) ?_ g (k * 129 + 1) ?_ (B8 u9.was) _ (HR1.out W hW) Try.underlying101 rfl HI9.out); rfl; rfl)
      try simp only [Act.put, List.setIfInBounds_toArray, List.set_cons_zero, List.set_cons_succ]
      refine stepE_any 20 (some 41) (v := ?va20) (fun _ => Keep.refl _ _) rfl (by rfl) (by kernel_rfl) (by kernel_rfl) (by kernel_rfl) (by decide) (fun _ _ _ h => h) (by rfl) ?ya20 ?na20
      case ya20 => intro W; go_simp; try with_reducible rfl
      try simp only [Act.put, List.setIfInBounds_toArray, List.set_cons_zero, List.set_cons_succ]
      -- 21: store -> None
      refine stepE_end 21 rfl (by kernel_rfl) (by rfl) (by rfl) (fun K' hK => ?_)
      refine wp_store_blk (Blk.keep (w := wr) HD.out.sec (Keep.drew (fun _ => False) wr) (fun h => h)) 101 (.tmp 41) (.tmp 40) rfl (u9.pos * 64) (B8 u9.was) (by rfl) (by rfl) HF9.out HI9.out (B8_one _) (fun w4 hb4 hk4 => hK _ _ ?_)
      clear hK K'
      refine wpAnyE_done (by kernel_rfl) ?_ _
      have hk4' : Keep (fun j => j = S) wr.drew w4 := hk4 _ rfl
      have hb4' : Blk w4 S 101 (flat ((undo (uns.drop (k + 1)) secs).set u9.pos u9.was)) := by
        have e := flat_head (undo (uns.drop (k + 1)) secs) u9.pos u9.was _ 64 (fun s hs => (HD.out.secs_ok s hs).1) (by rw [HGK.out.2.1.1]; omega) hpos rfl
        have e3 : ((undo (uns.drop (k + 1)) secs).getD u9.pos []).drop u9.was.length = [] := List.drop_of_length_le (by rw [HGK.out.2.1.1, (sec_get HD.out.secs_ok hpos).1]; omega)
        rw [e3, List.append_nil] at e
        rw [B8_len, e] at hb4
        exact hb4
      have hd4 : IsDisk w4 B S (.slice (some ⟨g, 0, none⟩) uns.length c) (undo (uns.drop k) secs) uns l := by
        rw [HST.out]
        exact (HD.out.keep (Keep.drew (fun _ => False) wr) (fun _ _ h => h)).setSec hk4' HGK.out.2.1 hb4'
      have HD4 := Lib.hid hd4
      have HK4 := Lib.hid (HKP.out.trans ((Keep.drew (fun j => j = S) wr).trans hk4'))
      clear hb4 hb4' hk4 hk4' hd4
      go_wp2
      go_roundw
      case rel => exact ⟨k, by omega, by go_num, HD4.out, HK4.out⟩
      case measure => simp [intOf]
end Go.Proofs.Ythecjhjomkpgkaa.K
