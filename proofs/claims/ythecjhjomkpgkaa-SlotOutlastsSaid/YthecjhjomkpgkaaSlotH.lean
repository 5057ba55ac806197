/- Set at each power, in one; what a crash behind it leaves. -/
import Derived.Test.YthecjhjomkpgkaaRefD0
import Derived.Test.YthecjhjomkpgkaaSlotG
import Derived.Test.YthecjhjomkpgkaaSlotH0
namespace Go.Proofs.Ythecjhjomkpgkaa.K
open Go.ChangeShapes Go.WideShapes Go.ChangeAt Go.RowKit
set_option linter.unusedVariables false

theorem power_all {w : World} {B S : Nat} {vu : Value} {secs : List (List Int)} {uns : List Un} {l : Int} (h : IsDisk w B S vu secs uns l) (m : Int) (m0 : -1 ≤ m) (m1 : m ≤ 9223372036854775807) :
    Calls Try.prog 19 #[.pointer (some ⟨B, 0, none⟩), .int .i64 m] w fun e w' => e = .returned (.tuple #[]) ∧ IsDisk w' B S vu secs uns m ∧ Keep (fun k => k = B) w w' := by
  refine (power_any B _ _ l m w h.head (by omega) m1).mono ?_
  rintro e w' ⟨rfl, rfl⟩
  rw [show max m (-1) = m by omega]
  exact ⟨rfl, h.setLeft m (by omega) m1⟩
def SetP (l : Int) (s : List (List Int)) (q : Nat) (SB : List Int) (E : Int) (s' : List (List Int)) (us : List Un) : Prop :=
  ((l = -1 ∨ l = 2) ∧ E = 0 ∧ s' = s.set q SB ∧ us = []) ∨ (l = 1 ∧ E = 26 ∧ s' = s.set q SB ∧ us = [⟨q, s.getD q [], SB⟩]) ∨ (l = 0 ∧ E = 26 ∧ s' = s ∧ us = [])
def SetR (l : Int) (s : List (List Int)) (q : Nat) (SB : List Int) (E : Int) (s' : List (List Int)) (wl : List (Int × List Int)) : Prop :=
  ((l = -1 ∨ l = 2) ∧ E = 0 ∧ s' = s.set q SB ∧ wl = []) ∨ (l = 1 ∧ E = 26 ∧ s' = s ∧ wl = [((q : Int), SB)]) ∨ (l = 0 ∧ E = 26 ∧ s' = s ∧ wl = [])
def SetPPost (w : World) (B S : Nat) (l : Int) (s : List (List Int)) (q : Nat) (SB : List Int) (e : Ending) (w' : World) : Prop :=
  ∃ E s' us vu l', e = .returned (.int .i64 E) ∧ SetP l s q SB E s' us ∧ IsDisk w' B S vu s' us l' ∧ Keep (Mine B S (.slice none 0 0)) w w' ∧ ∀ k, vu.ownBlock = some k → w.heap.size ≤ k
def SetRPost (F : Nat → Prop) (w : World) (B : Nat) (l : Int) (s : List (List Int)) (q : Nat) (SB : List Int) (e : Ending) (w' : World) : Prop :=
  ∃ E s' wl l', e = .returned (.int .i64 E) ∧ SetR l s q SB E s' wl ∧ RDisk F w' B s' wl l' ∧ Keep (fun k => k = B) w w'

theorem set_all {w : World} {B S : Nat} {secs : List (List Int)} {l : Int} (h : IsDisk w B S (.slice none 0 0) secs [] l) (l0 : -1 ≤ l) (l2 : l ≤ 2) (c g A q : Nat) (a : Int) (hA : (a = (A : Int)) ∨ (a < 0 ∧ A = 0)) (hA1 : A ≤ 9223372036854775807) (hc : c < 18446744073709551616) (hq : c % 2 = q) (hq1 : q < secs.length) :
    Calls Try.prog 17 #[.pointer (some ⟨B, 0, none⟩), .agg #[.int .u64 c, .int .u64 g, .int .i64 a]] w (SetPPost w B S l secs q (slotB c g A)) := by
  have hl : l = -1 ∨ l = 0 ∨ l = 1 ∨ l = 2 := by omega
  rcases hl with rfl | rfl | rfl | rfl
  · refine (set_gen h c g A q a hA hA1 hc hq hq1 (by decide) (by decide)).mono ?_
    rintro e w' ⟨rfl, hd, hk⟩
    exact ⟨0, _, _, _, _, rfl, .inl ⟨.inl rfl, rfl, rfl, rfl⟩, hd, hk, fun k e => by cases e⟩
  · refine (set_dead0 h c g A q a hA hA1 hc hq hq1).mono ?_
    rintro e w' ⟨rfl, hd, hk⟩
    exact ⟨26, _, _, _, _, rfl, .inr (.inr ⟨rfl, rfl, rfl, rfl⟩), hd, hk, fun k e => by cases e⟩
  · refine (set_dead1 h c g A q a hA hA1 hc hq hq1).mono ?_
    rintro e w' ⟨rfl, vu', hd, hk, hv⟩
    exact ⟨26, _, _, _, _, rfl, .inr (.inl ⟨rfl, rfl, rfl, rfl⟩), hd, hk, hv⟩
  · refine (set_gen h c g A q a hA hA1 hc hq hq1 (by decide) (by decide)).mono ?_
    rintro e w' ⟨rfl, hd, hk⟩
    exact ⟨0, _, _, _, _, rfl, .inl ⟨.inr rfl, rfl, rfl, rfl⟩, hd, hk, fun k e => by cases e⟩
theorem rset_all {F : Nat → Prop} {w : World} {B : Nat} {secs : List (List Int)} {l : Int} (h : RDisk F w B secs [] l) (l0 : -1 ≤ l) (l2 : l ≤ 2) (c g A q : Nat) (a : Int) (hA : (a = (A : Int)) ∨ (a < 0 ∧ A = 0)) (hA1 : A ≤ 9223372036854775807) (hc : c < 18446744073709551616) (hq : c % 2 = q) (hq1 : q < secs.length) :
    Calls Try.prog 18 #[.pointer (some ⟨B, 0, none⟩), .agg #[.int .u64 c, .int .u64 g, .int .i64 a]] w (SetRPost F w B l secs q (slotB c g A)) := by
  have hl : l = -1 ∨ l = 0 ∨ l = 1 ∨ l = 2 := by omega
  rcases hl with rfl | rfl | rfl | rfl
  · refine (rset_live h c g A q a hA hA1 hc hq hq1 (by decide) (by decide) (by decide)).mono ?_
    rintro e w' ⟨rfl, hd, hk⟩
    exact ⟨0, _, _, _, rfl, .inl ⟨.inl rfl, rfl, rfl, rfl⟩, hd, hk⟩
  · refine (rset_dead0 h c g A q a hA hA1 hc hq hq1).mono ?_
    rintro e w' ⟨rfl, hd, hk⟩
    exact ⟨26, _, _, _, rfl, .inr (.inr ⟨rfl, rfl, rfl, rfl⟩), hd, hk⟩
  · refine (rset_dead1 h c g A q a hA hA1 hc hq hq1 (by decide)).mono ?_
    rintro e w' ⟨rfl, hd, hk⟩
    exact ⟨26, _, _, _, rfl, .inr (.inl ⟨rfl, rfl, rfl, rfl⟩), hd, hk⟩
  · refine (rset_live h c g A q a hA hA1 hc hq hq1 (by decide) (by decide) (by decide)).mono ?_
    rintro e w' ⟨rfl, hd, hk⟩
    exact ⟨0, _, _, _, rfl, .inl ⟨.inr rfl, rfl, rfl, rfl⟩, hd, hk⟩

theorem rset_m1 {F : Nat → Prop} {w : World} {B : Nat} {secs : List (List Int)} (h : RDisk F w B secs [] (-1)) (c g A q : Nat) (a : Int) (hA : (a = (A : Int)) ∨ (a < 0 ∧ A = 0)) (hA1 : A ≤ 9223372036854775807) (hc : c < 18446744073709551616) (hq : c % 2 = q) (hq1 : q < secs.length) :
    Calls Try.prog 18 #[.pointer (some ⟨B, 0, none⟩), .agg #[.int .u64 c, .int .u64 g, .int .i64 a]] w (fun e w' => e = .returned (.int .i64 0) ∧ RDisk F w' B (secs.set q (slotB c g A)) [] (-1) ∧ Keep (fun k => k = B) w w') := by
  refine (rset_live h c g A q a hA hA1 hc hq hq1 (by decide) (by decide) (by decide)).mono ?_
  rintro e w' ⟨rfl, hd, hk⟩
  exact ⟨rfl, hd, hk⟩
theorem SetP.few {l : Int} {s s1 : List (List Int)} {q : Nat} {SB : List Int} {E : Int} {us : List Un} (hp : SetP l s q SB E s1 us) : us.length ≤ 1 := by
  rcases hp with ⟨-, -, -, rfl⟩ | ⟨-, -, -, rfl⟩ | ⟨-, -, -, rfl⟩ <;> simp
theorem SetR.len {l : Int} {s s1 : List (List Int)} {q : Nat} {SB : List Int} {E : Int} {wl : List (Int × List Int)} (hp : SetR l s q SB E s1 wl) : s1.length = s.length := by
  rcases hp with ⟨-, -, h, -⟩ | ⟨-, -, h, -⟩ | ⟨-, -, h, -⟩ <;> simp [h]
theorem crash_same {l : Int} {s s1 s2 : List (List Int)} {q : Nat} {SB : List Int} {E E' : Int} {us : List Un} {wl : List (Int × List Int)} (hp : SetP l s q SB E s1 us) (hr : SetR l s q SB E' s2 wl) (hSB : SB.length = 64) (hq : q < s.length) (hz : (s.getD q []).length = 64) (mask torn : Int) :
    ∃ n, n ≤ 64 ∧ (E = 0 → n = 64) ∧ (E = 0 ∨ E = 26) ∧ E' = E ∧ crashed s1 us mask torn = s.set q (mixS SB (s.getD q []) n) ∧ rcrashed s2 wl mask torn = s.set q (mixS SB (s.getD q []) n) := by
  have same : ∀ x : List (List Int), crashed x [] mask torn = x := fun x => rfl
  have rsame : ∀ x : List (List Int), rcrashed x [] mask torn = x := fun x => rfl
  have self : s.set q (s.getD q []) = s := by
    rw [List.getD_eq_getElem?_getD, List.getElem?_eq_getElem hq]
    simp
  have gset : (s.set q (s.getD q [])).getD q [] = s.getD q [] := by rw [self]
  have zero : s.set q (mixS SB (s.getD q []) 0) = s := by rw [mixS_none, self]
  rcases hp with ⟨hl, rfl, rfl, rfl⟩ | ⟨hl, rfl, rfl, rfl⟩ | ⟨hl, rfl, hs1, rfl⟩
  · rcases hr with ⟨hl', rfl, rfl, rfl⟩ | ⟨hl', -⟩ | ⟨hl', -⟩
    · exact ⟨64, Nat.le_refl _, fun _ => rfl, .inl rfl, rfl, by rw [same, mixS_all hSB hz], by rw [rsame, mixS_all hSB hz]⟩
    · omega
    · omega
  · rcases hr with ⟨hl', -⟩ | ⟨-, rfl, hs2, rfl⟩ | ⟨hl', -⟩

    · omega
    · rw [hs2]
      cases hb : bit mask 0 with
      | false =>
        have k1 : keptN [(⟨q, s.getD q [], SB⟩ : Un)] mask (min 1 64) = [] := by
          show keptN _ _ 0 ++ (if bit mask 0 then _ else _) = _
          rw [hb]; rfl
        have k2 : keptW [((q : Int), SB)] mask (min 1 64) = [] := by
          show keptW _ _ 0 ++ (if bit mask 0 then _ else _) = _
          rw [hb]; rfl
        refine ⟨0, Nat.zero_le _, fun h => by omega, .inr rfl, rfl, ?_, ?_⟩
        · unfold crashed
          rw [show [(⟨q, s.getD q [], SB⟩ : Un)].length = 1 from rfl, k1, zero]
          show (s.set q SB).set q (s.getD q []) = s
          rw [List.set_set, self]
        · unfold rcrashed
          rw [show [((q : Int), SB)].length = 1 from rfl, k2, zero]
          rfl
      | true =>
        have k1 : keptN [(⟨q, s.getD q [], SB⟩ : Un)] mask (min 1 64) = [⟨q, s.getD q [], SB⟩] := by
          show keptN _ _ 0 ++ (if bit mask 0 then _ else _) = _
          rw [hb]; rfl
        have k2 : keptW [((q : Int), SB)] mask (min 1 64) = [((q : Int), SB)] := by
          show keptW _ _ 0 ++ (if bit mask 0 then _ else _) = _
          rw [hb]; rfl
        refine ⟨newN [⟨q, s.getD q [], SB⟩] torn 0, newN_le _ _ _, fun h => by omega, .inr rfl, rfl, ?_, ?_⟩
        · unfold crashed
          rw [show [(⟨q, s.getD q [], SB⟩ : Un)].length = 1 from rfl, k1]
          show ((s.set q SB).set q (s.getD q [])).set q (SB.take (newN [⟨q, s.getD q [], SB⟩] torn 0) ++ (((s.set q SB).set q (s.getD q [])).getD q []).drop (newN [⟨q, s.getD q [], SB⟩] torn 0)) = _
          rw [show (s.set q SB).set q (s.getD q []) = s by rw [List.set_set, self]]
          rfl
        · unfold rcrashed
          rw [show [((q : Int), SB)].length = 1 from rfl, k2]
          by_cases ht : 0 ≤ torn ∧ torn < 64
          · have e1 : tornW s [((q : Int), SB)] torn = [((q : Int), mixS SB (s.getD q []) torn.toNat)] := by
              unfold tornW
              rw [if_pos ⟨Nat.zero_lt_one, ht.1, ht.2⟩]
              rfl
            have e2 : newN [(⟨q, s.getD q [], SB⟩ : Un)] torn 0 = torn.toNat := by
              unfold newN
              rw [if_pos ⟨rfl, ht.1, ht.2⟩]
            rw [e1, e2]
            rfl
          · have e1 : tornW s [((q : Int), SB)] torn = [((q : Int), SB)] := by
              unfold tornW
              rw [if_neg (fun h => ht ⟨h.2.1, h.2.2⟩)]
            have e2 : newN [(⟨q, s.getD q [], SB⟩ : Un)] torn 0 = 64 := by
              unfold newN
              rw [if_neg (fun h => ht ⟨h.2.1, h.2.2⟩)]
            rw [e1, e2, mixS_all hSB hz]
            rfl
    · omega
  · rcases hr with ⟨hl', -⟩ | ⟨hl', -⟩ | ⟨-, rfl, hs2, rfl⟩
    · omega
    · omega
    · exact ⟨0, Nat.zero_le _, fun h => by omega, .inr rfl, rfl, by rw [same, zero, hs1], by rw [rsame, zero, hs2]⟩
end Go.Proofs.Ythecjhjomkpgkaa.K
