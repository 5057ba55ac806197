/- What the reference's Put, Lump, and its reader's fail, Num, Lump return. -/
import Derived.Test.YtkfcpnmdmoeioaaPackG
namespace Go.Proofs.Ytkfcpnmdmoeioaa.K
open Go.ChangeShapes Go.WideShapes Go.ChangeAt Go.RowKit
set_option linter.unusedVariables false

set_option maxRecDepth 100000 in
set_option maxHeartbeats 2000000 in
theorem rput_any (v : Value) (ns : List Int) (w : World) (hv : IsNums .u64 w v ns) (hb : ∀ j, j < ns.length → 0 ≤ ns.getD j 0 ∧ ns.getD j 0 ≤ 18446744073709551615) (hl : ns.length ≤ 1000) :
    Calls Try.prog 31 #[v] w fun e w' => ∃ u, e = .returned u ∧ w'.ownsRow w.heap.size 5 1 u (encs ns).length ((encs ns).map (Value.int .u8)) ∧ Below w.heap.size w w' := by
  obtain ⟨p, c, rfl, h⟩ := hv
  have H := Lib.hid h
  have HB := Lib.hid hb
  clear h hb
  go_enter Try.func31, Try.ntmps31
  go_wp2
  go_loopw [3, 4] (fun u i wr => ∃ k : Nat, k ≤ ns.length ∧ i = .int .i64 k ∧ wr.ownsRow w.heap.size 5 1 u (encs (ns.take k)).length ((encs (ns.take k)).map (Value.int .u8)) ∧ Below w.heap.size w wr) (fun _ i _ => ns.length - (intOf i).toNat)
  case atStart => exact ⟨0, Nat.zero_le _, rfl, World.ownsRow_nil _ _ _ _, Below.refl _ _⟩
  case round =>
    obtain ⟨k, hk, rfl, hown, hbel⟩ := hrel
    by_cases hlt : k < ns.length
    · obtain h0 | ⟨b, off, rfl, hblk, hcell⟩ := H.out
      · omega
      have hc : wr.cell? ⟨b, off + k, none⟩ = some (.int .u64 (ns.getD k 0)) := by rw [hbel.cell hblk]; exact hcell k hlt
      obtain ⟨x0, x1⟩ := HB.out k hlt
      obtain ⟨x, hx⟩ : ∃ x : Nat, ns.getD k 0 = (x : Int) := ⟨(ns.getD k 0).toNat, by omega⟩
      rw [hx] at hc x0 x1
      have HX := Lib.hid hx
      clear hcell hx
      have hlen := encs_len (ns.take k)
      have hlt2 := len_take_le ns k
      generalize hN : (encs (ns.take k)).length = N at hown hlen
      have HN := Lib.hid hN
      clear hN
      have hbz := hbel.size
      obtain ⟨wo, rfl⟩ : ∃ wo : World, wo = wr := ⟨_, rfl⟩
      go_wp2
      go_loopw [3, 5] (fun u y wr => ∃ (f n : Nat) (dn : List Int), y = .int .u64 (n : Int) ∧ n < 128 ^ (f + 1) ∧ (n : Int) ≤ 18446744073709551615 ∧ dn ++ encF f n = enc x ∧ wr.ownsRow w.heap.size 5 1 u (N + dn.length) ((encs (ns.take k) ++ dn).map (Value.int .u8)) ∧ Below w.heap.size w wr) (fun _ y _ => (intOf y).toNat)
      case atStart => exact ⟨9, x, [], rfl, by omega, by omega, rfl, by simpa using hown, hbel⟩
      case round =>
        obtain ⟨f, n, dn, rfl, hn1, hn2, hdn, hown2, hbel2⟩ := hrel
        have hdl : dn.length ≤ 10 := by
          have h1 := (enc_len x).1
          rw [← hdn] at h1
          simp at h1; omega
        have hsz2 := hbel2.size
        have HD := Lib.hid hdn
        have HP := Lib.hid hn1
        clear hdn hn1
        have ho := or128 n
        by_cases hge : 128 ≤ n
        · go_wp2_with (at_builtin; refine wpList_app1 rfl _ _ 22 rfl w.heap.size 5 .u8 1 Try.underlying22 info_u8 (by omega) _ _ _ rfl hown2 _ 1 rfl (by omega) hsz2 ?_; intro v' w' hown' hb')
          rcases f with _ | f
          · exfalso; have := HP.out; omega
          go_roundw
          case rel =>
            refine ⟨f, n / 128, dn ++ [((n % 128 + 128 : Nat) : Int)], by simp, ?_, by omega, ?_, ?_, hbel2.trans hb'⟩
            · have := HP.out
              rw [Nat.pow_succ] at this
              exact Nat.div_lt_of_lt_mul (by rw [Nat.mul_comm]; exact this)
            · rw [← HD.out, encF, if_neg (by omega)]; simp
            · rw [show N + (dn ++ [((n % 128 + 128 : Nat) : Int)]).length = N + dn.length + 1 by simp; omega]
              simpa using hown'
          case measure => simp [intOf]; omega
        · have hen : encF f n = [(n : Int)] := by cases f <;> simp [encF]; omega
          have HE := Lib.hid hen
          clear hen ho
          go_wp2_with (at_builtin; refine wpList_app1 rfl _ _ 22 rfl w.heap.size 5 .u8 1 Try.underlying22 info_u8 (by omega) _ _ _ rfl hown2 _ 1 rfl (by omega) hsz2 ?_; intro v' w' hown' hb')
          have hd2 := HD.out
          rw [HE.out] at hd2
          go_roundw
          case rel =>
            refine ⟨k + 1, by omega, by go_num, ?_, hbel2.trans hb'⟩
            rw [encs_snoc _ _ hlt, HX.out, ← hd2, List.length_append, HN.out, List.length_append]
            rw [show N + (dn.length + [(n : Int)].length) = N + dn.length + 1 by simp; omega]
            simpa using hown'
          case measure => simp [intOf]; omega
    · obtain rfl : k = ns.length := by omega
      rw [List.take_length] at hown
      go_wp2
      go_ret
      exact ⟨_, rfl, hown, hbel⟩

set_option maxHeartbeats 1000000 in
theorem rfail_any (B : Nat) (v : Value) (bs : List Int) (e er : Int) (w : World) (h : IsReader w B v bs e) :
    Calls Try.prog 52 #[.pointer (some ⟨B, 0, none⟩), .int .i64 er] w fun en w' => en = .returned (.tuple #[]) ∧ IsReader w' B (.slice none 0 0) [] er ∧ Only B w w' := by
  obtain ⟨h0, h1, h2, h3, h4, h5⟩ := h
  go_enter Try.func52, Try.ntmps52
  go_wp2
  go_returns
  refine ⟨rfl, ⟨?_, ?_, ?_, ?_, ⟨none, 0, rfl, Nat.le_refl _, by omega, .inl rfl⟩, by simp⟩, (Only.set B w 0 _).trans (Only.set B _ 1 _)⟩
  · rw [World.cell?_setCell_other _ _ _ _ (by simp)]
    exact World.cell?_setCell_same _ _ _ h0
  · exact World.cell?_setCell_same _ _ _ (by rw [World.cell?_setCell_other _ _ _ _ (by simp)]; exact h1)
  · rw [World.frozen?_setCell, World.frozen?_setCell]; exact h2
  · rw [World.frozen?_setCell, World.frozen?_setCell]; exact h3


theorem and127 (b : Int) (h0 : 0 ≤ b) (h1 : b ≤ 255) : bits .and .u8 b 127 = b % 128 := by
  have h : ∀ z : Fin 256, bits .and .u8 ((z.val : Nat) : Int) 127 = ((z.val : Nat) : Int) % 128 := by decide +kernel
  have := h ⟨b.toNat, by omega⟩
  simp only at this
  rw [show ((b.toNat : Nat) : Int) = b by omega] at this
  exact this
theorem numR_err {bs : List Int} {er : Int} (most : Int) (h : dec 0 0 bs = .err er) : numR bs 0 most = (0, [], er) := by rw [numR, if_pos rfl, h]
theorem numR_val {bs : List Int} {n k : Nat} (most : Int) (h : dec 0 0 bs = .ok n k) : numR bs 0 most = if most < (n : Int) then (0, [], 22) else ((n : Int), bs.drop k, 0) := by rw [numR, if_pos rfl, h]

/-- No other block than v's. -/
def SameB (v v' : Value) : Prop := ∀ g, v'.ownBlock = some g → v.ownBlock = some g
theorem SameB.refl (v : Value) : SameB v v := fun _ h => h
theorem SameB.nil0 (v : Value) (l c : Nat) : SameB v (.slice none l c) := fun _ h => by simp [Value.ownBlock] at h
theorem SameB.slice {v : Value} {p : Option Addr} {l c l' c' : Nat} (h : SameB v (.slice p l c)) : SameB v (.slice p l' c') := fun g hg => by cases p with | none => simp [Value.ownBlock] at hg | some a => exact h g hg
theorem SameB.nil (v : Value) : SameB v (.slice none 0 0) := fun _ h => by simp [Value.ownBlock] at h
theorem SameB.trans {a b c : Value} (h : SameB a b) (k : SameB b c) : SameB a c := fun g hg => h g (k g hg)
theorem IsReader.kept' {w w' : World} {B B2 : Nat} {v : Value} {bs : List Int} {e : Int} (h : IsReader w B v bs e) (ho : Only B2 w w') (hB : B ≠ B2) (hg : bs.length ≠ 0 → v.ownBlock ≠ some B2) : IsReader w' B v bs e := by
  have hlt := h.lt
  obtain ⟨h0, h1, h2, h3, ⟨p, c, rfl, hc1, hc2, hc⟩, h5⟩ := h
  have hb : w'.heap[B]? = w.heap[B]? := ho.block B hlt (fun e => hB (by injection e))
  refine ⟨by rw [World.cell?_of_block (w := w) hb]; exact h0, by rw [World.cell?_of_block (w := w) hb]; exact h1, by rw [World.frozen?_of_block (w := w) hb]; exact h2, by rw [World.frozen?_of_block (w := w) hb]; exact h3, ⟨p, c, rfl, hc1, hc2, ?_⟩, h5⟩
  by_cases hz : bs.length = 0
  · exact .inl hz
  rcases hc with hc | ⟨b, off, rfl, hblt, hcell⟩
  · exact .inl hc
  · refine .inr ⟨b, off, rfl, hblt, fun j hj => ?_⟩
    have hb2 : w'.heap[b]? = w.heap[b]? := ho.block b (by omega) (fun e => hg hz (by rw [← e]; rfl))
    rw [World.cell?_of_block (w := w) (a := ⟨b, off + j, none⟩) hb2]
    exact hcell j hj

set_option maxRecDepth 100000 in
set_option maxHeartbeats 4000000 in
theorem rnum_any (B : Nat) (v : Value) (bs : List Int) (e most : Int) (w : World) (h : IsReader w B v bs e) (m0 : 0 ≤ most) :
    Calls Try.prog 45 #[.pointer (some ⟨B, 0, none⟩), .int .u64 most] w fun en w' => en = .returned (.int .u64 (numR bs e most).1) ∧ ∃ v', IsReader w' B v' (numR bs e most).2.1 (numR bs e most).2.2 ∧ Only B w w' ∧ SameB v v' := by
  have H := Lib.hid h
  obtain ⟨h0, h1, h2, h3, ⟨p, c, rfl, hc1, hc2, hcells⟩, hbs⟩ := h
  have HC := Lib.hid hcells
  have HB := Lib.hid hbs
  clear hcells hbs
  by_cases he : e = 0
  · subst he
    go_enter Try.func45, Try.ntmps45
    go_wp2
    go_loop [5, 6] (fun a i => ∃ k acc : Nat, k ≤ bs.length ∧ k ≤ 9 ∧ i = .int .i64 k ∧ a = .int .u64 acc ∧ acc < 2 ^ (7 * k) ∧ dec acc k (bs.drop k) = dec 0 0 bs) (fun _ i => bs.length - (intOf i).toNat)
    case atStart => exact ⟨0, 0, Nat.zero_le _, by omega, rfl, rfl, by simp, rfl⟩
    case round =>
      obtain ⟨k, acc, hk, hk9, rfl, rfl, hacc, hd⟩ := hrel
      by_cases hlt : k < bs.length
      · obtain h0' | ⟨b, off, rfl, hblk, hcell⟩ := HC.out
        · omega
        have hc := hcell k hlt
        have hxm : bs.getD k 0 ∈ bs := by simp [List.getD, hlt]
        have hx1 := HB.out _ hxm
        have hdr : bs.drop k = bs.getD k 0 :: bs.drop (k + 1) := by rw [List.drop_eq_getElem_cons hlt]; simp [List.getD, hlt]
        obtain ⟨x, hx⟩ : ∃ x, bs.getD k 0 = x := ⟨_, rfl⟩
        rw [hdr] at hd
        rw [hx] at hc hx1 hd
        obtain ⟨x0, x255⟩ := hx1
        have HX := Lib.hid hx
        have HD := Lib.hid hd
        have HA := Lib.hid hacc
        clear hcell hxm hdr hx hd hacc
        by_cases h91 : k = 9 ∧ 1 < x
        · have hfin : dec 0 0 bs = .err 20 := by rw [← HD.out, dec, if_pos (.inl h91)]
          have HF := Lib.hid hfin
          have hq9 : ((k : Int) == 9) = true := by rw [beq_iff_eq]; omega
          have hx2 := h91.2
          clear hfin h91
          go_wp2_with fail
          refine (rfail_any B _ bs 0 20 _ H.out).mono ?_
          rintro en w2 ⟨rfl, hr2, ho2⟩
          go_wp2
          go_ret
          rw [numR_err most HF.out]
          exact ⟨rfl, _, hr2, ho2, SameB.nil _⟩
        · have hor := or_shift acc k x HA.out hk9 x0 x255 (by omega)
          have hab := acc_bound acc k x HA.out
          have han := and127 x x0 x255
          have hdec : dec acc k (x :: bs.drop (k + 1)) = if 0 < k ∧ x = 0 then .err 20 else if x < 128 then .ok (acc + (x % 128).toNat * 2 ^ (7 * k)) (k + 1) else dec (acc + (x % 128).toNat * 2 ^ (7 * k)) (k + 1) (bs.drop (k + 1)) := by
            rw [dec]
            by_cases hz : 0 < k ∧ x = 0
            · rw [if_pos (.inr hz), if_pos hz]
            · rw [if_neg (by rintro (h | h); exact h91 h; exact hz h), if_neg hz]
          rw [HD.out] at hdec
          generalize acc + (x % 128).toNat * 2 ^ (7 * k) = N at hor hab hdec
          have HN := Lib.hid hab
          have HE := Lib.hid hdec
          clear hab hdec
          by_cases hb : x < 128
          · by_cases hz : 0 < k ∧ x = 0
            · have hfin : dec 0 0 bs = .err 20 := by rw [HE.out, if_pos hz]
              have HF := Lib.hid hfin
              obtain ⟨hk1, rfl⟩ := hz
              clear hfin
              by_cases h9 : k = 9
              · have hq9 : ((k : Int) == 9) = true := by rw [beq_iff_eq]; omega
                clear h9 h91
                go_wp2_with fail
                refine (rfail_any B _ bs 0 20 _ H.out).mono ?_
                rintro en w2 ⟨rfl, hr2, ho2⟩
                go_wp2
                go_ret
                rw [numR_err most HF.out]
                exact ⟨rfl, _, hr2, ho2, SameB.nil _⟩
              · have hq9 : ((k : Int) == 9) = false := by rw [beq_eq_false_iff_ne]; omega
                clear h9 h91
                go_wp2_with fail
                refine (rfail_any B _ bs 0 20 _ H.out).mono ?_
                rintro en w2 ⟨rfl, hr2, ho2⟩
                go_wp2
                go_ret
                rw [numR_err most HF.out]
                exact ⟨rfl, _, hr2, ho2, SameB.nil _⟩
            · have hfin : dec 0 0 bs = .ok N (k + 1) := by rw [HE.out, if_neg hz, if_pos hb]
              have hres := numR_val most hfin
              have fin : ∀ (a' : Option Addr) (c' : Nat), (∀ x, a' = some x → x.block = b) → ¬ most < (N : Int) → (bs.length - (k + 1) ≤ c') → c' ≤ 9223372036854775807 → (bs.length - (k + 1) = 0 ∨ a' = some ⟨b, off + (k + 1), none⟩) →
                  (Ending.returned (.int .u64 (N : Int)) = .returned (.int .u64 (numR bs 0 most).1)) ∧ IsReader (w.setCell ⟨B, 0, none⟩ (.slice a' (bs.length - (k + 1)) c')) B (.slice a' (bs.length - (k + 1)) c') (numR bs 0 most).2.1 (numR bs 0 most).2.2 ∧ Only B w (w.setCell ⟨B, 0, none⟩ (.slice a' (bs.length - (k + 1)) c')) ∧ SameB (.slice (some ⟨b, off, none⟩) bs.length c) (.slice a' (bs.length - (k + 1)) c') := by
                intro a' c' hsb hmN g1 g2 g3
                rw [hres, if_neg hmN]
                obtain hl0 | ⟨b', off', hbb, hblk', hcell'⟩ := HC.out
                · omega
                · obtain ⟨rfl, rfl⟩ : b = b' ∧ off = off' := by simpa using hbb
                  exact ⟨rfl, reader_shift (k := k + 1) (c := c) h0 h1 h2 h3 hblk hcell' HB.out hlt g1 g2 g3, Only.set B w 0 _, fun g hg => by
                    cases a' with
                    | none => simp [Value.ownBlock] at hg
                    | some x =>
                      have := hsb x rfl
                      simp [Value.ownBlock] at hg ⊢
                      omega⟩
              have FIN := Lib.hid fin
              have HR := Lib.hid hres
              clear fin hres hfin
              by_cases hk0 : k ≤ 0
              · have hq9 : ((k : Int) == 9) = false := by rw [beq_eq_false_iff_ne]; omega
                clear h91 hz
                by_cases hm : most < (N : Int)
                · have hres2 : numR bs 0 most = (0, [], 22) := by rw [HR.out, if_pos hm]
                  have HR2 := Lib.hid hres2
                  clear hres2
                  go_wp2_with fail
                  refine (rfail_any B _ bs 0 22 _ H.out).mono ?_
                  rintro en w2 ⟨rfl, hr2, ho2⟩
                  go_wp2
                  go_ret
                  rw [HR2.out]
                  exact ⟨rfl, _, hr2, ho2, SameB.nil _⟩
                · go_wp2
                  all_goals (go_ret; first | (obtain ⟨e1, e2, e3, e4⟩ := FIN.out (some ⟨b, off + (k + 1), none⟩) (c - (k + 1)) (fun x h => by cases h; rfl) hm (by omega) (by omega) (.inr rfl); exact ⟨e1, _, e2, e3, e4⟩) | (obtain ⟨e1, e2, e3, e4⟩ := FIN.out (some ⟨b, off, none⟩) 0 (fun x h => by cases h; rfl) hm (by omega) (by omega) (.inl (by omega)); exact ⟨e1, _, e2, e3, e4⟩))
              · have hqz : (x == 0) = false := by rw [beq_eq_false_iff_ne]; omega
                by_cases h9 : k = 9
                · have hq9 : ((k : Int) == 9) = true := by rw [beq_iff_eq]; omega
                  have hx1 : x ≤ 1 := by omega
                  clear h91 hz h9
                  by_cases hm : most < (N : Int)
                  · have hres2 : numR bs 0 most = (0, [], 22) := by rw [HR.out, if_pos hm]
                    have HR2 := Lib.hid hres2
                    clear hres2
                    go_wp2_with fail
                    refine (rfail_any B _ bs 0 22 _ H.out).mono ?_
                    rintro en w2 ⟨rfl, hr2, ho2⟩
                    go_wp2
                    go_ret
                    rw [HR2.out]
                    exact ⟨rfl, _, hr2, ho2, SameB.nil _⟩
                  · go_wp2
                    all_goals (go_ret; first | (obtain ⟨e1, e2, e3, e4⟩ := FIN.out (some ⟨b, off + (k + 1), none⟩) (c - (k + 1)) (fun x h => by cases h; rfl) hm (by omega) (by omega) (.inr rfl); exact ⟨e1, _, e2, e3, e4⟩) | (obtain ⟨e1, e2, e3, e4⟩ := FIN.out (some ⟨b, off, none⟩) 0 (fun x h => by cases h; rfl) hm (by omega) (by omega) (.inl (by omega)); exact ⟨e1, _, e2, e3, e4⟩))
                · have hq9 : ((k : Int) == 9) = false := by rw [beq_eq_false_iff_ne]; omega
                  clear h91 hz h9
                  by_cases hm : most < (N : Int)
                  · have hres2 : numR bs 0 most = (0, [], 22) := by rw [HR.out, if_pos hm]
                    have HR2 := Lib.hid hres2
                    clear hres2
                    go_wp2_with fail
                    refine (rfail_any B _ bs 0 22 _ H.out).mono ?_
                    rintro en w2 ⟨rfl, hr2, ho2⟩
                    go_wp2
                    go_ret
                    rw [HR2.out]
                    exact ⟨rfl, _, hr2, ho2, SameB.nil _⟩
                  · go_wp2
                    all_goals (go_ret; first | (obtain ⟨e1, e2, e3, e4⟩ := FIN.out (some ⟨b, off + (k + 1), none⟩) (c - (k + 1)) (fun x h => by cases h; rfl) hm (by omega) (by omega) (.inr rfl); exact ⟨e1, _, e2, e3, e4⟩) | (obtain ⟨e1, e2, e3, e4⟩ := FIN.out (some ⟨b, off, none⟩) 0 (fun x h => by cases h; rfl) hm (by omega) (by omega) (.inl (by omega)); exact ⟨e1, _, e2, e3, e4⟩))
          · have h9 : k ≠ 9 := by omega
            have hq9 : ((k : Int) == 9) = false := by rw [beq_eq_false_iff_ne]; omega
            have hnz : ¬ (0 < k ∧ x = 0) := by omega
            have h8 : k ≤ 8 := by omega
            clear h91 h9
            go_wp2
            go_round
            case rel => exact ⟨k + 1, N, by omega, by omega, by go_num, rfl, HN.out, by rw [HE.out, if_neg hnz, if_neg hb]⟩
            case measure => simp [intOf]; omega
      · obtain rfl : k = bs.length := by omega
        have hfin : dec 0 0 bs = .err 21 := by rw [← hd, List.drop_length, dec]
        have HF := Lib.hid hfin
        clear hfin hd
        go_wp2_with fail
        refine (rfail_any B _ bs 0 21 _ H.out).mono ?_
        rintro en w2 ⟨rfl, hr2, ho2⟩
        go_wp2
        go_ret
        rw [numR_err most HF.out]
        exact ⟨rfl, _, hr2, ho2, SameB.nil _⟩
  · have hres : numR bs e most = (0, bs, e) := by rw [numR, if_neg he]
    have hq : (e == 0) = false := by rw [beq_eq_false_iff_ne]; exact he
    have HR := Lib.hid hres
    clear hres he
    go_enter Try.func45, Try.ntmps45
    go_wp2
    go_ret
    rw [HR.out]
    exact ⟨rfl, _, H.out, Only.refl _ _, SameB.refl _⟩
end Go.Proofs.Ytkfcpnmdmoeioaa.K
