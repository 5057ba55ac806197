/- General laws of walks. -/
import Derived.Test.YtkehgingagggaaaGreatG15
import Derived.RegionTactic
import Derived.ChangeAlike
import Derived.Test.YtkehgingagggaaaGreatG1
import Derived.Lib.SlBytesConst
import Derived.Deep.Matrix
import Derived.Test.YtkehgingagggaaaGreatG10
import Derived.Test.YtkehgingagggaaaGreatG6
import Derived.Test.YtkehgingagggaaaGreatG14
namespace Go.Proofs.YtkehgingagggaaaGreat.K
open Go.ChangeShapes Go.WideShapes Go.ChangeAt Go.RowKit
set_option linter.unusedVariables false
set_option linter.unusedSimpArgs false
section
def Only (B : Nat) (w w' : World) : Prop := w.grownBy w' (some B)
theorem Only.refl (B : Nat) (w : World) : Only B w w := ⟨rfl, rfl, rfl, Nat.le_refl _, fun _ _ _ => rfl⟩
theorem Only.trans {B : Nat} {a b c : World} (h : Only B a b) (k : Only B b c) : Only B a c :=
 ⟨k.os.trans h.os, k.tape.trans h.tape, k.output.trans h.output, Nat.le_trans h.size k.size, fun i hi hne => (k.block i (Nat.lt_of_lt_of_le hi h.size) hne).trans (h.block i hi hne)⟩
theorem Only.set (B : Nat) (w : World) (o : Nat) (v : Value) : Only B w (w.setCell ⟨B, o, none⟩ v) :=
 ⟨rfl, rfl, rfl, by simp [World.setCell], fun k _ hne => Below.heap_setCell _ _ _ _ (fun e => hne (by rw [e]))⟩
theorem Only.ofBelow {B : Nat} {w w' : World} (h : Below w.heap.size w w') : Only B w w' := ⟨h.os, h.tape, h.output, h.size, fun k hk _ => h.block k hk⟩
theorem Only.below {B N : Nat} {w w' : World} (h : Only B w w') (hB : N ≤ B) (hN : N ≤ w.heap.size) : Below N w w' :=
 ⟨h.os, h.tape, h.output, h.size, fun k hk => h.block k (by omega) (fun e => by cases e; omega)⟩
theorem Only.drew (B : Nat) (w : World) : Only B w w.drew := ⟨rfl, rfl, rfl, Nat.le_refl _, fun _ _ _ => rfl⟩
theorem IsReader.lt {w : World} {B : Nat} {v : Value} {bs : List Int} {e : Int} (h : IsReader w B v bs e) : B < w.heap.size := World.block_lt_of_cell? w ⟨B, 0, none⟩ h.1
theorem IsReader.kept {w w' : World} {B B2 : Nat} {v : Value} {bs : List Int} {e : Int} (h : IsReader w B v bs e) (ho : Only B2 w w') (hB : B < B2) : IsReader w' B v bs e := by
 have hlt := h.lt
 obtain ⟨h0, h1, h2, h3, h4, h5⟩ := h
 have hb : w'.heap[B]? = w.heap[B]? := ho.block B hlt (fun e => by cases e; omega)
 exact ⟨by rw [World.cell?_of_block (w := w) hb]; exact h0, by rw [World.cell?_of_block (w := w) hb]; exact h1, by rw [World.frozen?_of_block (w := w) hb]; exact h2, by rw [World.frozen?_of_block (w := w) hb]; exact h3, h4.below (ho.below (by omega) (by omega)), h5⟩
theorem IsReader.later {w w' : World} {B : Nat} {v : Value} {bs : List Int} {e : Int} (h : IsReader w B v bs e) (hb : Below w.heap.size w w') : IsReader w' B v bs e := by
 have hlt := h.lt
 obtain ⟨h0, h1, h2, h3, h4, h5⟩ := h
 exact ⟨by rw [hb.cell (by exact hlt)]; exact h0, by rw [hb.cell (by exact hlt)]; exact h1, by rw [hb.frozen (by exact hlt)]; exact h2, by rw [hb.frozen (by exact hlt)]; exact h3, h4.below (hb.mono (by omega)), h5⟩
theorem dec_err : ∀ (bs : List Int) (acc i : Nat) (er : Int), dec acc i bs = .err er → er = 20 ∨ er = 21
 | [], acc, i, er, h => by rw [dec] at h; cases h; exact .inr rfl
 | b :: r, acc, i, er, h => by
   rw [dec] at h
   split at h
   · cases h; exact .inl rfl
   split at h
   · cases h
   exact dec_err r _ _ er h
def numR (bs : List Int) (e most : Int) : Int × List Int × Int :=
 if e = 0 then match dec 0 0 bs with
   | .err er => (0, [], er)
   | .ok n k => if most < n then (0, [], 22) else (n, bs.drop k, 0)
 else (0, bs, e)
end
section
def lumpR (bs : List Int) (e most : Int) : List Int × List Int × Int :=
 if (numR bs e (max most 0)).2.2 = 0 then
   if ((numR bs e (max most 0)).2.1.length : Int) < (numR bs e (max most 0)).1 then ([], [], 21)
   else ((numR bs e (max most 0)).2.1.take (numR bs e (max most 0)).1.toNat, (numR bs e (max most 0)).2.1.drop (numR bs e (max most 0)).1.toNat, 0)
 else ([], (numR bs e (max most 0)).2.1, (numR bs e (max most 0)).2.2)
theorem IsLists.lit (w : World) (us : List Value) (ls : List (List Int)) (N : Nat) (T : TypeId) (n c : Nat) (hN : N = w.heap.size) (hn : n = us.length) (hl : us.length = ls.length) (h : ∀ j, j < us.length → IsNums .u8 w (us.getD j default) (ls.getD j [])) :
   IsLists (w.alloc (.cells us.toArray T)) (.slice (some ⟨N, 0, none⟩) n c) ls := by
 subst hN; subst hn
 refine ⟨_, c, by rw [hl], .inr ⟨_, 0, rfl, by simp, fun j hj => ?_⟩⟩
 refine ⟨us.getD j default, ?_, (h j (by omega)).alloc _⟩
 unfold World.cell? World.alloc
 simp [List.getD, show j < us.length by omega]
theorem IsLists.one (w : World) (u : Value) (bs : List Int) (N : Nat) (T : TypeId) (hN : N = w.heap.size) (h : IsNums .u8 w u bs) : IsLists (w.alloc (.cells #[u] T)) (.slice (some ⟨N, 0, none⟩) 1 1) [bs] :=
 IsLists.lit w [u] [bs] N T 1 1 hN rfl rfl (fun j hj => by
   rcases j with _ | j
   · exact h
   simp at hj)
theorem NumsLt.ofOwn {k : IntKind} {w : World} {B : Nat} {e : TypeId} {v : Value} {n : Nat} {zs : List Int} (h : w.ownsRow B e 1 v n (zs.map (Value.int k))) : NumsLt w.heap.size k w v zs := by
 have hn : n = zs.length := by have := h.1; simpa using this.symm
 subst hn
 rcases h.2 with ⟨rfl, h0⟩ | ⟨g, cap, cur, rfl, hg, hb, h1, h2, h3, h4⟩
 · obtain rfl := List.length_eq_zero_iff.1 h0
   exact ⟨none, 0, rfl, Nat.le_refl _, by omega, .inl rfl⟩
 refine ⟨_, cap, rfl, h1, h2, .inr ⟨g, 0, rfl, (Array.getElem?_eq_some_iff.1 hb).1, fun j hj => ?_⟩⟩
 have := h.cellAt j (by omega)
 rw [Nat.zero_add, this]
 simp [hj, List.getD]
theorem NumsLt.take {N : Nat} {k : IntKind} {w : World} {a : Option Addr} {len c : Nat} {zs : List Int} (h : NumsLt N k w (.slice a len c) zs) (n : Nat) (hn : n ≤ zs.length) : NumsLt N k w (.slice a n c) (zs.take n) := by
 obtain ⟨a', c', e, h1, h2, h3⟩ := h
 injection e with e1 e2 e3
 subst e1; subst e3
 refine ⟨a, c, by simp [hn], by simp; omega, h2, ?_⟩
 rcases h3 with h3 | ⟨b, off, rfl, hb, hc⟩
 · left; simp; omega
 right
 refine ⟨b, off, rfl, hb, fun j hj => ?_⟩
 simp at hj
 rw [hc j (by omega)]
 simp only [List.getD, List.getElem?_take]
 rw [if_pos (by omega)]
theorem IsReader.set {w : World} {B : Nat} {a : Option Addr} {len c n : Nat} {bs : List Int} {e : Int} (h : IsReader w B (.slice a len c) bs e) (hn : n ≤ bs.length) (a' : Option Addr) (c' : Nat) (hc1 : bs.length - n ≤ c') (hc2 : c' ≤ 9223372036854775807)
   (ha : ∀ b off, a = some ⟨b, off, none⟩ → bs.length - n = 0 ∨ a' = some ⟨b, off + n, none⟩) : IsReader (w.setCell ⟨B, 0, none⟩ (.slice a' (bs.length - n) c')) B (.slice a' (bs.length - n) c') (bs.drop n) e := by
 obtain ⟨h0, h1, h2, h3, ⟨p, c0, ep, hc3, hc4, hcells⟩, h5⟩ := h
 injection ep with e1 e2 e3
 subst e1; subst e3
 rcases hcells with hz | ⟨b, off, rfl, hblk, hcell⟩
 · have hn0 : bs = [] := List.length_eq_zero_iff.1 hz
   subst hn0
   refine ⟨World.cell?_setCell_same _ _ _ h0, ?_, by rw [World.frozen?_setCell]; exact h2, by rw [World.frozen?_setCell]; exact h3, ⟨a', c', by simp, by simp, hc2, .inl (by simp)⟩, by simp⟩
   rw [World.cell?_setCell_other _ _ _ _ (by simp)]; exact h1
 exact reader_shift (c := c) h0 h1 h2 h3 hblk hcell h5 hn hc1 hc2 (ha b off rfl)
def LumpPost (w : World) (B : Nat) (r : List Int × List Int × Int) (en : Ending) (w' : World) : Prop :=
 ∃ u, en = .returned u ∧ w'.ownsRow w.heap.size 5 1 u r.1.length (r.1.map (Value.int .u8)) ∧ ∃ v', IsReader w' B v' r.2.1 r.2.2 ∧ Only B w w'
end
section
def Low (N : Nat) (w0 : World) : World → Prop := fun W => Below N w0 W
section
variable {P : Program} {ops : Array Oper} {Q : Exit → Act → World → Prop} {md : Region.Mode} {w0 : World} {N : Nat}
end
end
section
theorem enc_dec (rest : List Int) : ∀ (f n i acc : Nat), i + f = 9 → n * 2 ^ (7 * i) < 2 ^ 64 → (0 < i → n ≠ 0) → dec acc i (encF f n ++ rest) = .ok (acc + n * 2 ^ (7 * i)) (i + (encF f n).length)
 | 0, n, i, acc, hi, hb, hz => by
   obtain rfl : i = 9 := by omega
   have hn : n ≤ 1 := by omega
   have h0 := hz (by omega)
   obtain rfl : n = 1 := by omega
   simp [encF, dec]
 | f + 1, n, i, acc, hi, hb, hz => by
   unfold encF
   by_cases h : n < 128
   · rw [if_pos h]
     have hc : ¬ ((i = 9 ∧ (1 : Int) < (n : Int)) ∨ (0 < i ∧ (n : Int) = 0)) := by omega
     simp only [List.cons_append, List.nil_append, dec]
     rw [if_neg hc, if_pos (by omega)]
     rw [show ((n : Int) % 128).toNat = n by omega]
     simp
   rw [if_neg h]
   have hc : ¬ ((i = 9 ∧ (1 : Int) < ((n % 128 + 128 : Nat) : Int)) ∨ (0 < i ∧ ((n % 128 + 128 : Nat) : Int) = 0)) := by omega
   simp only [List.cons_append, dec]
   rw [if_neg hc, if_neg (by omega)]
   have hpow : (2 : Nat) ^ (7 * (i + 1)) = 128 * 2 ^ (7 * i) := by rw [show 7 * (i + 1) = 7 + 7 * i by omega, Nat.pow_add]
   have hdm : 128 * (n / 128) + n % 128 = n := Nat.div_add_mod n 128
   have hmul : n / 128 * 2 ^ (7 * (i + 1)) = 128 * (n / 128) * 2 ^ (7 * i) := by rw [hpow]; ac_rfl
   have hle : 128 * (n / 128) * 2 ^ (7 * i) ≤ n * 2 ^ (7 * i) := Nat.mul_le_mul_right _ (by omega)
   rw [enc_dec rest f (n / 128) (i + 1) _ (by omega) (by omega) (by omega)]
   rw [show (((n % 128 + 128 : Nat) : Int) % 128).toNat = n % 128 by omega, hmul]
   have hsum : n * 2 ^ (7 * i) = 128 * (n / 128) * 2 ^ (7 * i) + n % 128 * 2 ^ (7 * i) := by rw [← Nat.add_mul, hdm]
   rw [hsum]
   simp
   constructor <;> omega
theorem dec_enc (x : Int) (h0 : 0 ≤ x) (h1 : x ≤ 18446744073709551615) (rest : List Int) : dec 0 0 (enc x ++ rest) = .ok x.toNat (enc x).length := by
 have := enc_dec rest 9 x.toNat 0 0 (by omega) (by simp; omega) (by omega)
 simpa [enc] using this
theorem enc_bytes (x : Int) (h1 : x ≤ 18446744073709551615) : ∀ b ∈ enc x, 0 ≤ b ∧ b ≤ 255 := by
 have : ∀ (f n : Nat), n < 128 ^ (f + 1) → ∀ b ∈ encF f n, 0 ≤ b ∧ b ≤ 255 := by
   intro f
   induction f with
   | zero => intro n hn b hb; simp [encF] at hb hn; omega
   | succ f ih =>
     intro n hn b hb
     unfold encF at hb
     split at hb
     · simp at hb; omega
     rcases List.mem_cons.1 hb with rfl | hb
     · omega
     refine ih (n / 128) ?_ b hb
     rw [Nat.pow_succ] at hn
     exact Nat.div_lt_of_lt_mul (by rw [Nat.mul_comm]; exact hn)
 refine this 9 x.toNat ?_
 have : (128 : Nat) ^ 10 = 1180591620717411303424 := by decide
 omega
theorem numR_ok (x : Int) (h0 : 0 ≤ x) (h1 : x ≤ 18446744073709551615) (rest : List Int) (most : Int) (hm : x ≤ most) : numR (enc x ++ rest) 0 most = (x, rest, 0) := by
 unfold numR
 rw [if_pos rfl, dec_enc x h0 h1 rest]
 simp only []
 rw [if_neg (by omega)]
 simp; omega
theorem numR_bad (bs : List Int) (e most : Int) (h : e ≠ 0) : numR bs e most = (0, bs, e) := by rw [numR, if_neg h]
theorem IsNums.drew {k : IntKind} {w : World} {v : Value} {zs : List Int} (h : IsNums k w v zs) : IsNums k w.drew v zs := h.below (Below.refl w.heap.size w).drew (Nat.le_refl _)
theorem IsLists.nil (w : World) (a : Option Addr) (c : Nat) : IsLists w (.slice a 0 c) [] := ⟨a, c, rfl, .inl rfl⟩
theorem IsNums.after {k : IntKind} {w w' : World} {v : Value} {zs : List Int} {o : Obj} (h : IsNums k w v zs) (hb : Below (w.alloc o).heap.size (w.alloc o) w') : IsNums k w' v zs := (h.alloc o).below hb (Nat.le_refl _)
theorem str_beq {a b : List Int} (ha : ∀ x ∈ a, 0 ≤ x ∧ x ≤ 255) (hb : ∀ x ∈ b, 0 ≤ x ∧ x ≤ 255) : ((strOfNums a).toList == (strOfNums b).toList) = decide (a = b) := by
 rw [Bool.eq_iff_iff]
 simp only [beq_iff_eq, decide_eq_true_eq]
 constructor
 · intro h
   refine str_inj ha hb (bytes_inj ?_)
   rw [← ByteArray.toList_eq, ← ByteArray.toList_eq]
   exact h
 rintro rfl; rfl
end
section
section
variable {P : Program} {a : Act} {w : World} {K : Act → World → Prop} {Q : Exit → Act → World → Prop}
end
theorem NumsOff.ofOwn {bad : Nat → Prop} {w : World} {base : Nat} {e : TypeId} {v : Value} {n : Nat} {zs : List Int} (h : w.ownsRow base e 1 v n (zs.map (Value.int .u8))) (hb : ∀ k, base ≤ k → k < w.heap.size → ¬ bad k) : NumsOff bad w v zs := by
 have hn : n = zs.length := by have := h.1; simpa using this.symm
 subst hn
 rcases h.2 with ⟨rfl, h0⟩ | ⟨g, cap, cur, rfl, hg, hbk, h1, h2, h3, h4⟩
 · obtain rfl := List.length_eq_zero_iff.1 h0; exact NumsOff.nil _ _ none 0
 have hlt := (Array.getElem?_eq_some_iff.1 hbk).1
 refine ⟨_, cap, rfl, .inr ⟨g, 0, rfl, hlt, hb g hg hlt, fun j hj => ?_⟩⟩
 have := h.cellAt j (by omega)
 rw [Nat.zero_add, this]
 simp [hj, List.getD]
end
section
section
variable {P : Program} {ops : Array Oper} {rest : List Oper} {a : Act} {w : World} {Q : Exit → Act → World → Prop}
end
theorem Only.keep {B : Nat} {a b : World} (h : Only B a b) : Keep (fun k => k = B) a b := ⟨h.os, h.tape, h.output, h.size, fun i hi hn => h.block i hi (fun e => hn (show i = B from (by injection e)))⟩
end
section
theorem numR_err {bs : List Int} {er : Int} (most : Int) (h : dec 0 0 bs = .err er) : numR bs 0 most = (0, [], er) := by rw [numR, if_pos rfl, h]
theorem numR_val {bs : List Int} {n k : Nat} (most : Int) (h : dec 0 0 bs = .ok n k) : numR bs 0 most = if most < (n : Int) then (0, [], 22) else ((n : Int), bs.drop k, 0) := by rw [numR, if_pos rfl, h]
end
section
theorem encs_one (x : Int) : encs [x] = enc x := by simp [encs]
theorem encs_cons (x : Int) (l : List Int) : encs (x :: l) = enc x ++ encs l := by simp [encs]
theorem one63 {x : Int} (h : 0 ≤ x ∧ x ≤ 9223372036854775807) : ∀ k, k < [x].length → 0 ≤ [x].getD k 0 ∧ [x].getD k 0 ≤ 9223372036854775807 := fun k hk => by
 obtain rfl : k = 0 := by simpa using hk
 simpa using h
def itemE (e : Int × List Int) : List Int := enc e.1 ++ (enc e.2.length ++ e.2)
def itemsE (es : List (Int × List Int)) : List Int := es.flatMap itemE
theorem itemsE_len (es : List (Int × List Int)) (h : ∀ e ∈ es, e.2.length ≤ 1000) : (itemsE es).length ≤ 1020 * es.length := by
 induction es with
 | nil => simp [itemsE]
 | cons e es ih =>
   have h1 := ih (fun x hx => h x (List.mem_cons_of_mem _ hx))
   have h2 := h e List.mem_cons_self
   have h3 := (enc_len e.1).1
   have h4 := (enc_len e.2.length).1
   simp only [itemsE, List.flatMap_cons, List.length_append, List.length_cons, itemE] at h1 ⊢
   omega
set_option maxRecDepth 100000
set_option maxHeartbeats 4000000
end
section
theorem shx {k : Nat} (hk : k ≤ 9) : min (7 * (k : Int)).toNat IntKind.u64.bits = 7 * k := by
 have : IntKind.u64.bits = 64 := rfl
 omega
theorem getD_bd {b : List Int} {k : Nat} (h : BytesL b) (hk : k < b.length) : 0 ≤ b.getD k 0 ∧ b.getD k 0 ≤ 255 := by
 rw [List.getD, List.getElem?_eq_getElem hk]; exact h _ (List.getElem_mem hk)
theorem dec_at {b : List Int} {u k : Nat} (hk : k < b.length) : dec u k (b.drop k) = if (k = 9 ∧ 1 < b.getD k 0) ∨ (0 < k ∧ b.getD k 0 = 0) then .err 20 else if b.getD k 0 < 128 then .ok (u + (b.getD k 0 % 128).toNat * 2 ^ (7 * k)) (k + 1) else dec (u + (b.getD k 0 % 128).toNat * 2 ^ (7 * k)) (k + 1) (b.drop (k + 1)) := by
 rw [List.drop_eq_getElem_cons hk, dec, List.getD, List.getElem?_eq_getElem hk]; rfl
theorem bytes_r {a b : List Int} (h : BytesL (a ++ b)) : BytesL b := fun x hx => h x (List.mem_append_right _ hx)
theorem encs_drop {l : List Int} {k : Nat} (hk : k < l.length) : encs (l.drop k) = enc (l.getD k 0) ++ encs (l.drop (k + 1)) := by
 rw [List.drop_eq_getElem_cons hk, encs_cons, List.getD, List.getElem?_eq_getElem hk]; rfl
theorem itemsE_drop {l : List (Int × List Int)} {k : Nat} {e : Int × List Int} (h : l[k]? = some e) : itemsE (l.drop k) = itemE e ++ itemsE (l.drop (k + 1)) := by
 obtain ⟨hk, rfl⟩ := List.getElem?_eq_some_iff.1 h
 show List.flatMap itemE (l.drop k) = _
 rw [List.drop_eq_getElem_cons hk, List.flatMap_cons]; rfl
theorem take_getD {l : List Int} {k : Nat} (hk : k < l.length) : l.take (k + 1) = l.take k ++ [l.getD k 0] := by
 rw [List.take_succ_eq_append_getElem hk, List.getD, List.getElem?_eq_getElem hk]; rfl
set_option maxRecDepth 100000
set_option maxHeartbeats 4000000
end
section
structure CmdOk (kd vo bl sz pe to at0 ix : Int) (place : List Int) (items : List (Int × List Int)) : Prop where
 kd : 1 ≤ kd ∧ kd ≤ 8
 vo : 0 ≤ vo ∧ vo ≤ 7
 t40 : (0 ≤ bl ∧ bl ≤ 1099511627776) ∧ (0 ≤ sz ∧ sz ≤ 1099511627776) ∧ (0 ≤ pe ∧ pe ≤ 1099511627776) ∧ (0 ≤ to ∧ to ≤ 1099511627776) ∧ (0 ≤ at0 ∧ at0 ≤ 1099511627776) ∧ (0 ≤ ix ∧ ix ≤ 1099511627776)
 pl : place.length ≤ 256
 pb : ∀ k, k < place.length → 0 ≤ place.getD k 0 ∧ place.getD k 0 ≤ 7
 il : items.length ≤ 8
 ib : ∀ e ∈ items, (0 ≤ e.1 ∧ e.1 ≤ 255) ∧ e.2.length ≤ 32
 by8 : ∀ e ∈ items, BytesL e.2
def cmdE (kd vo bl sz pe to at0 ix : Int) (place : List Int) (items : List (Int × List Int)) : List Int := encs [kd, vo, bl, sz, pe, to, at0, ix] ++ (encs ((place.length : Int) :: place) ++ (enc items.length ++ itemsE items))
theorem l63 {l : List Int} (h : ∀ x ∈ l, 0 ≤ x ∧ x ≤ 9223372036854775807) : ∀ k, k < l.length → 0 ≤ l.getD k 0 ∧ l.getD k 0 ≤ 9223372036854775807 := fun k hk => by
 rw [List.getD, List.getElem?_eq_getElem hk]; exact h _ (List.getElem_mem hk)
theorem bytes_app2 {a b : List Int} (ha : BytesL a) (hb : BytesL b) : BytesL (a ++ b) := fun x hx => (List.mem_append.1 hx).elim (ha x) (hb x)
theorem encs_bytes {l : List Int} (h : ∀ x ∈ l, x ≤ 18446744073709551615) : BytesL (encs l) := fun x hx => by
 obtain ⟨y, hy, hxy⟩ := List.mem_flatMap.1 hx
 exact enc_bytes y (h y hy) x hxy
theorem items_bytes {es : List (Int × List Int)} (h : ∀ e ∈ es, e.1 ≤ 18446744073709551615 ∧ e.2.length ≤ 1000 ∧ BytesL e.2) : BytesL (itemsE es) := fun x hx => by
 obtain ⟨y, hy, hxy⟩ := List.mem_flatMap.1 hx
 obtain ⟨h1, h2, h3⟩ := h y hy
 rcases List.mem_append.1 hxy with h4 | h4
 · exact enc_bytes _ h1 x h4
 rcases List.mem_append.1 h4 with h5 | h5
 · exact enc_bytes _ (by omega) x h5
 exact h3 x h5
section
variable {kd vo bl sz pe to at0 ix : Int} {place : List Int} {items : List (Int × List Int)}
theorem CmdOk.lens (hc : CmdOk kd vo bl sz pe to at0 ix place items) : (encs [kd, vo, bl, sz, pe, to, at0, ix]).length ≤ 80 ∧ (encs ((place.length : Int) :: place)).length ≤ 2570 ∧ (enc items.length ++ itemsE items).length ≤ 8170 := by
 have h1 := encs_len [kd, vo, bl, sz, pe, to, at0, ix]
 have h2 := encs_len ((place.length : Int) :: place)
 have h3 := (enc_len items.length).1
 have h4 := itemsE_len items (fun e he => by have := hc.ib e he; omega)
 have h5 := hc.pl; have h6 := hc.il
 simp only [List.length_cons, List.length_nil, List.length_append] at *
 omega
theorem CmdOk.len (hc : CmdOk kd vo bl sz pe to at0 ix place items) : (cmdE kd vo bl sz pe to at0 ix place items).length ≤ 20000 := by
 have := hc.lens
 simp only [cmdE, List.length_append] at *
 omega
theorem CmdOk.bytes (hc : CmdOk kd vo bl sz pe to at0 ix place items) : BytesL (cmdE kd vo bl sz pe to at0 ix place items) := by
 have h1 := hc.kd; have h2 := hc.vo; have h3 := hc.t40; have h4 := hc.pl; have h5 := hc.il
 refine bytes_app2 (encs_bytes fun x hx => ?_) (bytes_app2 (encs_bytes fun x hx => ?_) (bytes_app2 (fun x hx => enc_bytes _ (by omega) x hx) (items_bytes fun e he => ?_)))
 · simp only [List.mem_cons, List.not_mem_nil, or_false] at hx; omega
 · rcases List.mem_cons.1 hx with rfl | hx
   · omega
   obtain ⟨k, hk, rfl⟩ := List.getElem_of_mem hx
   have := hc.pb k hk
   rw [List.getD, List.getElem?_eq_getElem hk] at this
   simp only [Option.getD_some] at this
   omega
 have := hc.ib e he; exact ⟨by omega, by omega, hc.by8 e he⟩
end
set_option maxRecDepth 100000
set_option maxHeartbeats 4000000
end
section
set_option maxRecDepth 100000
set_option maxHeartbeats 4000000
end
section
def DoY (x y : VolV) (kd at0 ix : Int) (its : List (Int × List Int)) (e9 : Int) : Prop := y.vo = x.vo ∧ y.bl = x.bl ∧ y.sz = x.sz ∧ y.pe = x.pe ∧ y.place = x.place ∧ y.to = x.to ∧ y.pins = x.pins ∧ doR x.bl x.sz x.to x.ne x.fl x.hi x.pins x.ws kd at0 ix its = (y.ne, y.hi, y.fl, y.ws, e9)
set_option maxRecDepth 100000
set_option maxHeartbeats 4000000
end
section
theorem lists_rd {S : Nat → Prop} {w : World} {v : Value} {ls : List (List Int)} (h : Rd S w v (.l 1 (ls.map bD))) : IsLists w v ls := by
 rcases h.l_out with h0 | ⟨b, off, c, f, rfl, h1, h2, h3, h4, h5⟩
 · have e : ls = [] := List.map_eq_nil_iff.1 h0
   subst e
   obtain ⟨p, c, rfl, -⟩ := h.l_shape
   exact ⟨p, c, rfl, .inl rfl⟩
 refine ⟨_, c, by rw [List.length_map], .inr ⟨b, off, rfl, h2, fun j hj => ?_⟩⟩
 have hj' : j < (ls.map bD).length := by rw [List.length_map]; exact hj
 have h6 := (h4 j 0 hj' (by decide)).1
 refine ⟨_, by rw [show off + j = off + j * 1 + 0 by omega]; exact h6, ?_⟩
 have h7 := h5 j 0 (bD (ls.getD j [])) (.ns .u8 (ls.getD j [])) (by rw [List.getElem?_map, List.getD, List.getElem?_eq_getElem hj]; rfl) rfl
 exact h7.ns_out.nums
theorem pput_x (v : Value) (xs : List Int) (w0 : World) (h : Rd (fun _ => True) w0 v (.ns .u64 xs)) (hl : xs.length ≤ 1000) (hxb : ∀ k, k < xs.length → 0 ≤ xs.getD k 0 ∧ xs.getD k 0 ≤ 9223372036854775807) :
   Calls Tryz.prog 104 #[v] w0 fun e w' => ∃ p c, e = .returned (.slice p (encs xs).length c) ∧ w'.ownsRow w0.heap.size 5 1 (.slice p (encs xs).length c) (encs xs).length ((encs xs).map (Value.int .u8)) ∧ Below w0.heap.size w0 w' := by
 refine (put_any v xs w0 h.ns_out.nums (fun j hj => ⟨(hxb j hj).1, by have := (hxb j hj).2; omega⟩) hl).mono fun e w' h => ?_
 obtain ⟨u, rfl, hown, hbel⟩ := h
 obtain ⟨p, c, rfl⟩ := ownsRow_shape hown
 exact ⟨p, c, rfl, hown, hbel⟩
theorem pjoin_x (v : Value) (ls : List (List Int)) (w0 : World) (h : Rd (fun _ => True) w0 v (.l 1 (ls.map bD))) (hl : ls.length ≤ 1000) (hs : sumLen ls ≤ 1000000) :
   Calls Tryz.prog 68 #[v] w0 fun e w' => ∃ p c, e = .returned (.slice p (ls.flatten).length c) ∧ w'.ownsRow w0.heap.size 5 1 (.slice p (ls.flatten).length c) (ls.flatten).length ((ls.flatten).map (Value.int .u8)) ∧ Below w0.heap.size w0 w' := by
 refine (join_any v ls w0 (lists_rd h) hl hs).mono fun e w' h => ?_
 obtain ⟨u, rfl, hown, hbel⟩ := h
 obtain ⟨p, c, rfl⟩ := ownsRow_shape hown
 exact ⟨p, c, rfl, hown, hbel⟩
end
section
section
variable {P : Program} {ops : Array Oper} {Q : Exit → Act → World → Prop} {md : Region.Mode} {listed : Array Bool} {fuel e : Nat} {S : World → Prop} {a : Act} {w : World}
end
end
section
theorem run_conv_own {P : Program} (w : World) (t e e' : TypeId) (g : Nat) (C : Array Value) (fr : Nat × Nat) (n c : Nat) (hb : w.heap[g]? = some (.cells C e' fr)) (ht : P.underlying t = some (.slice e)) (he : P.underlying e = some (.int .u8)) :
   (convert t t (.slice (some ⟨g, 0, none⟩) n c)).run P w = .ok (.slice (some ⟨g, 0, none⟩) n c) (w.freeze ⟨g, C.size, none⟩ 1) := by
 have hsh : w.shape? g = some (e', C.size) := by unfold World.shape?; rw [hb]
 simp [convert, run_underlying ht, run_underlying he, markStringish, hsh]
theorem freeze_block (w : World) (g k b : Nat) (hb : b ≠ g) : (w.freeze ⟨g, k, none⟩ 1).heap[b]? = w.heap[b]? := by
 unfold World.freeze
 rw [if_neg (by decide)]
 show (w.heap.modify g _)[b]? = _
 rw [Array.getElem?_modify, if_neg (fun h => hb h.symm)]
theorem freeze_size (w : World) (g k : Nat) : (w.freeze ⟨g, k, none⟩ 1).heap.size = w.heap.size := by
 unfold World.freeze
 rw [if_neg (by decide)]
 show (w.heap.modify g _).size = _
 rw [Array.size_modify]
theorem freeze_cell (w : World) (g k j : Nat) (C : Array Value) (e : TypeId) (fr : Nat × Nat) (hb : w.heap[g]? = some (.cells C e fr)) : (w.freeze ⟨g, k, none⟩ 1).cell? ⟨g, j, none⟩ = w.cell? ⟨g, j, none⟩ := by
 have h : ∃ fr', (w.freeze ⟨g, k, none⟩ 1).heap[g]? = some (.cells C e fr') := by
   unfold World.freeze
   rw [if_neg (by decide)]
   obtain ⟨lo, hi⟩ := fr
   refine ⟨(if lo == hi then (k, k + 1) else (min lo k, max hi (k + 1))), ?_⟩
   show (w.heap.modify g _)[g]? = _
   rw [Array.getElem?_modify, if_pos rfl, hb]
   rfl
 obtain ⟨fr', h⟩ := h
 unfold World.cell?
 simp [h, hb]
theorem freeze_keep (w : World) (g k : Nat) : Keep (fun b => b = g) w (w.freeze ⟨g, k, none⟩ 1) := by
 refine ⟨?_, ?_, ?_, Nat.le_of_eq (freeze_size w g k).symm, fun b hb hn => freeze_block w g k b hn⟩ <;> (unfold World.freeze; rw [if_neg (by decide)])
theorem e_cvN {P : Program} {X : Cx} {M : Mm} {T : List (Nat × Value)} {n : Nat} {a : Act} {w w0 : World} {K : Act → World → Prop} {Q : Exit → Act → World → Prop} {tt : TypeId} {pos : String} {af : Array Edge} {gd : Option (Nat × Bool)} (ha : Has n T a) (m : MemOk X w0 M w) (i : Nat) {d : Tmp} {t e e' : TypeId} {x : Operand} {g l c : Nat} {zs : List Int} (hm : lk M i = some (.num (.slice (some ⟨g, 0, none⟩) l c) e' .u8 zs)) (hp : evT T x = some (.slice (some ⟨g, 0, none⟩) l c)) (hu : P.underlying t = some (.slice e)) (he : P.underlying e = some (.int .u8)) (ht : Nat.blt d n = true)
   (h : ∀ a' w', Has n ((d, .slice (some ⟨g, 0, none⟩) l c) :: T) a' → MemOk X w0 ((i, .dat (.slice (some ⟨g, 0, none⟩) l c) (.ns .u8 zs)) :: M) w' → K a' w') : Oper.wp P ⟨some d, .convert t t x, tt, pos, af, gd⟩ a w K Q := by
 have how := m.ok i _ hm
 have hev := ha.ev hp
 rcases how.2 with ⟨hv, h0⟩ | ⟨g', cap, cur, hv, hg, hbk, h1, h2, h3, h4⟩
 · injection hv with hv _ _; cases hv
 injection hv with hv1 hv2 hv3
 injection hv1 with hv1; injection hv1 with hv1 _ _
 subst hv1; subst hv2; subst hv3
 have hc := run_conv_own (P := P) w t e _ g _ _ zs.length c hbk hu he
 have hrun : (execOp a.eval ⟨some d, .convert t t x, tt, pos, af, gd⟩).run P w = .ok (.value (.slice (some ⟨g, 0, none⟩) zs.length c)) (w.freeze ⟨g, cur.size, none⟩ 1) := by
   simp only [execOp, hev, Sem.run_bind, hc, Result.andThen_ok, Sem.run_pure]
 show Oper.upon P _ a K Q _
 rw [hrun]
 have hlt := (Array.getElem?_eq_some_iff.1 hbk).1
 refine h _ _ (ha.put ht _) (m.upd i _ ((freeze_keep w g _).mono (fun b hb => ⟨_, hm, by rw [hb]; rfl⟩)) (fun b hb => by cases hb) (fun _ hf => .ns ⟨_, c, rfl, ⟨h1, h2⟩, .inr ⟨g, 0, rfl, hf g ⟨_, hm, rfl⟩ hg (fun c hc => by cases hc), by rw [freeze_size]; exact hlt, fun j hj => ?_⟩⟩))
 rw [freeze_cell w g _ _ _ _ _ hbk]
 have := how.cellAt j (by omega)
 rw [Nat.zero_add, this]
 simp [hj, List.getD]
abbrev cxt (w : World) : Cx := cx (fun _ => True) w
theorem MemOk.own_new {w0 w : World} {M : Mm} (m : MemOk (cxt w0) w0 M w) {b : Nat} (h : Own M b) : w0.heap.size ≤ b := by
 obtain ⟨i, r, hl, hb⟩ := h
 have hok := m.ok i r hl
 have hn : ¬ b ∈ (cxt w0).bad := List.not_mem_nil
 cases r with
 | dat v d => cases hb
 | box g e cs => injection hb with hb; subst hb; exact hok.2.resolve_right hn
 | num v e k zs => exact (World.ownsRow.lt hok b hb).1
 | row v e k rows => obtain ⟨cs, q, _⟩ := hok; exact (World.ownsRow.lt q b hb).1
 | cel b o vs => cases hb
 | rowC v e k rows cs => exact (World.ownsRow.lt hok.1 b hb).1
 | seg v e k rows => exact (hok.2 b hb).resolve_right hn
 | any g => injection hb with hb; subst hb; exact hok.2.resolve_right hn
 | gone => cases hb
 | mp g k ks rows => injection hb with hb; subst hb; exact hok.2.resolve_right hn
 | mpE g k es ck rows => injection hb with hb; subst hb; exact hok.2.resolve_right hn
 | obj g o => injection hb with hb; subst hb; exact hok.2.resolve_right hn
theorem MemOk.old {w0 w : World} {M : Mm} (m : MemOk (cxt w0) w0 M w) {S : Nat → Prop} {v : Value} {d : D} (h : Rd S w0 v d) : Rd (Free (cxt w0) M) w v d :=
 h.mono m.keep.2.2.2.1 (fun b hlt _ => ⟨m.keep.2.2.2.2 b hlt (by simp [cx]), fun _ => trivial, fun ho => by have := m.own_new ho; omega⟩)
theorem pjoin_is {v : Value} {ls : List (List Int)} {w0 : World} {S : List Int} (h : Rd (fun _ => True) w0 v (.l 1 (ls.map bD))) (hl : ls.length ≤ 1000) (hs : sumLen ls ≤ 1000000) (hS : ls.flatten = S) :
   Calls Tryz.prog 68 #[v] w0 fun e w' => ∃ p c, e = .returned (.slice p S.length c) ∧ w'.ownsRow w0.heap.size 5 1 (.slice p S.length c) S.length (S.map (Value.int .u8)) ∧ Below w0.heap.size w0 w' := by
 subst hS; exact pjoin_x v ls w0 h hl hs
theorem b63 {l : List Int} (h : ∀ x ∈ l, 0 ≤ x ∧ x ≤ 9223372036854775807) : ∀ k, k < l.length → 0 ≤ l.getD k 0 ∧ l.getD k 0 ≤ 9223372036854775807 := fun k hk => by
 rw [List.getD, List.getElem?_eq_getElem hk]; exact h _ (List.getElem_mem hk)
end
end Go.Proofs.YtkehgingagggaaaGreat.K
