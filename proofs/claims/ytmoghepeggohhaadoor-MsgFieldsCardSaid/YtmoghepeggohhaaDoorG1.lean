/- General laws of walks. -/
import Derived.Test.YtmoghepeggohhaaDoorRows
import Derived.WalkKit
import Derived.ProofKit
import Derived.OpenShut
import Derived.IntWalk
import Derived.WalkLawsBesides
import Derived.WalkSpells
import Derived.Handy
import Derived.LoopTactic
import Derived.Lib.Hide
import Derived.OwnWalk
import Derived.Laws.AppendOwnNone
import Derived.Laws.BytesArg
import Derived.Laws.BitsLemmas
import Derived.Lib.AppendZerosOnto
import Derived.Lib.AppendZeros
import Derived.Lib.SliceRun
import Derived.Laws.Bits64
import Derived.RegionTactic
import Derived.ChangeAlike
import Derived.OrdersHeld
import Derived.Deep.RegionHeld
import Derived.Lib.SlBytesConst
import Derived.Deep.Matrix
import Derived.Deep.MidRow
import Derived.Laws.CopyOwn
import Derived.Great.BuildSlice
import Derived.StillTail
import Derived.Lib.LaidTab
import Derived.Laws.OwnMore
import Derived.Laws.BitsAllLaws
import Derived.Deep.LoopGhost
import Derived.Great.FillDense
namespace Go.Proofs.YtmoghepeggohhaaDoor.K
open Go.ChangeShapes Go.WideShapes Go.ChangeAt Go.RowKit
set_option linter.unusedVariables false
set_option linter.unusedSimpArgs false
section
theorem ret_bool {a b : Bool} (h : a = b) : Ending.returned (.bool a) = .returned (.bool b) := by rw [h]

def IsNums (k : IntKind) (w : World) (v : Value) (zs : List Int) : Prop :=
 ∃ a c, v = .slice a zs.length c ∧ (zs.length = 0 ∨ ∃ b off, a = some ⟨b, off, none⟩ ∧ b < w.heap.size ∧ ∀ j, j < zs.length → w.cell? ⟨b, off + j, none⟩ = some (.int k (zs.getD j 0)))

theorem IsNums.nil (k : IntKind) (w : World) (a : Option Addr) (c : Nat) : IsNums k w (.slice a 0 c) [] := ⟨a, c, rfl, .inl rfl⟩

theorem IsNums.below {k : IntKind} {B : Nat} {w w' : World} {v : Value} {zs : List Int} (h : IsNums k w v zs) (hb : Below B w w') (hB : w.heap.size ≤ B) : IsNums k w' v zs := by
 obtain ⟨a, c, rfl, h | ⟨b, off, rfl, h1, h2⟩⟩ := h
 · exact ⟨a, c, rfl, .inl h⟩
 · refine ⟨_, c, rfl, .inr ⟨b, off, rfl, by have := hb.size; omega, fun j hj => ?_⟩⟩
   rw [hb.cell (by show b < B; omega)]
   exact h2 j hj

theorem IsNums.alloc {k : IntKind} {w : World} {v : Value} {zs : List Int} (h : IsNums k w v zs) (o : Obj) : IsNums k (w.alloc o) v zs :=
 h.below ((Below.refl w.heap.size w).alloc (Nat.le_refl _) o) (Nat.le_refl _)

theorem IsNums.lit (k : IntKind) (w : World) (zs : List Int) (N : Nat) (e : TypeId) (n c : Nat) (hN : N = w.heap.size) (hn : n = zs.length) : IsNums k (w.alloc (.cells (zs.map (Value.int k)).toArray e)) (.slice (some ⟨N, 0, none⟩) n c) zs := by
 subst hN; subst hn
 refine ⟨_, c, rfl, .inr ⟨_, 0, rfl, by simp, fun j hj => ?_⟩⟩
 unfold World.cell? World.alloc
 simp [hj, List.getD]

theorem IsNums.ofOwn {k : IntKind} {w : World} {B : Nat} {e : TypeId} {v : Value} {n : Nat} {zs : List Int} (h : w.ownsRow B e 1 v n (zs.map (Value.int k))) : IsNums k w v zs := by
 have hn : n = zs.length := by have := h.1; simpa using this.symm
 subst hn
 rcases h.2 with ⟨rfl, h0⟩ | ⟨g, cap, cur, rfl, hg, hb, h1, h2, h3, h4⟩
 · obtain rfl := List.length_eq_zero_iff.1 h0; exact IsNums.nil k w none 0
 · refine ⟨_, cap, rfl, .inr ⟨g, 0, rfl, (Array.getElem?_eq_some_iff.1 hb).1, fun j hj => ?_⟩⟩
   have := h.cellAt j (by omega)
   rw [Nat.zero_add, this]
   simp [hj, List.getD]

theorem wpList_app1 {P : Program} {ops : Array Oper} {rest : List Oper} {o : Oper} {a : Act} {Q : Exit → Act → World → Prop} {w : World} (hgd : o.guard = none) (s x : Operand) (t : TypeId)
   (ho : o.op = .call { callee := .builtin .append, args := #[s, x], argTypes := #[t, t] })
   (base : Nat) (e : TypeId) (k : IntKind) (bytes : Nat) (ht : P.underlying t = some (.slice e)) (hi : (P.info? e).map (fun i => (i.zero, i.size, i.bytes)) = some (some (.int k 0), 1, bytes)) (hb8 : bytes ≤ 8)
   (v : Value) (n : Nat) (xs : List Value) (hs : a.eval s = v) (hown : w.ownsRow base e 1 v n xs)
   (X : Int) (c : Nat) (hx : a.eval x = .slice (some ⟨w.heap.size, 0, none⟩) 1 c) (hn : n ≤ 1000000000) (hbase : base ≤ w.heap.size)
   (h : ∀ v' w', w'.ownsRow base e 1 v' (n + 1) (xs ++ [.int k X]) → Below base w w' → wpList P ops Q rest (a.put o.dst v') w') : wpList P ops Q (o :: rest) a (w.alloc (.cells #[.int k X] e)) := by
 obtain ⟨i0, hi, hz0, hz1, hz2⟩ := info_parts hi
 have hbn : (n + 1) * bytes ≤ 140737488355328 := Nat.le_trans (Nat.mul_le_mul_left _ hb8) (by omega)
 refine wpList_append_own _ hgd s x t ho base e i0 (.int k 0) 1 bytes ht hi hz0 hz1 hz2 rfl (by decide) v n xs hs (hown.alloc _) ⟨w.heap.size, 0, none⟩ 1 c [.int k X] hx rfl ?_ (by intro u hu; simp at hu; subst hu; rfl) (by unfold maxLen; omega) hbn (by simp; omega) ?_
 · intro j u hj
   rcases j with _ | j
   · simp at hj; subst hj
     unfold World.cell? World.alloc; simp [Addr.add]
   · simp at hj
 · intro v' w' h1 h2 _
   refine h v' w' h1 (((Below.refl _ w).alloc hbase _).grown h2 (by simp; omega) (fun j hj => ?_))
   exact (hown.lt j hj).1
end
section
def encF : Nat → Nat → List Int
 | 0, n => [(n : Int)]
 | f + 1, n => if n < 128 then [(n : Int)] else ((n % 128 + 128 : Nat) : Int) :: encF f (n / 128)
def enc (n : Int) : List Int := encF 9 n.toNat
def encs (l : List Int) : List Int := l.flatMap enc

theorem or128 (y : Nat) : bits .or .u8 ((y : Int) % 256) 128 = ((y % 128 + 128 : Nat) : Int) := by
 have h : ∀ z : Fin 256, bits .or .u8 ((z.val : Nat) : Int) 128 = ((z.val % 128 + 128 : Nat) : Int) := by decide +kernel
 have := h ⟨y % 256, by omega⟩
 simp only at this
 rw [show ((y : Int) % 256) = ((y % 256 : Nat) : Int) by omega, this]
 omega

theorem encF_len : ∀ (f n : Nat), (encF f n).length ≤ f + 1 ∧ 1 ≤ (encF f n).length
 | 0, n => by simp [encF]
 | f + 1, n => by
   unfold encF
   have := encF_len f (n / 128)
   split <;> simp <;> omega
theorem enc_len (n : Int) : (enc n).length ≤ 10 ∧ 1 ≤ (enc n).length := encF_len 9 _
theorem encs_len : ∀ l : List Int, (encs l).length ≤ 10 * l.length
 | [] => by simp [encs]
 | a :: l => by
   have h1 := (enc_len a).1
   have h2 := encs_len l
   simp only [encs, List.flatMap_cons, List.length_append, List.length_cons] at h2 ⊢
   omega
theorem encs_snoc (l : List Int) (k : Nat) (h : k < l.length) : encs (l.take (k + 1)) = encs (l.take k) ++ enc (l.getD k 0) := by
 rw [List.take_succ_eq_append_getElem h]
 simp only [encs, List.flatMap_append, List.flatMap_cons, List.flatMap_nil, List.append_nil, List.getD, List.getElem?_eq_getElem h, Option.getD_some]
theorem len_take_le (l : List Int) (k : Nat) : (l.take k).length ≤ k := List.length_take_le _ _

theorem info_u8 : (Tryd.prog.info? 5).map (fun i => (i.zero, i.size, i.bytes)) = some (some (.int .u8 0), 1, 1) := by kernel_rfl

set_option maxRecDepth 100000 in
set_option maxHeartbeats 2000000 in
theorem put_any (v : Value) (ns : List Int) (w : World) (hv : IsNums .u64 w v ns) (hb : ∀ j, j < ns.length → 0 ≤ ns.getD j 0 ∧ ns.getD j 0 ≤ 18446744073709551615) (hl : ns.length ≤ 1000) :
   Calls Tryd.prog 28 #[v] w fun e w' => ∃ u, e = .returned u ∧ w'.ownsRow w.heap.size 5 1 u (encs ns).length ((encs ns).map (Value.int .u8)) ∧ Below w.heap.size w w' := by
 obtain ⟨p, c, rfl, h⟩ := hv
 have H := Lib.hid h
 have HB := Lib.hid hb
 clear h hb
 go_enter Tryd.func28, Tryd.ntmps28
 go_wp2
 go_loopw [3, 8] (fun u i wr => ∃ k : Nat, k ≤ ns.length ∧ i = .int .i64 k ∧ wr.ownsRow w.heap.size 5 1 u (encs (ns.take k)).length ((encs (ns.take k)).map (Value.int .u8)) ∧ Below w.heap.size w wr) (fun _ i _ => ns.length - (intOf i).toNat)
 case atStart => exact ⟨0, Nat.zero_le _, rfl, World.ownsRow_nil _ _ _ _, Below.refl _ _⟩
 case round =>
   obtain ⟨k, hk, rfl, hown, hbel⟩ := hrel
   by_cases hlt : k < ns.length
   · obtain h0 | ⟨b, off, rfl, hblk, hcell⟩ := H.out
     · omega
     have hc : wr.cell? ⟨b, off + k, none⟩ = some (.int .u64 (ns.getD k 0)) := by rw [hbel.cell hblk]; exact hcell k hlt
     obtain ⟨x0, x1⟩ := HB.out k hlt
     obtain ⟨x, hx⟩ : ∃ x : Nat, ns.getD k 0 = (x : Int) := ⟨(ns.getD k 0).toNat, by omega⟩
     rw [hx] at hc x0 x1
     have HX := Lib.hid hx
     clear hcell hx
     have hlen := encs_len (ns.take k)
     have hlt2 := len_take_le ns k
     generalize hN : (encs (ns.take k)).length = N at hown hlen
     have HN := Lib.hid hN
     clear hN
     have hbz := hbel.size
     obtain ⟨wo, rfl⟩ : ∃ wo : World, wo = wr := ⟨_, rfl⟩
     go_wp2
     go_loopw [3, 5] (fun u y wr => ∃ (f n : Nat) (dn : List Int), y = .int .u64 (n : Int) ∧ n < 128 ^ (f + 1) ∧ (n : Int) ≤ 18446744073709551615 ∧ dn ++ encF f n = enc x ∧ wr.ownsRow w.heap.size 5 1 u (N + dn.length) ((encs (ns.take k) ++ dn).map (Value.int .u8)) ∧ Below w.heap.size w wr) (fun _ y _ => (intOf y).toNat)
     case atStart => exact ⟨9, x, [], rfl, by omega, by omega, rfl, by simpa using hown, hbel⟩
     case round =>
       obtain ⟨f, n, dn, rfl, hn1, hn2, hdn, hown2, hbel2⟩ := hrel
       have hdl : dn.length ≤ 10 := by
         have h1 := (enc_len x).1
         rw [← hdn] at h1
         simp at h1; omega
       have hsz2 := hbel2.size
       have HD := Lib.hid hdn
       have HP := Lib.hid hn1
       clear hdn hn1
       have ho := or128 n
       by_cases hge : 128 ≤ n
       · go_wp2_with (at_builtin; refine wpList_app1 rfl _ _ 26 rfl w.heap.size 5 .u8 1 Tryd.underlying26 info_u8 (by omega) _ _ _ rfl hown2 _ 1 rfl (by omega) hsz2 ?_; intro v' w' hown' hb')
         rcases f with _ | f
         · exfalso; have := HP.out; omega
         go_roundw
         case rel =>
           refine ⟨f, n / 128, dn ++ [((n % 128 + 128 : Nat) : Int)], by simp, ?_, by omega, ?_, ?_, hbel2.trans hb'⟩
           · have := HP.out
             rw [Nat.pow_succ] at this
             exact Nat.div_lt_of_lt_mul (by rw [Nat.mul_comm]; exact this)
           · rw [← HD.out, encF, if_neg (by omega)]; simp
           · rw [show N + (dn ++ [((n % 128 + 128 : Nat) : Int)]).length = N + dn.length + 1 by simp; omega]
             simpa using hown'
         case measure => simp [intOf]; omega
       · have hen : encF f n = [(n : Int)] := by cases f <;> simp [encF]; omega
         have HE := Lib.hid hen
         clear hen ho
         go_wp2_with (at_builtin; refine wpList_app1 rfl _ _ 26 rfl w.heap.size 5 .u8 1 Tryd.underlying26 info_u8 (by omega) _ _ _ rfl hown2 _ 1 rfl (by omega) hsz2 ?_; intro v' w' hown' hb')
         have hd2 := HD.out
         rw [HE.out] at hd2
         go_roundw
         case rel =>
           refine ⟨k + 1, by omega, by go_num, ?_, hbel2.trans hb'⟩
           rw [encs_snoc _ _ hlt, HX.out, ← hd2, List.length_append, HN.out, List.length_append]
           rw [show N + (dn.length + [(n : Int)].length) = N + dn.length + 1 by simp; omega]
           simpa using hown'
         case measure => simp [intOf]; omega
   · obtain rfl : k = ns.length := by omega
     rw [List.take_length] at hown
     go_wp2
     go_ret
     exact ⟨_, rfl, hown, hbel⟩
end
section
theorem run_app_none {P : Program} {w : World} {base : Nat} {t ty e : TypeId} {i : TypeInfo} {size : Nat} (ht : P.underlying t = some (.slice e)) (hi : P.info? e = some i) {v : Value} {n : Nat} {xs : List Value} (hown : w.ownsRow base e size v n xs) (c : Nat) :
   (Builtin.append_ #[t, t] ty #[v, .slice none 0 c]).run P w = .ok v w := by
 rcases hown.2 with ⟨rfl, rfl⟩ | ⟨g, cap, cur, rfl, _, _, hle, _, _, _⟩
 · simp [Builtin.append_, run_underlying ht, sizeOf, typeInfo, hi, Builtin.lenOf, Builtin.firstCells]
 · have hnc : ¬ cap < n := by omega
   simp [Builtin.append_, run_underlying ht, sizeOf, typeInfo, hi, Builtin.lenOf, Builtin.firstCells, hnc, storeCells]

theorem wpList_appN {P : Program} {ops : Array Oper} {rest : List Oper} {o : Oper} {a : Act} {Q : Exit → Act → World → Prop} {w : World} (hgd : o.guard = none) (s x : Operand) (t : TypeId)
   (ho : o.op = .call { callee := .builtin .append, args := #[s, x], argTypes := #[t, t] })
   (base : Nat) (e : TypeId) (k : IntKind) (bytes : Nat) (ht : P.underlying t = some (.slice e)) (hi : (P.info? e).map (fun i => (i.zero, i.size, i.bytes)) = some (some (.int k 0), 1, bytes)) (hb8 : bytes ≤ 8)
   (v : Value) (n : Nat) (xs : List Value) (hs : a.eval s = v) (hown : w.ownsRow base e 1 v n xs)
   (u : Value) (zs : List Int) (hx : a.eval x = u) (hu : IsNums k w u zs) (hn : n + zs.length ≤ 1000000000) (hbase : base ≤ w.heap.size)
   (h : ∀ v' w', w'.ownsRow base e 1 v' (n + zs.length) (xs ++ zs.map (Value.int k)) → Below base w w' → wpList P ops Q rest (a.put o.dst v') w') : wpList P ops Q (o :: rest) a w := by
 obtain ⟨i0, hi, hz0, hz1, hz2⟩ := info_parts hi
 have hbn : (n + zs.length) * bytes ≤ 140737488355328 := Nat.le_trans (Nat.mul_le_mul_left _ hb8) (by omega)
 obtain ⟨p, c, rfl, hp⟩ := hu
 have main : ∀ ad : Addr, p = some ad → (∀ j v, (zs.map (Value.int k))[j]? = some v → w.cell? (ad.add j) = some v) → wpList P ops Q (o :: rest) a w := by
   intro ad hpa hcells
   refine wpList_append_own _ hgd s x t ho base e i0 (.int k 0) 1 bytes ht hi hz0 hz1 hz2 rfl (by decide) v n xs hs hown ad zs.length c (zs.map (Value.int k)) (by rw [hx, hpa]) (by simp) hcells ?_ (by unfold maxLen; omega) hbn hbase ?_
   · intro u hu
     obtain ⟨y, _, rfl⟩ := List.mem_map.1 hu
     rfl
   · intro v' w' h1 h2 _
     exact h v' w' h1 ((Below.refl _ w).grown h2 hbase (fun j hj => (hown.lt j hj).1))
 by_cases h0 : zs.length = 0
 · obtain rfl := List.length_eq_zero_iff.1 h0
   cases p with
   | none =>
     refine Lib.wpList_append_run w hgd s x t t ho v _ hs hx v w (run_app_none ht hi hown c) (h v w (by simpa using hown) (Below.refl _ _))
   | some ad => exact main ad rfl (by simp)
 · rcases hp with hp | ⟨b, off, rfl, hblk, hc⟩
   · exact absurd hp h0
   · refine main _ rfl ?_
     intro j u hj
     have hjn : j < zs.length := by
       have := (List.getElem?_eq_some_iff.1 hj).1
       simpa using this
     rw [Addr.add_lit, hc j hjn]
     simp [hjn] at hj
     subst hj
     simp [List.getD, hjn]


theorem conv_str {P : Program} {w : World} {v : Value} {bs : List Int} (h : IsNums .u8 w v bs) (src e : TypeId) (hs : P.underlying src = some (.slice e)) (he : P.underlying e = some (.int .u8)) :
   ∀ dst, P.underlying dst = some .string → (convert src dst v).run P w = .ok (.string (strOfNums bs)) w := by
 intro dst hd
 obtain ⟨p, c, rfl, hp⟩ := h
 by_cases h0 : bs.length = 0
 · obtain rfl := List.length_eq_zero_iff.1 h0
   cases p with
   | none => exact run_convert_bytes_nil w src e hs he _ _ dst hd
   | some ad =>
     have hl : (loadCells ad 0).run P w = .ok ([] : List Value).toArray w := run_loadCells_list (P := P) w ad [] (by simp)
     show (convert src dst (.slice (some ad) 0 c)).run P w = _
     rw [run_convert_bytes_string w src dst e _ 0 c hs he hd, run_bytesToString w _ 0 c [] (by simpa using hl)]
     rfl
 · rcases hp with hp | ⟨b, off, rfl, hblk, hc⟩
   · exact absurd hp h0
   · exact run_convert_bytes_arg w src e hs he b off bs.length c bs rfl hc dst hd

theorem str_inj {a b : List Int} (ha : ∀ x ∈ a, 0 ≤ x ∧ x ≤ 255) (hb : ∀ x ∈ b, 0 ≤ x ∧ x ≤ 255) (h : strOfNums a = strOfNums b) : a = b := by
 have h1 := congrArg (fun s => s.data.toList) h
 simp only [strOfNums_data] at h1
 induction a generalizing b with
 | nil => cases b with
   | nil => rfl
   | cons y b => simp at h1
 | cons x a ih => cases b with
   | nil => simp at h1
   | cons y b =>
     simp only [List.map_cons, List.cons.injEq] at h1
     have hx := ha x (by simp)
     have hy := hb y (by simp)
     have e : x = y := by
       have := congrArg UInt8.toNat h1.1
       simp at this
       omega
     subst e
     congr 1
     have h2 : strOfNums a = strOfNums b := by
       unfold strOfNums; rw [h1.2]
     exact ih (fun z hz => ha z (by simp [hz])) (fun z hz => hb z (by simp [hz])) h2 h1.2
end
section
set_option maxRecDepth 100000 in
set_option maxHeartbeats 2000000 in
theorem grow_nil (n : Nat) (w : World) (hn : n ≤ 1000000) :
   Calls Tryd.prog 33 #[.slice none 0 0, .int .i64 n] w fun e w' => ∃ u, e = .returned u ∧ w'.ownsRow w.heap.size 5 1 u 0 [] ∧ Below w.heap.size w w' := by
 by_cases h0 : n = 0
 · subst h0
   go_enter Tryd.func33, Tryd.ntmps33
   go_wp2
   go_ret
   exact ⟨_, rfl, World.ownsRow_nil _ _ _ _, Below.refl _ _⟩
 · obtain ⟨i0, hi, hz0, hz1, hz2⟩ := info_parts info_u8
   have hbn : n * i0.bytes ≤ 140737488355328 := by rw [hz2]; omega
   have hrz : ∀ ty, (Builtin.append_ #[26, 3] ty #[.slice none 0 0, .int .i64 (n : Int)]).run Tryd.prog w =
       .ok (.slice (some ⟨w.heap.size, 0, none⟩) n (grownCap w n 0 5)) (w.drew.alloc (.cells (#[] ++ Builtin.zeroCells (Value.int .u8 0).cells n ++ Builtin.zeroCells (Value.int .u8 0).cells (grownCap w n 0 5 - n)) 5)) := fun ty => by
     have h := Lib.run_append_grow_zeros w 26 3 ty 5 i0 (.int .u8 0) .i64 .i64 Tryd.underlying26 Tryd.underlying3 hi hz0 none 0 0 [] (run_firstCells_none w.drew i0.size 0 0 0) n (by omega) (by omega) (by omega) (by omega) (by omega)
       (by rw [Nat.zero_add]; exact growslice_fits (by omega) hbn)
     rw [Nat.zero_add] at h
     exact h
   have hG := grownCap_ge w n 0 5
   have hM := grownCap_le_maxLen w n 0 5 (by unfold maxLen; omega)
   generalize grownCap w n 0 5 = G at hrz hG hM
   have hown : (w.drew.alloc (.cells (#[] ++ Builtin.zeroCells (Value.int .u8 0).cells n ++ Builtin.zeroCells (Value.int .u8 0).cells (G - n)) 5)).ownsRow w.heap.size 5 1 (.slice (some ⟨w.heap.size, 0, none⟩) 0 G) 0 [] := by
     refine World.ownsRow_made w.drew _ G (Nat.le_refl _) hM ?_
     have h1 : (Value.int .u8 0).cells.size = 1 := rfl
     simp [size_zeroCells, h1]
     omega
   have hbel : Below w.heap.size w (w.drew.alloc (.cells (#[] ++ Builtin.zeroCells (Value.int .u8 0).cells n ++ Builtin.zeroCells (Value.int .u8 0).cells (G - n)) 5)) := ((Below.refl _ w).drew).alloc (Nat.le_refl _) _
   generalize (w.drew.alloc (.cells (#[] ++ Builtin.zeroCells (Value.int .u8 0).cells n ++ Builtin.zeroCells (Value.int .u8 0).cells (G - n)) 5)) = W' at hrz hown hbel
   have HO := Lib.hid hown
   have HB := Lib.hid hbel
   clear hown hbel hi hz0 hz1 hz2
   unfold maxLen at hM
   go_enter Tryd.func33, Tryd.ntmps33
   go_wp2_with (at_builtin; refine Lib.wpList_append_run _ rfl _ _ _ _ rfl _ _ rfl rfl _ _ (hrz _) ?_)
   all_goals (go_ret; exact ⟨_, rfl, HO.out, HB.out⟩)

def IsLists (w : World) (v : Value) (ls : List (List Int)) : Prop :=
 ∃ a c, v = .slice a ls.length c ∧ (ls.length = 0 ∨ ∃ b off, a = some ⟨b, off, none⟩ ∧ b < w.heap.size ∧ ∀ j, j < ls.length → ∃ u, w.cell? ⟨b, off + j, none⟩ = some u ∧ IsNums .u8 w u (ls.getD j []))

def sumLen (ls : List (List Int)) : Nat := ls.flatten.length

theorem flatten_snoc (ls : List (List Int)) (k : Nat) (h : k < ls.length) : (ls.take (k + 1)).flatten = (ls.take k).flatten ++ ls.getD k [] := by
 rw [List.take_succ_eq_append_getElem h]; simp only [List.flatten_append, List.flatten_cons, List.flatten_nil, List.append_nil, List.getD, List.getElem?_eq_getElem h, Option.getD_some]
theorem sumLen_snoc (ls : List (List Int)) (k : Nat) (h : k < ls.length) : sumLen (ls.take (k + 1)) = sumLen (ls.take k) + (ls.getD k []).length := by
 unfold sumLen; rw [flatten_snoc _ _ h, List.length_append]
theorem sumLen_take (ls : List (List Int)) (k : Nat) : sumLen (ls.take k) ≤ sumLen ls := by
 have : ls.flatten = (ls.take k).flatten ++ (ls.drop k).flatten := by rw [← List.flatten_append, List.take_append_drop]
 unfold sumLen; rw [this]; simp

set_option maxRecDepth 100000 in
set_option maxHeartbeats 2000000 in
theorem join_any (v : Value) (ls : List (List Int)) (w : World) (hv : IsLists w v ls) (hl : ls.length ≤ 1000) (hs : sumLen ls ≤ 1000000) :
   Calls Tryd.prog 14 #[v] w fun e w' => ∃ u, e = .returned u ∧ w'.ownsRow w.heap.size 5 1 u ls.flatten.length (ls.flatten.map (Value.int .u8)) ∧ Below w.heap.size w w' := by
 obtain ⟨p, c, rfl, h⟩ := hv
 have H := Lib.hid h
 clear h
 go_enter Tryd.func14, Tryd.ntmps14
 go_wp2
 go_loop [3, 11] (fun n i => ∃ k : Nat, k ≤ ls.length ∧ i = .int .i64 k ∧ n = .int .i64 (sumLen (ls.take k) : Nat)) (fun _ i => ls.length - (intOf i).toNat)
 case atStart => exact ⟨0, Nat.zero_le _, rfl, rfl⟩
 case round =>
   obtain ⟨k, hk, rfl, rfl⟩ := hrel
   have hst := sumLen_take ls k
   obtain ⟨S0, hS0⟩ : ∃ S, sumLen (ls.take k) = S := ⟨_, rfl⟩
   by_cases hlt : k < ls.length
   · obtain h0 | ⟨b, off, rfl, hblk, hcell⟩ := H.out
     · omega
     obtain ⟨u, hc, pu, cu, rfl, -⟩ := hcell k hlt
     have hsn := sumLen_snoc ls k hlt
     obtain ⟨L, hL⟩ : ∃ L, (ls.getD k []).length = L := ⟨_, rfl⟩
     rw [hL] at hsn hc
     have hst2 := sumLen_take ls (k + 1)
     rw [hsn] at hst2
     rw [hS0] at hst hsn hst2 ⊢
     have HS := Lib.hid hsn
     have H0 := Lib.hid hS0
     have H1 := Lib.hid hL
     clear hsn hS0 hcell hL
     go_wp2
     go_round
     case rel => exact ⟨k + 1, by omega, by go_num, by rw [HS.out, Int.natCast_add]⟩
     case measure => simp [intOf]; omega
   · obtain rfl : k = ls.length := by omega
     rw [List.take_length] at hst ⊢
     clear hS0
     go_wp2_with fail
     refine (grow_nil (sumLen ls) w hs).mono ?_
     rintro e w1 ⟨u, rfl, hown, hb⟩
     go_wp2
     go_loopw [6, 24] (fun u i wr => ∃ k : Nat, k ≤ ls.length ∧ i = .int .i64 k ∧ wr.ownsRow w.heap.size 5 1 u (sumLen (ls.take k)) ((ls.take k).flatten.map (Value.int .u8)) ∧ Below w.heap.size w wr) (fun _ i _ => ls.length - (intOf i).toNat)
     case atStart => exact ⟨0, Nat.zero_le _, rfl, by simpa [sumLen] using hown, hb⟩
     case round =>
       obtain ⟨k, hk, rfl, hown, hbel⟩ := hrel
       have hst := sumLen_take ls k
       by_cases hlt : k < ls.length
       · obtain h0 | ⟨b, off, rfl, hblk, hcell⟩ := H.out
         · omega
         obtain ⟨u, hc0, hu⟩ := hcell k hlt
         have hc : wr.cell? ⟨b, off + k, none⟩ = some u := by rw [hbel.cell hblk]; exact hc0
         have hu2 : IsNums .u8 wr u (ls.getD k []) := hu.below hbel (Nat.le_refl _)
         have HS := Lib.hid (sumLen_snoc ls k hlt)
         have HF := Lib.hid (flatten_snoc ls k hlt)
         have hst2 := sumLen_take ls (k + 1)
         rw [HS.out] at hst2
         have hsz := hbel.size
         have HU := Lib.hid hu2
         obtain ⟨S0, hS0⟩ : ∃ S, sumLen (ls.take k) = S := ⟨_, rfl⟩
         rw [hS0] at hst hst2 hown
         have H0 := Lib.hid hS0
         obtain ⟨L, hL⟩ : ∃ L, (ls.getD k []).length = L := ⟨_, rfl⟩
         rw [hL] at hst2
         have H1 := Lib.hid hL
         clear hcell hc0 hu hu2 hS0 hL
         go_wp2_with (at_builtin; refine wpList_appN rfl _ _ 26 rfl w.heap.size 5 .u8 1 Tryd.underlying26 info_u8 (by omega) _ _ _ rfl hown _ _ rfl HU.out (by rw [H1.out]; omega) hsz ?_; intro v' w' hown' hb')
         go_roundw
         case rel => exact ⟨k + 1, by omega, by go_num, by rw [HS.out, HF.out, H0.out, List.map_append]; exact hown', hbel.trans hb'⟩
         case measure => simp [intOf]; omega
       · obtain rfl : k = ls.length := by omega
         rw [List.take_length] at hown
         go_wp2
         go_ret
         exact ⟨_, rfl, hown, hbel⟩
end
section
def NumsLt (N : Nat) (k : IntKind) (w : World) (v : Value) (zs : List Int) : Prop :=
 ∃ a c, v = .slice a zs.length c ∧ zs.length ≤ c ∧ c ≤ 9223372036854775807 ∧ (zs.length = 0 ∨ ∃ b off, a = some ⟨b, off, none⟩ ∧ b < N ∧ ∀ j, j < zs.length → w.cell? ⟨b, off + j, none⟩ = some (.int k (zs.getD j 0)))

theorem NumsLt.below {N : Nat} {k : IntKind} {w w' : World} {v : Value} {zs : List Int} (h : NumsLt N k w v zs) (hb : Below N w w') : NumsLt N k w' v zs := by
 obtain ⟨a, c, rfl, hc1, hc2, h | ⟨b, off, rfl, h1, h2⟩⟩ := h
 · exact ⟨a, c, rfl, hc1, hc2, .inl h⟩
 · refine ⟨_, c, rfl, hc1, hc2, .inr ⟨b, off, rfl, h1, fun j hj => ?_⟩⟩
   rw [hb.cell (by show b < N; omega)]
   exact h2 j hj
theorem NumsLt.nums {N : Nat} {k : IntKind} {w : World} {v : Value} {zs : List Int} (h : NumsLt N k w v zs) (hN : N ≤ w.heap.size) : IsNums k w v zs := by
 obtain ⟨a, c, rfl, hc1, hc2, h | ⟨b, off, rfl, h1, h2⟩⟩ := h
 · exact ⟨a, c, rfl, .inl h⟩
 · exact ⟨_, c, rfl, .inr ⟨b, off, rfl, by omega, h2⟩⟩

inductive Dec where
 | ok (n : Nat) (k : Nat)
 | err (e : Int)

def dec : Nat → Nat → List Int → Dec
 | _, _, [] => .err 21
 | acc, i, b :: r => if (i = 9 ∧ 1 < b) ∨ (0 < i ∧ b = 0) then .err 20 else
     if b < 128 then .ok (acc + (b % 128).toNat * 2 ^ (7 * i)) (i + 1) else dec (acc + (b % 128).toNat * 2 ^ (7 * i)) (i + 1) r

theorem andNot128 (b : Int) (h0 : 0 ≤ b) (h1 : b ≤ 255) : bits .andNot .u8 b 128 = b % 128 := by
 have h : ∀ z : Fin 256, bits .andNot .u8 ((z.val : Nat) : Int) 128 = ((z.val : Nat) : Int) % 128 := by decide +kernel
 have := h ⟨b.toNat, by omega⟩
 simp only at this
 rw [show ((b.toNat : Nat) : Int) = b by omega] at this
 exact this

theorem or_shift (acc k : Nat) (x : Int) (hacc : acc < 2 ^ (7 * k)) (hk : k ≤ 9) (x0 : 0 ≤ x) (hx : x ≤ 255) (h9 : k = 9 → x ≤ 1) :
   bits .or .u64 (acc : Int) (IntKind.u64.wrap (x % 128 * 2 ^ (7 * k))) = ((acc + (x % 128).toNat * 2 ^ (7 * k) : Nat) : Int) := by
 obtain ⟨y, hy⟩ : ∃ y : Nat, x % 128 = y := ⟨(x % 128).toNat, by omega⟩
 have hy1 : y < 128 := by omega
 have hy9 : k = 9 → y ≤ 1 := fun h => by have := h9 h; omega
 rw [hy]
 have hb : y * 2 ^ (7 * k) < 2 ^ 64 := by
   by_cases e : k = 9
   · subst e
     have := hy9 rfl
     have : y * 2 ^ (7 * 9) ≤ 1 * 2 ^ (7 * 9) := Nat.mul_le_mul_right _ this
     exact Nat.lt_of_le_of_lt this (by decide)
   · have h1 : 2 ^ (7 * k) ≤ 2 ^ 56 := Nat.pow_le_pow_right (by decide) (by omega)
     have h2 : y * 2 ^ (7 * k) ≤ 127 * 2 ^ 56 := Nat.mul_le_mul (by omega) h1
     exact Nat.lt_of_le_of_lt h2 (by decide)
 have ha : acc < 2 ^ 64 := Nat.lt_of_lt_of_le hacc (Nat.pow_le_pow_right (by decide) (by omega))
 have hcast : ((y : Int) * 2 ^ (7 * k)) = ((y * 2 ^ (7 * k) : Nat) : Int) := by simp
 have hw : ∀ n : Int, 0 ≤ n → n < 2 ^ 64 → IntKind.u64.wrap n = n := fun n h0 h1 => by rw [IntKind.wrap_u64]; omega
 rw [hcast, hw _ (by omega) (by have : ((y * 2 ^ (7 * k) : Nat) : Int) < ((2 ^ 64 : Nat) : Int) := Int.ofNat_lt.2 hb; simpa using this)]
 have h := (bits_nat .u64 64 (by decide) hw acc (y * 2 ^ (7 * k)) ha hb).2
 rw [h]
 have h2 : 2 ^ (7 * k) * y + acc = 2 ^ (7 * k) * y ||| acc := Nat.two_pow_add_eq_or_of_lt hacc y
 rw [Nat.or_comm, Nat.mul_comm y, ← h2, Int.toNat_natCast, Nat.mul_comm, Nat.add_comm]

theorem acc_bound (acc k : Nat) (x : Int) (hacc : acc < 2 ^ (7 * k)) : acc + (x % 128).toNat * 2 ^ (7 * k) < 2 ^ (7 * (k + 1)) := by
 have h1 : (x % 128).toNat ≤ 127 := by omega
 have h2 : (x % 128).toNat * 2 ^ (7 * k) ≤ 127 * 2 ^ (7 * k) := Nat.mul_le_mul_right _ h1
 rw [show 7 * (k + 1) = 7 * k + 7 by omega, Nat.pow_add]
 omega

def IsReader (w : World) (B : Nat) (v : Value) (bs : List Int) (e : Int) : Prop :=
 w.cell? ⟨B, 0, none⟩ = some v ∧ w.cell? ⟨B, 1, none⟩ = some (.int .i64 e) ∧ w.frozen? ⟨B, 0, none⟩ = false ∧ w.frozen? ⟨B, 1, none⟩ = false ∧ NumsLt B .u8 w v bs ∧ ∀ x ∈ bs, 0 ≤ x ∧ x ≤ 255

theorem reader_shift {w : World} {B b off c k c' : Nat} {bs : List Int} {e : Int} {v : Value} {a' : Option Addr} (h0 : w.cell? ⟨B, 0, none⟩ = some v) (h1 : w.cell? ⟨B, 1, none⟩ = some (.int .i64 e)) (h2 : w.frozen? ⟨B, 0, none⟩ = false) (h3 : w.frozen? ⟨B, 1, none⟩ = false)
   (hblk : b < B) (hcell : ∀ j, j < bs.length → w.cell? ⟨b, off + j, none⟩ = some (.int .u8 (bs.getD j 0))) (hbs : ∀ x ∈ bs, 0 ≤ x ∧ x ≤ 255) (hk : k ≤ bs.length) (hc1 : bs.length - k ≤ c') (hc2 : c' ≤ 9223372036854775807) (ha : bs.length - k = 0 ∨ a' = some ⟨b, off + k, none⟩) :
   IsReader (w.setCell ⟨B, 0, none⟩ (.slice a' (bs.length - k) c')) B (.slice a' (bs.length - k) c') (bs.drop k) e := by
 refine ⟨World.cell?_setCell_same _ _ _ h0, ?_, by rw [World.frozen?_setCell]; exact h2, by rw [World.frozen?_setCell]; exact h3, ?_, fun x hx => hbs x (List.mem_of_mem_drop hx)⟩
 · rw [World.cell?_setCell_other _ _ _ _ (by simp)]; exact h1
 · have hl : (bs.drop k).length = bs.length - k := by simp
   refine NumsLt.below (w := w) ⟨a', c', by rw [hl], by omega, hc2, ?_⟩ ((Below.refl B w).setCell (p := ⟨B, 0, none⟩) (Nat.le_refl _) _)
   rcases ha with ha | ha
   · left; omega
   · right
     refine ⟨b, off + k, ha, hblk, fun j hj => ?_⟩
     have := hcell (k + j) (by omega)
     rw [show off + k + j = off + (k + j) by omega, this]
     simp [List.getD]

def decPost (w : World) (B : Nat) (bs : List Int) (e : Int) : Dec → Ending → World → Prop
 | .ok n k, en, w' => en = .returned (.tuple #[.int .u64 n, .int .i64 0]) ∧ ∃ v', w' = w.setCell ⟨B, 0, none⟩ v' ∧ IsReader w' B v' (bs.drop k) e
 | .err er, en, w' => en = .returned (.tuple #[.int .u64 0, .int .i64 er]) ∧ w' = w
end
section
def Only (B : Nat) (w w' : World) : Prop := w.grownBy w' (some B)
theorem Only.refl (B : Nat) (w : World) : Only B w w := ⟨rfl, rfl, rfl, Nat.le_refl _, fun _ _ _ => rfl⟩
theorem Only.trans {B : Nat} {a b c : World} (h : Only B a b) (k : Only B b c) : Only B a c :=
 ⟨k.os.trans h.os, k.tape.trans h.tape, k.output.trans h.output, Nat.le_trans h.size k.size, fun i hi hne => (k.block i (Nat.lt_of_lt_of_le hi h.size) hne).trans (h.block i hi hne)⟩
theorem Only.set (B : Nat) (w : World) (o : Nat) (v : Value) : Only B w (w.setCell ⟨B, o, none⟩ v) :=
 ⟨rfl, rfl, rfl, by simp [World.setCell], fun k _ hne => Below.heap_setCell _ _ _ _ (fun e => hne (by rw [e]))⟩
theorem Only.ofBelow {B : Nat} {w w' : World} (h : Below w.heap.size w w') : Only B w w' := ⟨h.os, h.tape, h.output, h.size, fun k hk _ => h.block k hk⟩
theorem Only.below {B N : Nat} {w w' : World} (h : Only B w w') (hB : N ≤ B) (hN : N ≤ w.heap.size) : Below N w w' :=
 ⟨h.os, h.tape, h.output, h.size, fun k hk => h.block k (by omega) (fun e => by cases e; omega)⟩
theorem Only.drew (B : Nat) (w : World) : Only B w w.drew := ⟨rfl, rfl, rfl, Nat.le_refl _, fun _ _ _ => rfl⟩

theorem IsReader.lt {w : World} {B : Nat} {v : Value} {bs : List Int} {e : Int} (h : IsReader w B v bs e) : B < w.heap.size := World.block_lt_of_cell? w ⟨B, 0, none⟩ h.1

theorem IsReader.kept {w w' : World} {B B2 : Nat} {v : Value} {bs : List Int} {e : Int} (h : IsReader w B v bs e) (ho : Only B2 w w') (hB : B < B2) : IsReader w' B v bs e := by
 have hlt := h.lt
 obtain ⟨h0, h1, h2, h3, h4, h5⟩ := h
 have hb : w'.heap[B]? = w.heap[B]? := ho.block B hlt (fun e => by cases e; omega)
 exact ⟨by rw [World.cell?_of_block (w := w) hb]; exact h0, by rw [World.cell?_of_block (w := w) hb]; exact h1, by rw [World.frozen?_of_block (w := w) hb]; exact h2, by rw [World.frozen?_of_block (w := w) hb]; exact h3, h4.below (ho.below (by omega) (by omega)), h5⟩
theorem IsReader.later {w w' : World} {B : Nat} {v : Value} {bs : List Int} {e : Int} (h : IsReader w B v bs e) (hb : Below w.heap.size w w') : IsReader w' B v bs e := by
 have hlt := h.lt
 obtain ⟨h0, h1, h2, h3, h4, h5⟩ := h
 exact ⟨by rw [hb.cell (by exact hlt)]; exact h0, by rw [hb.cell (by exact hlt)]; exact h1, by rw [hb.frozen (by exact hlt)]; exact h2, by rw [hb.frozen (by exact hlt)]; exact h3, h4.below (hb.mono (by omega)), h5⟩

theorem dec_err : ∀ (bs : List Int) (acc i : Nat) (er : Int), dec acc i bs = .err er → er = 20 ∨ er = 21
 | [], acc, i, er, h => by rw [dec] at h; cases h; exact .inr rfl
 | b :: r, acc, i, er, h => by
   rw [dec] at h
   split at h
   · cases h; exact .inl rfl
   · split at h
     · cases h
     · exact dec_err r _ _ er h
def numR (bs : List Int) (e most : Int) : Int × List Int × Int :=
 if e = 0 then match dec 0 0 bs with
   | .err er => (0, [], er)
   | .ok n k => if most < n then (0, [], 22) else (n, bs.drop k, 0)
 else (0, bs, e)
end
section
def lumpR (bs : List Int) (e most : Int) : List Int × List Int × Int :=
 if (numR bs e (max most 0)).2.2 = 0 then
   if ((numR bs e (max most 0)).2.1.length : Int) < (numR bs e (max most 0)).1 then ([], [], 21)
   else ((numR bs e (max most 0)).2.1.take (numR bs e (max most 0)).1.toNat, (numR bs e (max most 0)).2.1.drop (numR bs e (max most 0)).1.toNat, 0)
 else ([], (numR bs e (max most 0)).2.1, (numR bs e (max most 0)).2.2)

theorem IsLists.lit (w : World) (us : List Value) (ls : List (List Int)) (N : Nat) (T : TypeId) (n c : Nat) (hN : N = w.heap.size) (hn : n = us.length) (hl : us.length = ls.length) (h : ∀ j, j < us.length → IsNums .u8 w (us.getD j default) (ls.getD j [])) :
   IsLists (w.alloc (.cells us.toArray T)) (.slice (some ⟨N, 0, none⟩) n c) ls := by
 subst hN; subst hn
 refine ⟨_, c, by rw [hl], .inr ⟨_, 0, rfl, by simp, fun j hj => ?_⟩⟩
 refine ⟨us.getD j default, ?_, (h j (by omega)).alloc _⟩
 unfold World.cell? World.alloc
 simp [List.getD, show j < us.length by omega]

theorem IsLists.one (w : World) (u : Value) (bs : List Int) (N : Nat) (T : TypeId) (hN : N = w.heap.size) (h : IsNums .u8 w u bs) : IsLists (w.alloc (.cells #[u] T)) (.slice (some ⟨N, 0, none⟩) 1 1) [bs] :=
 IsLists.lit w [u] [bs] N T 1 1 hN rfl rfl (fun j hj => by
   rcases j with _ | j
   · exact h
   · simp at hj)

theorem ownsRow_base {w : World} {B B' : Nat} {e : TypeId} {s : Nat} {v : Value} {n : Nat} {xs : List Value} (h : w.ownsRow B e s v n xs) (hB : B' ≤ B) : w.ownsRow B' e s v n xs := by
 obtain ⟨h1, h2 | ⟨g, cap, cur, a, b, r⟩⟩ := h
 · exact ⟨h1, .inl h2⟩
 · exact ⟨h1, .inr ⟨g, cap, cur, a, Nat.le_trans hB b, r⟩⟩

theorem NumsLt.ofOwn {k : IntKind} {w : World} {B : Nat} {e : TypeId} {v : Value} {n : Nat} {zs : List Int} (h : w.ownsRow B e 1 v n (zs.map (Value.int k))) : NumsLt w.heap.size k w v zs := by
 have hn : n = zs.length := by have := h.1; simpa using this.symm
 subst hn
 rcases h.2 with ⟨rfl, h0⟩ | ⟨g, cap, cur, rfl, hg, hb, h1, h2, h3, h4⟩
 · obtain rfl := List.length_eq_zero_iff.1 h0
   exact ⟨none, 0, rfl, Nat.le_refl _, by omega, .inl rfl⟩
 · refine ⟨_, cap, rfl, h1, h2, .inr ⟨g, 0, rfl, (Array.getElem?_eq_some_iff.1 hb).1, fun j hj => ?_⟩⟩
   have := h.cellAt j (by omega)
   rw [Nat.zero_add, this]
   simp [hj, List.getD]

theorem NumsLt.take {N : Nat} {k : IntKind} {w : World} {a : Option Addr} {len c : Nat} {zs : List Int} (h : NumsLt N k w (.slice a len c) zs) (n : Nat) (hn : n ≤ zs.length) : NumsLt N k w (.slice a n c) (zs.take n) := by
 obtain ⟨a', c', e, h1, h2, h3⟩ := h
 injection e with e1 e2 e3
 subst e1; subst e3
 refine ⟨a, c, by simp [hn], by simp; omega, h2, ?_⟩
 rcases h3 with h3 | ⟨b, off, rfl, hb, hc⟩
 · left; simp; omega
 · right
   refine ⟨b, off, rfl, hb, fun j hj => ?_⟩
   simp at hj
   rw [hc j (by omega)]
   simp only [List.getD, List.getElem?_take]
   rw [if_pos (by omega)]

theorem IsReader.set {w : World} {B : Nat} {a : Option Addr} {len c n : Nat} {bs : List Int} {e : Int} (h : IsReader w B (.slice a len c) bs e) (hn : n ≤ bs.length) (a' : Option Addr) (c' : Nat) (hc1 : bs.length - n ≤ c') (hc2 : c' ≤ 9223372036854775807)
   (ha : ∀ b off, a = some ⟨b, off, none⟩ → bs.length - n = 0 ∨ a' = some ⟨b, off + n, none⟩) : IsReader (w.setCell ⟨B, 0, none⟩ (.slice a' (bs.length - n) c')) B (.slice a' (bs.length - n) c') (bs.drop n) e := by
 obtain ⟨h0, h1, h2, h3, ⟨p, c0, ep, hc3, hc4, hcells⟩, h5⟩ := h
 injection ep with e1 e2 e3
 subst e1; subst e3
 rcases hcells with hz | ⟨b, off, rfl, hblk, hcell⟩
 · have hn0 : bs = [] := List.length_eq_zero_iff.1 hz
   subst hn0
   refine ⟨World.cell?_setCell_same _ _ _ h0, ?_, by rw [World.frozen?_setCell]; exact h2, by rw [World.frozen?_setCell]; exact h3, ⟨a', c', by simp, by simp, hc2, .inl (by simp)⟩, by simp⟩
   rw [World.cell?_setCell_other _ _ _ _ (by simp)]; exact h1
 · exact reader_shift (c := c) h0 h1 h2 h3 hblk hcell h5 hn hc1 hc2 (ha b off rfl)

def LumpPost (w : World) (B : Nat) (r : List Int × List Int × Int) (en : Ending) (w' : World) : Prop :=
 ∃ u, en = .returned u ∧ w'.ownsRow w.heap.size 5 1 u r.1.length (r.1.map (Value.int .u8)) ∧ ∃ v', IsReader w' B v' r.2.1 r.2.2 ∧ Only B w w'

set_option maxHeartbeats 1000000 in
theorem lump_any (v : Value) (bs : List Int) (w : World) (h : IsNums .u8 w v bs) (hl : bs.length ≤ 100000) :
   Calls Tryd.prog 15 #[v] w fun en w' => ∃ u, en = .returned u ∧ w'.ownsRow w.heap.size 5 1 u (enc bs.length ++ bs).length ((enc bs.length ++ bs).map (Value.int .u8)) ∧ Below w.heap.size w w' := by
 obtain ⟨p, c, rfl, -⟩ := id h
 have H := Lib.hid h
 clear h
 go_enter Tryd.func15, Tryd.ntmps15
 go_wp2_with fail
 refine (put_any _ [(bs.length : Int)] _ (IsNums.lit .u64 w [(bs.length : Int)] _ _ _ _ rfl rfl) (by intro j hj; simp at hj; subst hj; simp; omega) (by simp)).mono ?_
 rintro en w2 ⟨u, rfl, hown, hb1⟩
 have hb2 : Below w.heap.size w w2 := ((Below.refl _ w).alloc (Nat.le_refl _) _).trans (hb1.mono (by simp))
 rw [show encs [(bs.length : Int)] = enc bs.length by simp [encs]] at hown
 have hown2 := ownsRow_base (B' := w.heap.size) hown (by simp)
 have hel := (enc_len (bs.length : Int)).1
 have H2 := Lib.hid (H.out.below hb2 (Nat.le_refl _))
 have hz := hb2.size
 clear hb1 hown
 go_wp2_with (at_builtin; refine wpList_appN rfl _ _ 26 rfl w.heap.size 5 .u8 1 Tryd.underlying26 info_u8 (by omega) _ _ _ rfl hown2 _ bs rfl H2.out (by omega) hz ?_; intro v' w' hown' hb')
 go_ret
 refine ⟨_, rfl, ?_, hb2.trans hb'⟩
 rw [List.length_append, List.map_append]
 exact hown'
end
section
section
variable {P : Program} {ops : Array Oper} {Q : Exit → Act → World → Prop} {md : Region.Mode}

def Ext (w W : World) : Prop := Below w.heap.size w W

theorem wpAnyH_weaken {S S' : World → Prop} (hS : ∀ w, S' w → S w) : ∀ (fuel : Nat) (listed : Array Bool) (a : Act) (w : World), wpAnyH P md ops Q S' fuel listed a w → wpAnyH P md ops Q S fuel listed a w
 | 0, _, _, _, h => h
 | fuel + 1, _, _, _, h => ⟨h.1, fun i hi => wpOp_mono (fun a' w' h' => ⟨hS _ h'.1, wpAnyH_weaken hS fuel _ a' w' h'.2⟩) (h.2 i hi)⟩

theorem step_read (i : Nat) (d : Option Tmp) {oi : Oper} {v : Value} {fuel : Nat} {listed : Array Bool} {a : Act} {w : World} (hi : ops[i]? = some oi) (hd : oi.dst = d)
   (hs : Region.noSelect ops = true) (hf : Region.free md ops listed i = true) (hr : (Region.ready md ops listed).contains i = true)
   (hQ : ∀ c a w, Q (.panic c) (a.put d v) w → Q (.panic c) a w) (hw : Region.wanted oi (yielded ops a.tmps) = true)
   (hy : ∀ W, Below w.heap.size w W → (execOp a.eval oi).run P W = .ok (.value v) W)
   (h : wpAnyH P md ops Q (Ext w) fuel (listed.setIfInBounds i true) (a.put d v) w) : wpAnyH P md ops Q (Ext w) (fuel + 1) listed a w := by
 subst hd
 exact wpAnyH_take hi hs hf hr hQ (Or.inl ⟨hw, hy⟩) (Below.refl _ _) h

theorem step_skip (i : Nat) (d : Option Tmp) {oi : Oper} {fuel : Nat} {listed : Array Bool} {a : Act} {w : World} (hi : ops[i]? = some oi) (hd : oi.dst = d)
   (hs : Region.noSelect ops = true) (hf : Region.free md ops listed i = true) (hr : (Region.ready md ops listed).contains i = true)
   (hQ : ∀ c a w, Q (.panic c) (a.put d undef) w → Q (.panic c) a w) (hw : Region.wanted oi (yielded ops a.tmps) = false)
   (h : wpAnyH P md ops Q (Ext w) fuel (listed.setIfInBounds i true) (a.put d undef) w) : wpAnyH P md ops Q (Ext w) (fuel + 1) listed a w := by
 subst hd
 exact wpAnyH_take hi hs hf hr hQ (Or.inr ⟨hw, rfl⟩) (Below.refl _ _) h

theorem step_only (i : Nat) {o : Oper} {fuel : Nat} {listed : Array Bool} {a : Act} {w : World} (hi : ops[i]? = some o) (hr : Region.ready md ops listed = [i])
   (hw : Region.wanted o (yielded ops a.tmps) = true)
   (h : ∀ K' : Act → World → Prop, (∀ a' w', Below w.heap.size w w' → wpAnyH P md ops Q (Ext w') fuel (listed.setIfInBounds i true) a' w' → K' a' w') → Oper.wp P o a w K' Q) :
   wpAnyH P md ops Q (Ext w) (fuel + 1) listed a w := by
 refine wpAnyH_all hr (by simp) (fun j hj => ?_)
 obtain rfl : j = i := by simpa using hj
 refine wpOp_step hi (fun K' hK => ?_)
 rw [if_pos hw]
 exact h K' (fun a' w' hb hn => hK a' w' ⟨hb, wpAnyH_weaken (fun W hW => hb.trans (hW.mono hb.size)) fuel _ a' w' hn⟩)

theorem region_begin {id : Nat} {a : Act} {w : World} (hm : P.follows .mixedOrders = true)
   (h : wpAnyH P .any ops Q (Ext w.drew) ops.size (Array.replicate ops.size false) a w.drew) : (Code.region id ops true).wp P Q a w :=
 wp_region_held hm h
end
end
section
def Low (N : Nat) (w0 : World) : World → Prop := fun W => Below N w0 W

section
variable {P : Program} {ops : Array Oper} {Q : Exit → Act → World → Prop} {md : Region.Mode} {w0 : World} {N : Nat}

end
end
section
theorem enc_dec (rest : List Int) : ∀ (f n i acc : Nat), i + f = 9 → n * 2 ^ (7 * i) < 2 ^ 64 → (0 < i → n ≠ 0) → dec acc i (encF f n ++ rest) = .ok (acc + n * 2 ^ (7 * i)) (i + (encF f n).length)
 | 0, n, i, acc, hi, hb, hz => by
   obtain rfl : i = 9 := by omega
   have hn : n ≤ 1 := by omega
   have h0 := hz (by omega)
   obtain rfl : n = 1 := by omega
   simp [encF, dec]
 | f + 1, n, i, acc, hi, hb, hz => by
   unfold encF
   by_cases h : n < 128
   · rw [if_pos h]
     have hc : ¬ ((i = 9 ∧ (1 : Int) < (n : Int)) ∨ (0 < i ∧ (n : Int) = 0)) := by omega
     simp only [List.cons_append, List.nil_append, dec]
     rw [if_neg hc, if_pos (by omega)]
     rw [show ((n : Int) % 128).toNat = n by omega]
     simp
   · rw [if_neg h]
     have hc : ¬ ((i = 9 ∧ (1 : Int) < ((n % 128 + 128 : Nat) : Int)) ∨ (0 < i ∧ ((n % 128 + 128 : Nat) : Int) = 0)) := by omega
     simp only [List.cons_append, dec]
     rw [if_neg hc, if_neg (by omega)]
     have hpow : (2 : Nat) ^ (7 * (i + 1)) = 128 * 2 ^ (7 * i) := by rw [show 7 * (i + 1) = 7 + 7 * i by omega, Nat.pow_add]
     have hdm : 128 * (n / 128) + n % 128 = n := Nat.div_add_mod n 128
     have hmul : n / 128 * 2 ^ (7 * (i + 1)) = 128 * (n / 128) * 2 ^ (7 * i) := by rw [hpow]; ac_rfl
     have hle : 128 * (n / 128) * 2 ^ (7 * i) ≤ n * 2 ^ (7 * i) := Nat.mul_le_mul_right _ (by omega)
     rw [enc_dec rest f (n / 128) (i + 1) _ (by omega) (by omega) (by omega)]
     rw [show (((n % 128 + 128 : Nat) : Int) % 128).toNat = n % 128 by omega, hmul]
     have hsum : n * 2 ^ (7 * i) = 128 * (n / 128) * 2 ^ (7 * i) + n % 128 * 2 ^ (7 * i) := by rw [← Nat.add_mul, hdm]
     rw [hsum]
     simp
     constructor <;> omega
theorem dec_enc (x : Int) (h0 : 0 ≤ x) (h1 : x ≤ 18446744073709551615) (rest : List Int) : dec 0 0 (enc x ++ rest) = .ok x.toNat (enc x).length := by
 have := enc_dec rest 9 x.toNat 0 0 (by omega) (by simp; omega) (by omega)
 simpa [enc] using this
theorem enc_bytes (x : Int) (h1 : x ≤ 18446744073709551615) : ∀ b ∈ enc x, 0 ≤ b ∧ b ≤ 255 := by
 have : ∀ (f n : Nat), n < 128 ^ (f + 1) → ∀ b ∈ encF f n, 0 ≤ b ∧ b ≤ 255 := by
   intro f
   induction f with
   | zero => intro n hn b hb; simp [encF] at hb hn; omega
   | succ f ih =>
     intro n hn b hb
     unfold encF at hb
     split at hb
     · simp at hb; omega
     · rcases List.mem_cons.1 hb with rfl | hb
       · omega
       · refine ih (n / 128) ?_ b hb
         rw [Nat.pow_succ] at hn
         exact Nat.div_lt_of_lt_mul (by rw [Nat.mul_comm]; exact hn)
 refine this 9 x.toNat ?_
 have : (128 : Nat) ^ 10 = 1180591620717411303424 := by decide
 omega
theorem numR_bad (bs : List Int) (e most : Int) (h : e ≠ 0) : numR bs e most = (0, bs, e) := by rw [numR, if_neg h]
theorem IsNums.drew {k : IntKind} {w : World} {v : Value} {zs : List Int} (h : IsNums k w v zs) : IsNums k w.drew v zs := h.below (Below.refl w.heap.size w).drew (Nat.le_refl _)
theorem conv_at {w W : World} {v : Value} {bs : List Int} (h : IsNums .u8 w v bs) (hW : Below w.heap.size w W) : (convert 26 9 v).run Tryd.prog W = .ok (.string (strOfNums bs)) W :=
 conv_str (h.below hW (Nat.le_refl _)) 26 5 Tryd.underlying26 Tryd.underlying5 9 Tryd.underlying9
theorem IsLists.nil (w : World) (a : Option Addr) (c : Nat) : IsLists w (.slice a 0 c) [] := ⟨a, c, rfl, .inl rfl⟩
theorem IsNums.after {k : IntKind} {w w' : World} {v : Value} {zs : List Int} {o : Obj} (h : IsNums k w v zs) (hb : Below (w.alloc o).heap.size (w.alloc o) w') : IsNums k w' v zs := (h.alloc o).below hb (Nat.le_refl _)
theorem str_beq {a b : List Int} (ha : ∀ x ∈ a, 0 ≤ x ∧ x ≤ 255) (hb : ∀ x ∈ b, 0 ≤ x ∧ x ≤ 255) : ((strOfNums a).toList == (strOfNums b).toList) = decide (a = b) := by
 rw [Bool.eq_iff_iff]
 simp only [beq_iff_eq, decide_eq_true_eq]
 constructor
 · intro h
   refine str_inj ha hb (bytes_inj ?_)
   rw [← ByteArray.toList_eq, ← ByteArray.toList_eq]
   exact h
 · rintro rfl; rfl
set_option maxRecDepth 100000 in
theorem equal_any (w : World) (u v : Value) (xs ys : List Int) (hu : IsNums .u8 w u xs) (hv : IsNums .u8 w v ys) (hx : ∀ x ∈ xs, 0 ≤ x ∧ x ≤ 255) (hy : ∀ x ∈ ys, 0 ≤ x ∧ x ≤ 255) :
   Calls Tryd.prog 19 #[u, v] w fun e w' => e = .returned (.bool (decide (xs = ys))) ∧ w' = w := by
 obtain ⟨p1, c1, rfl, -⟩ := id hu
 obtain ⟨p2, c2, rfl, -⟩ := id hv
 have h1 := conv_str (P := Tryd.prog) hu 26 5 Tryd.underlying26 Tryd.underlying5 9 Tryd.underlying9
 have h2 := conv_str (P := Tryd.prog) hv 26 5 Tryd.underlying26 Tryd.underlying5 9 Tryd.underlying9
 have HD := Lib.hid (str_beq hx hy)
 clear hu hv hx hy
 go_enter Tryd.func19, Tryd.ntmps19
 go_wp2
 go_ret
 exact ⟨ret_bool HD.out, rfl⟩
end
section
def Keep (bad : Nat → Prop) (w W : World) : Prop := W.os = w.os ∧ W.tape = w.tape ∧ W.output = w.output ∧ w.heap.size ≤ W.heap.size ∧ ∀ k, k < w.heap.size → ¬ bad k → W.heap[k]? = w.heap[k]?
theorem Keep.refl (bad : Nat → Prop) (w : World) : Keep bad w w := ⟨rfl, rfl, rfl, Nat.le_refl _, fun _ _ _ => rfl⟩
theorem Keep.trans {bad : Nat → Prop} {a b c : World} (h : Keep bad a b) (k : Keep bad b c) : Keep bad a c :=
 ⟨k.1.trans h.1, k.2.1.trans h.2.1, k.2.2.1.trans h.2.2.1, Nat.le_trans h.2.2.2.1 k.2.2.2.1, fun i hi hn => (k.2.2.2.2 i (Nat.lt_of_lt_of_le hi h.2.2.2.1) hn).trans (h.2.2.2.2 i hi hn)⟩
theorem Keep.mono {bad bad' : Nat → Prop} {w W : World} (h : Keep bad' w W) (hb : ∀ k, bad' k → bad k) : Keep bad w W := ⟨h.1, h.2.1, h.2.2.1, h.2.2.2.1, fun i hi hn => h.2.2.2.2 i hi (fun hb' => hn (hb i hb'))⟩
theorem Keep.ofBelow {bad : Nat → Prop} {w W : World} (h : Below w.heap.size w W) : Keep bad w W := ⟨h.os, h.tape, h.output, h.size, fun k hk _ => h.block k hk⟩
theorem Keep.below {bad : Nat → Prop} {N : Nat} {w W : World} (h : Keep bad w W) (hb : ∀ k, bad k → N ≤ k) (hN : N ≤ w.heap.size) : Below N w W :=
 ⟨h.1, h.2.1, h.2.2.1, h.2.2.2.1, fun k hk => h.2.2.2.2 k (by omega) (fun hbk => by have := hb k hbk; omega)⟩
theorem Keep.cell {bad : Nat → Prop} {w W : World} (h : Keep bad w W) {p : Addr} (hn : ¬ bad p.block) (hp : p.block < w.heap.size) : W.cell? p = w.cell? p := World.cell?_of_block (w := w) (h.2.2.2.2 p.block hp hn)
theorem Keep.frozen {bad : Nat → Prop} {w W : World} (h : Keep bad w W) {p : Addr} (hn : ¬ bad p.block) (hp : p.block < w.heap.size) : W.frozen? p = w.frozen? p := World.frozen?_of_block (w := w) (h.2.2.2.2 p.block hp hn)
theorem Keep.size {bad : Nat → Prop} {w W : World} (h : Keep bad w W) : w.heap.size ≤ W.heap.size := h.2.2.2.1

section
variable {P : Program} {ops : Array Oper} {Q : Exit → Act → World → Prop} {md : Region.Mode} {w0 : World} {bad : Nat → Prop}

end
end
section
/-! ### Lists of parts of one length -/
theorem parts_len {α : Type} (f : α → List Value) (k : Nat) : ∀ (l : List α), (∀ s ∈ l, (f s).length = k) → (l.flatMap f).length = l.length * k
 | [], _ => by simp
 | a :: l, h => by
   rw [List.flatMap_cons, List.length_append, h a (by simp), parts_len f k l (fun s hs => h s (by simp [hs])), List.length_cons, Nat.add_mul]
   omega
/-! ### Bytes as cells -/
def B8 (s : List Int) : List Value := s.map (Value.int .u8)
def flat (ss : List (List Int)) : List Value := ss.flatMap B8
/-! ### A block that is known whole -/
def Blk (w : World) (g : Nat) (e : TypeId) (cs : List Value) : Prop := w.heap[g]? = some (.cells cs.toArray e (0, 0))
theorem Blk.lt {w : World} {g : Nat} {e : TypeId} {cs : List Value} (h : Blk w g e cs) : g < w.heap.size := (Array.getElem?_eq_some_iff.1 h).1
theorem Blk.cell {w : World} {g : Nat} {e : TypeId} {cs : List Value} (h : Blk w g e cs) (j : Nat) : w.cell? ⟨g, j, none⟩ = cs[j]? := by
 rw [cell_of_row w g j _ e (0, 0) h]; simp
theorem Blk.free {w : World} {g : Nat} {e : TypeId} {cs : List Value} (h : Blk w g e cs) (j : Nat) : w.frozen? ⟨g, j, none⟩ = false := frozen_of_row w g j _ e h
theorem Blk.keep {bad : Nat → Prop} {w W : World} {g : Nat} {e : TypeId} {cs : List Value} (h : Blk w g e cs) (hk : Keep bad w W) (hb : ¬ bad g) : Blk W g e cs := (hk.2.2.2.2 g h.lt hb).trans h
theorem Blk.below {N : Nat} {w W : World} {g : Nat} {e : TypeId} {cs : List Value} (h : Blk w g e cs) (hk : Below N w W) (hb : g < N) : Blk W g e cs := (hk.block g hb).trans h
theorem Blk.alloc (w : World) (e : TypeId) (cs : Array Value) : Blk (w.alloc (.cells cs e)) w.heap.size e cs.toList := by
 unfold Blk; rw [Array.toArray_toList]; exact heap_alloc_new w _
theorem Blk.range {w : World} {g : Nat} {e : TypeId} {cs : List Value} (h : Blk w g e cs) (o : Nat) (xs : List Value) (hx : ∀ j, j < xs.length → cs[o + j]? = xs[j]?) : w.rangeAt g o xs := fun j v hv => by
 have hj : j < xs.length := (List.getElem?_eq_some_iff.1 hv).1
 rw [h.cell, hx j hj, hv]
theorem Blk.nums {w : World} {g : Nat} {e : TypeId} {cs : List Value} (h : Blk w g e cs) (o c : Nat) (s : List Int) (n : Nat) (hn : n = s.length) (hx : ∀ j, j < s.length → cs[o + j]? = (B8 s)[j]?) : IsNums .u8 w (.slice (some ⟨g, o, none⟩) n c) s := by
 subst hn
 refine ⟨_, c, rfl, .inr ⟨g, o, rfl, h.lt, fun j hj => ?_⟩⟩
 rw [h.cell, hx j hj]
 simp [B8, hj, List.getD]
theorem Keep.setRow {bad : Nat → Prop} {w : World} {g : Nat} (hb : bad g) (cs : Array Value) : Keep bad w (w.setRow g cs) :=
 ⟨rfl, rfl, rfl, by simp [World.setRow], fun k hk hn => setRow_other w g k cs (fun e => hn (by rw [e]; exact hb))⟩
theorem Keep.setCell {bad : Nat → Prop} {w : World} {a : Addr} (hb : bad a.block) (v : Value) : Keep bad w (w.setCell a v) :=
 ⟨rfl, rfl, rfl, by simp [World.setCell], fun k hk hn => Below.heap_setCell w a v k (fun e => hn (by rw [e]; exact hb))⟩
theorem Keep.alloc (bad : Nat → Prop) (w : World) (o : Obj) : Keep bad w (w.alloc o) := Keep.ofBelow ((Below.refl _ w).alloc (Nat.le_refl _) o)
theorem Blk.setCell {w : World} {g : Nat} {e : TypeId} {cs : List Value} (h : Blk w g e cs) (j : Nat) (v : Value) : Blk (w.setCell ⟨g, j, none⟩ v) g e (cs.set j v) := by
 unfold Blk
 rw [setCell_eq_setRow w g j _ e (0, 0) v h, setRow_heap w g _ _ e _ h]
 simp

theorem run_storeVar_blk {P : Program} {w : World} {g : Nat} {e : TypeId} {cs : List Value} (h : Blk w g e cs) (o : Nat) (ty : TypeId) (xs : List Value) (hfit : o + xs.length ≤ cs.length)
   (hi : (P.info? ty).map (·.size) = some xs.length) (h1 : ∀ v ∈ xs, v.oneCell' = true) :
   ∃ w', (Instr.storeAt ty (.pointer (some ⟨g, o, none⟩)) (.agg xs.toArray)).run P w = .ok () w' ∧ Blk w' g e (cs.take o ++ xs ++ cs.drop (o + xs.length)) ∧ ∀ bad : Nat → Prop, bad g → Keep bad w w' := by
 have hst := run_storeCells_at P g o e xs 0 cs.toArray w h (by simpa using hfit) h1
 cases hq : P.info? ty with
 | none => simp [hq] at hi
 | some i =>
   have hs : xs.length = i.size := by simp [hq] at hi; omega
   refine ⟨w.setRow g (cs.take o ++ xs ++ cs.drop (o + xs.length)).toArray, ?_, ?_, fun bad hb => Keep.setRow hb _⟩
   · rw [Nat.add_zero] at hst
     have hst' : (storeCells ⟨g, o, none⟩ xs 0).run P w = .ok () (w.setRow g (cs.take o ++ xs ++ cs.drop (o + xs.length)).toArray) := by rw [hst]
     simp only [Instr.storeAt, Instr.sureAddr, Sem.run_bind, Sem.run_pure, Result.andThen_ok]
     simp [storeVar, sizeOf, typeInfo, hq, Value.cells, ← hs, hst']
   · unfold Blk
     rw [setRow_heap w g _ _ e _ h]

/-! ### What a literal of a struct lays -/
def NumsOff (bad : Nat → Prop) (w : World) (v : Value) (zs : List Int) : Prop :=
 ∃ a c, v = .slice a zs.length c ∧ (zs.length = 0 ∨ ∃ b off, a = some ⟨b, off, none⟩ ∧ b < w.heap.size ∧ ¬ bad b ∧ ∀ j, j < zs.length → w.cell? ⟨b, off + j, none⟩ = some (.int .u8 (zs.getD j 0)))
theorem NumsOff.nums {bad : Nat → Prop} {w : World} {v : Value} {zs : List Int} (h : NumsOff bad w v zs) : IsNums .u8 w v zs := by
 obtain ⟨a, c, rfl, h | ⟨b, off, rfl, h1, h2, h3⟩⟩ := h
 · exact ⟨a, c, rfl, .inl h⟩
 · exact ⟨_, c, rfl, .inr ⟨b, off, rfl, h1, h3⟩⟩
theorem NumsOff.keep {bad bad' : Nat → Prop} {w W : World} {v : Value} {zs : List Int} (h : NumsOff bad w v zs) (hk : Keep bad' w W) (hb : ∀ k, bad' k → bad k) : NumsOff bad W v zs := by
 obtain ⟨a, c, rfl, h | ⟨b, off, rfl, h1, h2, h3⟩⟩ := h
 · exact ⟨a, c, rfl, .inl h⟩
 · exact ⟨_, c, rfl, .inr ⟨b, off, rfl, Nat.lt_of_lt_of_le h1 hk.size, h2, fun j hj => by rw [hk.cell (fun hh => h2 (hb _ hh)) h1]; exact h3 j hj⟩⟩
theorem NumsOff.mono {bad bad' : Nat → Prop} {w : World} {v : Value} {zs : List Int} (h : NumsOff bad w v zs) (hb : ∀ k, k < w.heap.size → bad' k → bad k) : NumsOff bad' w v zs := by
 obtain ⟨a, c, rfl, h | ⟨b, off, rfl, h1, h2, h3⟩⟩ := h
 · exact ⟨a, c, rfl, .inl h⟩
 · exact ⟨_, c, rfl, .inr ⟨b, off, rfl, h1, fun hh => h2 (hb _ h1 hh), h3⟩⟩
theorem NumsOff.nil (bad : Nat → Prop) (w : World) (a : Option Addr) (c : Nat) : NumsOff bad w (.slice a 0 c) [] := ⟨a, c, rfl, .inl rfl⟩
theorem NumsOff.of {bad : Nat → Prop} {w : World} {v : Value} {zs : List Int} (h : IsNums .u8 w v zs) (hb : ∀ k, k < w.heap.size → ¬ bad k) : NumsOff bad w v zs := by
 obtain ⟨a, c, rfl, h | ⟨b, off, rfl, h1, h3⟩⟩ := h
 · exact ⟨a, c, rfl, .inl h⟩
 · exact ⟨_, c, rfl, .inr ⟨b, off, rfl, h1, hb b h1, h3⟩⟩
theorem NumsOff.below {bad : Nat → Prop} {N : Nat} {w W : World} {v : Value} {zs : List Int} (h : IsNums .u8 w v zs) (hW : Below w.heap.size w W) (hb : ∀ k, bad k → w.heap.size ≤ k) : NumsOff bad W v zs := by
 obtain ⟨a, c, rfl, h | ⟨b, off, rfl, h1, h3⟩⟩ := h
 · exact ⟨a, c, rfl, .inl h⟩
 · exact ⟨_, c, rfl, .inr ⟨b, off, rfl, Nat.lt_of_lt_of_le h1 hW.size, fun hh => by have := hb b hh; omega, fun j hj => by rw [hW.cell h1]; exact h3 j hj⟩⟩

section
variable {P : Program} {ops : Array Oper} {rest : List Oper} {op : Oper} {a : Act} {w : World} {Q : Exit → Act → World → Prop} {K : Act → World → Prop}

end
end
section
section
variable {P : Program} {ops : Array Oper} {Q : Exit → Act → World → Prop} {md : Region.Mode} {S : World → Prop} {e : Nat}

def Closed (md : Region.Mode) (ops : Array Oper) (L : Array Bool) : Prop :=
 L.size = ops.size ∧ ∀ j oj, ops[j]? = some oj → L.getD j false = true → ∀ ed ∈ oj.after, Region.binds md ed = true → L.getD ed.on false = true
def closedB (md : Region.Mode) (ops : Array Oper) (L : Array Bool) : Bool :=
 decide (L.size = ops.size) && (List.range ops.size).all fun j => !(L.getD j false) || match ops[j]? with
   | some oj => oj.after.all fun ed => !(Region.binds md ed) || L.getD ed.on false
   | none => true
theorem closedB_spec {L : Array Bool} (h : closedB md ops L = true) : Closed md ops L := by
 unfold closedB at h
 simp only [Bool.and_eq_true, decide_eq_true_eq] at h
 refine ⟨h.1, fun j oj hj hl ed hed hb => ?_⟩
 have hjs : j < ops.size := (Array.getElem?_eq_some_iff.1 hj).1
 have h1 := List.all_eq_true.1 h.2 j (List.mem_range.2 hjs)
 rw [hl, hj] at h1
 simp only [Bool.not_true, Bool.false_or] at h1
 have h2 := (Array.all_eq_true_iff_forall_mem.1 h1) ed hed
 rw [hb] at h2
 simpa using h2
theorem Closed.set {L : Array Bool} (hc : Closed md ops L) {j : Nat} (hj : j ∈ Region.ready md ops L) : Closed md ops (L.setIfInBounds j true) := by
 obtain ⟨_, oi, hoi, hall⟩ := mem_ready.1 hj
 refine ⟨by simp [hc.1], fun k ok hk hl ed hed hb => ?_⟩
 by_cases hjk : j = k
 · subst hjk
   have : ok = oi := Option.some.inj (hk.symm.trans hoi)
   subst this
   exact getD_set_true (hall ed hed hb)
 · rw [getD_set_ne false hjk] at hl
   exact getD_set_true (hc.2 k ok hk hl ed hed hb)
def reach (md : Region.Mode) (ops : Array Oper) : Nat → Nat → Nat → Bool
 | 0, k, i => k == i
 | f + 1, k, i => k == i || match ops[k]? with
   | some o => o.after.any fun ed => Region.binds md ed && reach md ops f ed.on i
   | none => false
def wpAnyE (P : Program) (md : Region.Mode) (ops : Array Oper) (Q : Exit → Act → World → Prop) (e : Nat) (S : World → Prop) : Nat → Array Bool → Act → World → Prop
 | 0, listed, a, w => Region.ready md ops listed = [] ∧ Q .normal a w
 | fuel + 1, listed, a, w =>
   (Region.ready md ops listed = [] → Q .normal a w) ∧
   ∀ i ∈ Region.ready md ops listed, wpOp P ops Q i (fun a' w' => ((listed.setIfInBounds i true).getD e false = false → S w') ∧ wpAnyE P md ops Q e S fuel (listed.setIfInBounds i true) a' w') a w
theorem wpAny_of_stage : ∀ (fuel : Nat) (listed : Array Bool) (a : Act) (w : World), wpAnyE P md ops Q e S fuel listed a w → wpAny P md ops Q fuel listed a w
 | 0, _, _, _, h => h
 | fuel + 1, _, _, _, h => ⟨h.1, fun i hi => wpOp_mono (fun a' w' h' => wpAny_of_stage fuel _ a' w' h'.2) (h.2 i hi)⟩

theorem wpAnyE_any {i : Nat} {oi : Oper} {v : Value} (hi : ops[i]? = some oi) (hsel : ∀ (j : Nat) (o : Oper) cs b, ops[j]? = some o → o.op ≠ .select cs b)
   (hQ : ∀ c a w, Q (.panic c) (a.put oi.dst v) w → Q (.panic c) a w) (hei : i ≠ e) :
   ∀ (fuel : Nat) (listed : Array Bool) (a : Act) (w : World),
     (∀ j oj, ops[j]? = some oj → j ≠ i → listed.getD j true = false → (∀ ed ∈ oj.after, Region.binds md ed = true → ed.on ≠ i) → oi.apart ops oj = true) →
     i ∈ Region.ready md ops listed → YieldsIf P ops (fun _ => True) oi v a → (listed.getD e false = false → S w) →
     wpAnyE P md ops Q e S fuel (listed.setIfInBounds i true) (a.put oi.dst v) w → wpAnyE P md ops Q e S (fuel + 1) listed a w := by
 intro fuel
 induction fuel with
 | zero =>
   intro listed a w _ hr hy hS H
   refine ⟨fun h => (by rw [h] at hr; cases hr), fun j hj => ?_⟩
   by_cases hji : j = i
   · subst hji; exact hy.wpOp hi trivial ⟨fun h => hS (by rwa [getD_set_ne false hei] at h), H⟩
   · have := ready_mono hj hji
     rw [H.1] at this
     cases this
 | succ fuel ih =>
   intro listed a w hfree hr hy hS H
   refine ⟨fun h => (by rw [h] at hr; cases hr), fun j hj => ?_⟩
   by_cases hji : j = i
   · subst hji; exact hy.wpOp hi trivial ⟨fun h => hS (by rwa [getD_set_ne false hei] at h), H⟩
   · have h1 := H.2 j (ready_mono hj hji)
     obtain ⟨hjun, oj, hoj, hall⟩ := mem_ready.1 hj
     have hnot : ∀ ed ∈ oj.after, Region.binds md ed = true → ed.on ≠ i := fun ed he hb heq => by
       have h1 := hall ed he hb
       have h0 := (mem_ready.1 hr).1
       rw [heq, getD_both h0] at h1
       cases h1
     have h2 := wpOp_putIf hoj (hfree j oj hoj hji hjun hnot) (fun cs b => hsel i oi cs b hi) (fun cs b => hsel j oj cs b hoj) hQ hy h1
     have hfree' : ∀ k ok, ops[k]? = some ok → k ≠ i → (listed.setIfInBounds j true).getD k true = false →
         (∀ ed ∈ ok.after, Region.binds md ed = true → ed.on ≠ i) → oi.apart ops ok = true := fun k ok hk hki hun hno => by
       refine hfree k ok hk hki ?_ hno
       by_cases hjk : j = k
       · subst hjk; exact hjun
       · rw [getD_set_ne true hjk] at hun; exact hun
     refine wpOp_mono (fun a' w' h3 => ?_) h2
     have hS' : (listed.setIfInBounds j true).getD e false = false → S w' := fun hq => h3.2.1 (by rw [Array.setIfInBounds_comm _ _ (Ne.symm hji), getD_set_ne false hei]; exact hq)
     refine ⟨hS', ih (listed.setIfInBounds j true) a' w' hfree' (ready_mono hr (Ne.symm hji)) h3.1 hS' ?_⟩
     rw [Array.setIfInBounds_comm _ _ hji]
     exact h3.2.2

theorem stepE_any (i : Nat) (d : Option Tmp) {oi : Oper} {v : Value} {fuel : Nat} {listed : Array Bool} {a : Act} {w : World} (hS : listed.getD e false = false → S w) (hi : ops[i]? = some oi) (hd : oi.dst = d)
   (hs : Region.noSelect ops = true) (hf : Region.free md ops listed i = true) (hr : (Region.ready md ops listed).contains i = true) (hei : decide (i ≠ e) = true)
   (hQ : ∀ c a w, Q (.panic c) (a.put d v) w → Q (.panic c) a w) (hw : Region.wanted oi (yielded ops a.tmps) = true)
   (hy : ∀ W, (execOp a.eval oi).run P W = .ok (.value v) W)
   (h : wpAnyE P md ops Q e S fuel (listed.setIfInBounds i true) (a.put d v) w) : wpAnyE P md ops Q e S (fuel + 1) listed a w := by
 subst hd
 exact wpAnyE_any hi (Region.noSelect_spec hs) hQ (of_decide_eq_true hei) fuel listed a w (Region.free_spec hi hf) (by simpa using hr) (.inl ⟨hw, fun W _ => hy W⟩) hS h
theorem stepE_skip (i : Nat) (d : Option Tmp) {oi : Oper} {fuel : Nat} {listed : Array Bool} {a : Act} {w : World} (hS : listed.getD e false = false → S w) (hi : ops[i]? = some oi) (hd : oi.dst = d)
   (hs : Region.noSelect ops = true) (hf : Region.free md ops listed i = true) (hr : (Region.ready md ops listed).contains i = true) (hei : decide (i ≠ e) = true)
   (hQ : ∀ c a w, Q (.panic c) (a.put d undef) w → Q (.panic c) a w) (hw : Region.wanted oi (yielded ops a.tmps) = false)
   (h : wpAnyE P md ops Q e S fuel (listed.setIfInBounds i true) (a.put d undef) w) : wpAnyE P md ops Q e S (fuel + 1) listed a w := by
 subst hd
 exact wpAnyE_any hi (Region.noSelect_spec hs) hQ (of_decide_eq_true hei) fuel listed a w (Region.free_spec hi hf) (by simpa using hr) (.inr ⟨hw, rfl⟩) hS h
theorem stepE_only (i : Nat) {o : Oper} {fuel : Nat} {listed : Array Bool} {a : Act} {w : World} (hi : ops[i]? = some o) (hr : Region.ready md ops listed = [i])
   (hw : Region.wanted o (yielded ops a.tmps) = true)
   (h : ∀ K' : Act → World → Prop, (∀ a' w', S w' → wpAnyE P md ops Q e S fuel (listed.setIfInBounds i true) a' w' → K' a' w') → Oper.wp P o a w K' Q) :
   wpAnyE P md ops Q e S (fuel + 1) listed a w := by
 refine ⟨fun h0 => absurd (hr ▸ h0) (by simp), fun j hj => ?_⟩
 rw [hr] at hj
 obtain rfl : j = i := by simpa using hj
 refine wpOp_step hi (fun K' hK => ?_)
 rw [if_pos hw]
 exact h K' (fun a' w' hb hn => hK a' w' ⟨fun _ => hb, hn⟩)
theorem stepE_end (i : Nat) {o : Oper} {fuel : Nat} {listed : Array Bool} {a : Act} {w : World} (hi : ops[i]? = some o) (hr : Region.ready md ops listed = [i])
   (hw : Region.wanted o (yielded ops a.tmps) = true) (hl : (listed.setIfInBounds i true).getD e false = true)
   (h : ∀ K' : Act → World → Prop, (∀ a' w', wpAnyE P md ops Q e S fuel (listed.setIfInBounds i true) a' w' → K' a' w') → Oper.wp P o a w K' Q) :
   wpAnyE P md ops Q e S (fuel + 1) listed a w := by
 refine ⟨fun h0 => absurd (hr ▸ h0) (by simp), fun j hj => ?_⟩
 rw [hr] at hj
 obtain rfl : j = i := by simpa using hj
 refine wpOp_step hi (fun K' hK => ?_)
 rw [if_pos hw]
 exact h K' (fun a' w' hn => hK a' w' ⟨(fun hf => by rw [hl] at hf; cases hf), hn⟩)
theorem wpAnyE_done {listed : Array Bool} {a : Act} {w : World} (hr : Region.ready md ops listed = []) (h : Q .normal a w) : ∀ fuel, wpAnyE P md ops Q e S fuel listed a w
 | 0 => ⟨hr, h⟩
 | _ + 1 => ⟨fun _ => h, by rw [hr]; simp⟩
theorem regionE_begin (e : Nat) (S : World → Prop) {id : Nat} {a : Act} {w : World} (hm : P.follows .mixedOrders = true)
   (h : wpAnyE P .any ops Q e S ops.size (Array.replicate ops.size false) a w.drew) : (Code.region id ops true).wp P Q a w :=
 wp_region_any hm (wpAny_of_stage _ _ _ _ h)
end
end
section
theorem Keep.trans' {bad bad' : Nat → Prop} {a b c : World} (h : Keep bad a b) (k : Keep bad' b c) (hb : ∀ i, i < a.heap.size → bad' i → bad i) : Keep bad a c :=
 ⟨k.1.trans h.1, k.2.1.trans h.2.1, k.2.2.1.trans h.2.2.1, Nat.le_trans h.2.2.2.1 k.2.2.2.1, fun i hi hn => (k.2.2.2.2 i (Nat.lt_of_lt_of_le hi h.2.2.2.1) (fun hh => hn (hb i hi hh))).trans (h.2.2.2.2 i hi hn)⟩
theorem Keep.drew (bad : Nat → Prop) (w : World) : Keep bad w w.drew := ⟨rfl, rfl, rfl, Nat.le_refl _, fun _ _ _ => rfl⟩

theorem run_append_where {P : Program} (w : World) (base : Nat) (t ty e : TypeId) (z : Value) (size bytes : Nat) (ht : P.underlying t = some (.slice e)) (hinf : (P.info? e).map (fun i => (i.zero, i.size, i.bytes)) = some (some z, size, bytes))
   (hzs : z.cells.size = size) (hsz : 0 < size) (v : Value) (n : Nat) (xs : List Value) (hown : w.ownsRow base e size v n xs)
   (a : Addr) (m c : Nat) (news : List Value) (hl : news.length = m * size) (hnews : ∀ j u, news[j]? = some u → w.cell? (a.add j) = some u) (h1 : ∀ u ∈ news, u.oneCell' = true)
   (h63 : n + m ≤ maxLen) (hbytes : (n + m) * bytes ≤ 140737488355328) (hbase : base ≤ w.heap.size) :
   ∃ v' w', (Builtin.append_ #[t, t] ty #[v, .slice (some a) m c]).run P w = .ok v' w' ∧ w'.ownsRow base e size v' (n + m) (xs ++ news) ∧ w.grownBy w' v.ownBlock ∧ (v'.ownBlock = v.ownBlock ∨ v'.ownBlock = some w.heap.size) := by
 obtain ⟨i, hi, hz, hsize, hby⟩ := info_parts hinf
 obtain ⟨v', w', hr, h2, h3, h4⟩ := run_append_own (P := P) w base t ty e i z size bytes ht hi hz hsize hby hzs hsz v n xs hown a m c news hl hnews h1 h63 hbytes hbase
 refine ⟨v', w', hr, h2, h3, ?_⟩
 clear hinf
 subst hsize
 subst hby
 have hsmall : n + m ≤ 9223372036854775807 := by simp only [maxLen] at h63; omega
 rcases hown.2 with ⟨rfl, rfl⟩ | ⟨g, cap, cur, rfl, hbg, hg, hnc, hcm, hcs, htake⟩
 · by_cases hm : m = 0
   · subst hm
     have : v' = .slice none 0 0 := h4.2 ⟨rfl, rfl⟩
     subst this
     exact .inl rfl
   · have h5 := run_append_nil (P := P) w t ty e i z ht hi hz a m c news hl hnews (by omega) (by omega) (by have hb := hbytes; simp only [Nat.zero_add] at hb; omega)
     rw [h5] at hr
     injection hr with e1 e2
     subst e1
     exact .inr rfl
 · by_cases hroom : n + m ≤ cap
   · have hfit : n * i.size + news.length ≤ cur.size := by rw [hl, hcs, ← Nat.add_mul]; exact Nat.mul_le_mul_right _ hroom
     have h5 := run_append_room (P := P) w t ty e i ht hi g n cap cur hg a m c news hl hnews h1 hroom hfit
     rw [h5] at hr
     injection hr with e1 e2
     subst e1
     exact .inl rfl
   · have holds : ∀ j u, xs[j]? = some u → w.cell? ((⟨g, 0, none⟩ : Addr).add j) = some u := hown.cells (g := g) rfl
     have h5 := run_append_grow (P := P) w t ty e i z ht hi hz ⟨g, 0, none⟩ n cap xs hown.1 holds a m c news hl hnews (by omega) (by omega) (growslice_fits (by omega) hbytes)
     rw [h5] at hr
     injection hr with e1 e2
     subst e1
     exact .inr rfl

theorem ownsRow_shape {w : World} {base : Nat} {e : TypeId} {size : Nat} {v : Value} {n : Nat} {xs : List Value} (h : w.ownsRow base e size v n xs) : ∃ p c, v = .slice p n c := by
 rcases h.2 with ⟨rfl, rfl⟩ | ⟨g, cap, cur, rfl, _⟩
 · exact ⟨_, _, rfl⟩
 · exact ⟨_, _, rfl⟩
theorem exec_load {P : Program} {ev : Operand → Value} {o : Oper} {W : World} (ty : TypeId) (x : Operand) (ho : o.op = .load ty x) (b off : Nat) (hx : ev x = .pointer (some ⟨b, off, none⟩)) (cs : List Value) (td : TypeDesc) (hc : W.rangeAt b off cs)
   (hu : P.underlying ty = some td) (hd : td.isRow = true) (hi : (P.info? ty).map (·.size) = some cs.length) : (execOp ev o).run P W = .ok (.value (.agg cs.toArray)) W := by
 unfold execOp
 simp only [ho, hx, Instr.loadAt, Instr.sureAddr, Sem.run_bind, Sem.run_pure, Result.andThen_ok, run_loadVar_mid W b off ty cs td hc hu hd hi]

section
variable {P : Program} {ops : Array Oper} {rest : List Oper} {a : Act} {w : World} {Q : Exit → Act → World → Prop} {K : Act → World → Prop}
end
end
section
section
variable {P : Program} {ops : Array Oper} {Q : Exit → Act → World → Prop} {md : Region.Mode} {S : World → Prop} {e : Nat}

def waitSet (md : Region.Mode) (ops : Array Oper) : Nat → List Nat → List Nat
 | 0, s => s
 | n + 1, s => bif s.contains n then (match ops[n]? with
     | some o => waitSet md ops n ((o.after.toList.filter (fun ed => Region.binds md ed)).map (·.on) ++ s)
     | none => waitSet md ops n s) else waitSet md ops n s
theorem waitSet_listed {L : Array Bool} (hc : Closed md ops L) : ∀ (n : Nat) (s : List Nat), (∀ x ∈ s, L.getD x false = true) → ∀ x ∈ waitSet md ops n s, L.getD x false = true
 | 0, s, h => h
 | n + 1, s, h => by
   unfold waitSet
   cases hs : s.contains n with
   | false => exact waitSet_listed hc n s h
   | true =>
     cases ho : ops[n]? with
     | none => exact waitSet_listed hc n s h
     | some o =>
       refine waitSet_listed hc n _ (fun x hx => ?_)
       rcases List.mem_append.1 hx with hx | hx
       · obtain ⟨ed, hed, rfl⟩ := List.mem_map.1 hx
         obtain ⟨h1, h2⟩ := List.mem_filter.1 hed
         exact hc.2 n o ho (h n (by simpa using hs)) ed (by simpa using h1) h2
       · exact h x hx
def waits (md : Region.Mode) (ops : Array Oper) (e i : Nat) : Bool := (waitSet md ops ops.size [e]).contains i
theorem waits_listed {L : Array Bool} (hc : Closed md ops L) {i : Nat} (h : waits md ops e i = true) (hl : L.getD e false = true) : L.getD i false = true :=
 waitSet_listed hc ops.size [e] (fun x hx => by rw [List.mem_singleton.1 hx]; exact hl) i (by simpa [waits] using h)

theorem wpAnyE_firstW {i : Nat} {oi : Oper} {v : Value} (hi : ops[i]? = some oi) (hsel : ∀ (j : Nat) (o : Oper) cs b, ops[j]? = some o → o.op ≠ .select cs b)
   (hQ : ∀ c a w, Q (.panic c) (a.put oi.dst v) w → Q (.panic c) a w) (hreach : waits md ops e i = true) (hei : i ≠ e) :
   ∀ (fuel : Nat) (listed : Array Bool) (a : Act) (w : World), Closed md ops listed →
     (∀ j oj, ops[j]? = some oj → j ≠ i → listed.getD j true = false → (∀ ed ∈ oj.after, Region.binds md ed = true → ed.on ≠ i) → oi.apart ops oj = true) →
     i ∈ Region.ready md ops listed → YieldsIf P ops S oi v a → S w →
     wpAnyE P md ops Q e S fuel (listed.setIfInBounds i true) (a.put oi.dst v) w → wpAnyE P md ops Q e S (fuel + 1) listed a w := by
 intro fuel
 induction fuel with
 | zero =>
   intro listed a w hc _ hr hy hS H
   refine ⟨fun h => (by rw [h] at hr; cases hr), fun j hj => ?_⟩
   by_cases hji : j = i
   · subst hji; exact hy.wpOp hi hS ⟨fun _ => hS, H⟩
   · have := ready_mono hj hji
     rw [H.1] at this
     cases this
 | succ fuel ih =>
   intro listed a w hc hfree hr hy hS H
   refine ⟨fun h => (by rw [h] at hr; cases hr), fun j hj => ?_⟩
   by_cases hji : j = i
   · subst hji; exact hy.wpOp hi hS ⟨fun _ => hS, H⟩
   · have h1 := H.2 j (ready_mono hj hji)
     obtain ⟨hjun, oj, hoj, hall⟩ := mem_ready.1 hj
     have hnot : ∀ ed ∈ oj.after, Region.binds md ed = true → ed.on ≠ i := fun ed he hb heq => by
       have h1 := hall ed he hb
       have h0 := (mem_ready.1 hr).1
       rw [heq, getD_both h0] at h1
       cases h1
     have h2 := wpOp_putIf hoj (hfree j oj hoj hji hjun hnot) (fun cs b => hsel i oi cs b hi) (fun cs b => hsel j oj cs b hoj) hQ hy h1
     have hfree' : ∀ k ok, ops[k]? = some ok → k ≠ i → (listed.setIfInBounds j true).getD k true = false →
         (∀ ed ∈ ok.after, Region.binds md ed = true → ed.on ≠ i) → oi.apart ops ok = true := fun k ok hk hki hun hno => by
       refine hfree k ok hk hki ?_ hno
       by_cases hjk : j = k
       · subst hjk; exact hjun
       · rw [getD_set_ne true hjk] at hun; exact hun
     have hc' := hc.set hj
     have hr' := ready_mono hr (Ne.symm hji)
     have hen : (listed.setIfInBounds j true).getD e false = false := by
       cases hq : (listed.setIfInBounds j true).getD e false with
       | false => rfl
       | true =>
         have := waits_listed hc' hreach hq
         rw [getD_both (mem_ready.1 hr').1] at this
         cases this
     refine wpOp_mono (fun a' w' h3 => ?_) h2
     have hS' : S w' := h3.2.1 (by rw [Array.setIfInBounds_comm _ _ (Ne.symm hji), getD_set_ne false hei]; exact hen)
     refine ⟨fun _ => hS', ih (listed.setIfInBounds j true) a' w' hc' hfree' hr' h3.1 hS' ?_⟩
     rw [Array.setIfInBounds_comm _ _ hji]
     exact h3.2.2

theorem stepE_readW (i : Nat) (d : Option Tmp) {oi : Oper} {v : Value} {fuel : Nat} {listed : Array Bool} {a : Act} {w : World} (hS : S w) (hi : ops[i]? = some oi) (hd : oi.dst = d)
   (hs : Region.noSelect ops = true) (hf : Region.free md ops listed i = true) (hr : (Region.ready md ops listed).contains i = true)
   (hc : closedB md ops listed = true) (hre : (waits md ops e i && decide (i ≠ e)) = true)
   (hQ : ∀ c a w, Q (.panic c) (a.put d v) w → Q (.panic c) a w) (hw : Region.wanted oi (yielded ops a.tmps) = true)
   (hy : ∀ W, S W → (execOp a.eval oi).run P W = .ok (.value v) W)
   (h : wpAnyE P md ops Q e S fuel (listed.setIfInBounds i true) (a.put d v) w) : wpAnyE P md ops Q e S (fuel + 1) listed a w := by
 subst hd
 simp only [Bool.and_eq_true, decide_eq_true_eq] at hre
 exact wpAnyE_firstW hi (Region.noSelect_spec hs) hQ hre.1 hre.2 fuel listed a w (closedB_spec hc) (Region.free_spec hi hf) (by simpa using hr) (.inl ⟨hw, hy⟩) hS h
end
end
section
theorem own_keep {bad : Nat → Prop} {w W : World} {base : Nat} {e : TypeId} {size : Nat} {v : Value} {n : Nat} {xs : List Value} (h : w.ownsRow base e size v n xs) (hk : Keep bad w W) (hb : ∀ k, v.ownBlock = some k → ¬ bad k) : W.ownsRow base e size v n xs := by
 refine ⟨h.1, ?_⟩
 rcases h.2 with hn | ⟨g, cap, cur, rfl, hbg, hgg, rest⟩
 · exact .inl hn
 · refine .inr ⟨g, cap, cur, rfl, hbg, ?_, rest⟩
   rw [hk.2.2.2.2 g (Array.getElem?_eq_some_iff.1 hgg).1 (hb g rfl)]
   exact hgg
section
variable {P : Program} {a : Act} {w : World} {K : Act → World → Prop} {Q : Exit → Act → World → Prop}
end
theorem NumsOff.ofOwn {bad : Nat → Prop} {w : World} {base : Nat} {e : TypeId} {v : Value} {n : Nat} {zs : List Int} (h : w.ownsRow base e 1 v n (zs.map (Value.int .u8))) (hb : ∀ k, base ≤ k → k < w.heap.size → ¬ bad k) : NumsOff bad w v zs := by
 have hn : n = zs.length := by have := h.1; simpa using this.symm
 subst hn
 rcases h.2 with ⟨rfl, h0⟩ | ⟨g, cap, cur, rfl, hg, hbk, h1, h2, h3, h4⟩
 · obtain rfl := List.length_eq_zero_iff.1 h0; exact NumsOff.nil _ _ none 0
 · have hlt := (Array.getElem?_eq_some_iff.1 hbk).1
   refine ⟨_, cap, rfl, .inr ⟨g, 0, rfl, hlt, hb g hg hlt, fun j hj => ?_⟩⟩
   have := h.cellAt j (by omega)
   rw [Nat.zero_add, this]
   simp [hj, List.getD]
end
section
section
variable {P : Program} {ops : Array Oper} {rest : List Oper} {a : Act} {w : World} {Q : Exit → Act → World → Prop}
end
theorem Only.keep {B : Nat} {a b : World} (h : Only B a b) : Keep (fun k => k = B) a b := ⟨h.os, h.tape, h.output, h.size, fun i hi hn => h.block i hi (fun e => hn (show i = B from (by injection e)))⟩
end
section
theorem numR_err {bs : List Int} {er : Int} (most : Int) (h : dec 0 0 bs = .err er) : numR bs 0 most = (0, [], er) := by rw [numR, if_pos rfl, h]
theorem numR_val {bs : List Int} {n k : Nat} (most : Int) (h : dec 0 0 bs = .ok n k) : numR bs 0 most = if most < (n : Int) then (0, [], 22) else ((n : Int), bs.drop k, 0) := by rw [numR, if_pos rfl, h]
end
section
def tab : List Int := [0, 274646895, 549293790, 820201905, 1098587580, 1361435347, 1640403810, 1905808397, 2197175160, 2460548119, 2722870694, 2987750089, 3280807620, 3553878443, 3811616794, 4084100981]

def TabOk (w : World) : Prop := ∀ i, i < 16 → w.cell? ⟨0, i, none⟩ = some (.int .u32 (tab.getD i 0))

theorem TabOk.below {w w' : World} {B : Nat} (h : TabOk w) (hb : Below B w w') (h1 : 1 ≤ B) : TabOk w' := fun i hi => by
 rw [hb.cell (by show 0 < B; omega)]; exact h i hi

theorem range32 (op : BinOp) (x y : Int) : 0 ≤ bits op .u32 x y ∧ bits op .u32 x y < 4294967296 := by
 have h : ∀ n : Int, 0 ≤ IntKind.u32.wrap n ∧ IntKind.u32.wrap n < 4294967296 := fun n => by rw [IntKind.wrap_u32]; omega
 unfold bits
 split <;> first | exact h _ | (constructor <;> simp)

theorem u32_and15 (x : Int) (h₀ : 0 ≤ x) (h₁ : x < 4294967296) : bits .and .u32 x 15 = x % 16 := bits_mask .u32 32 (by decide) (fun n h0 h1 => by rw [IntKind.wrap_u32]; omega) 4 (by decide) x h₀ h₁

def nib (c : Int) : Int := bits .xor .u32 (c / 16) (tab.getD (bits .and .u32 c 15).toNat 0)
theorem nib_def (c : Int) : nib c = bits .xor .u32 (c / 16) (tab.getD (bits .and .u32 c 15).toNat 0) := rfl
def step (d x : Int) : Int := nib (nib (bits .xor .u32 d x))
def turn (c : Int) : Int := bits .xor .u32 IntKind.u32.max c
def moreC (c : Int) (bs : List Int) : Int := turn (bs.foldl step (turn c))

theorem fold_snoc (c : Int) (bs : List Int) (k : Nat) (h : k < bs.length) : (bs.take (k + 1)).foldl step c = step ((bs.take k).foldl step c) (bs.getD k 0) := by
 rw [List.take_succ_eq_append_getElem h, List.foldl_append, List.foldl_cons, List.foldl_nil]; simp only [List.getD, List.getElem?_eq_getElem h, Option.getD_some]

theorem TabOk.at {w : World} (h : TabOk w) (c : Int) (hc : 0 ≤ c ∧ c < 4294967296) : w.cell? ⟨0, (bits .and .u32 c 15).toNat, none⟩ = some (.int .u32 (tab.getD (bits .and .u32 c 15).toNat 0)) := by
 refine h _ ?_
 rw [u32_and15 c hc.1 hc.2]; omega

theorem and15_lt (c : Int) (hc : 0 ≤ c ∧ c < 4294967296) : 0 ≤ bits .and .u32 c 15 ∧ bits .and .u32 c 15 < 16 := by
 rw [u32_and15 c hc.1 hc.2]; omega

set_option maxRecDepth 100000 in
set_option maxHeartbeats 2000000 in
theorem more_any (c : Int) (v : Value) (bs : List Int) (w : World) (hc : 0 ≤ c ∧ c < 4294967296) (hT : TabOk w) (hv : IsNums .u8 w v bs) (hb : ∀ j, j < bs.length → 0 ≤ bs.getD j 0 ∧ bs.getD j 0 ≤ 255) (hl : bs.length ≤ 1000000) :
   Calls Tryd.prog 47 #[.int .u32 c, v] w fun e w' => e = .returned (.int .u32 (moreC c bs)) ∧ w' = w := by
 obtain ⟨p, cc, rfl, h⟩ := hv
 have H := Lib.hid h
 have HB := Lib.hid hb
 have HT := Lib.hid hT
 clear h hb hT
 have hr0 := range32 .xor IntKind.u32.max c
 go_enter Tryd.func47, Tryd.ntmps47
 go_wp2
 go_loop [0, 11] (fun s i => ∃ (k : Nat) (d : Int), k ≤ bs.length ∧ i = .int .i64 k ∧ s = .int .u32 d ∧ d = (bs.take k).foldl step (turn c) ∧ 0 ≤ d ∧ d < 4294967296) (fun _ i => bs.length - (intOf i).toNat)
 case atStart => exact ⟨0, _, Nat.zero_le _, rfl, rfl, rfl, hr0.1, hr0.2⟩
 case round =>
   obtain ⟨k, d, hk, rfl, rfl, hd, hd0, hd1⟩ := hrel
   have HD := Lib.hid hd
   clear hd
   by_cases hlt : k < bs.length
   · obtain h0 | ⟨b, off, rfl, hblk, hcell⟩ := H.out
     · omega
     have hcl : w.cell? ⟨b, off + k, none⟩ = some (.int .u8 (bs.getD k 0)) := hcell k hlt
     clear hcell
     obtain ⟨x0, x1⟩ := HB.out k hlt
     obtain ⟨x, hx⟩ : ∃ x, bs.getD k 0 = x := ⟨_, rfl⟩
     rw [hx] at hcl x0 x1
     have HX := Lib.hid hx
     clear hx
     have r1 := range32 .xor d x
     have t1 := HT.out.at _ r1
     obtain ⟨p1, q1⟩ := and15_lt _ r1
     have HN1 := Lib.hid (nib_def (bits .xor .u32 d x))
     obtain ⟨T1, hT1⟩ : ∃ T1, tab.getD (bits .and .u32 (bits .xor .u32 d x) 15).toNat 0 = T1 := ⟨_, rfl⟩
     rw [hT1] at t1 HN1
     have r2 := range32 .xor (bits .xor .u32 d x / 16) T1
     have t2 := HT.out.at _ r2
     obtain ⟨p2, q2⟩ := and15_lt _ r2
     have HN2 := Lib.hid (nib_def (bits .xor .u32 (bits .xor .u32 d x / 16) T1))
     obtain ⟨T2, hT2⟩ : ∃ T2, tab.getD (bits .and .u32 (bits .xor .u32 (bits .xor .u32 d x / 16) T1) 15).toNat 0 = T2 := ⟨_, rfl⟩
     rw [hT2] at t2 HN2
     clear hT1 hT2
     have r3 := range32 .xor (bits .xor .u32 (bits .xor .u32 d x / 16) T1 / 16) T2
     go_wp2
     go_round
     case rel =>
       refine ⟨k + 1, _, by omega, by go_num, rfl, ?_, r3.1, r3.2⟩
       rw [fold_snoc _ _ _ hlt, ← HD.out, HX.out]
       unfold step
       rw [HN1.out, HN2.out]
     case measure => simp [intOf]; omega
   · obtain rfl : k = bs.length := by omega
     rw [List.take_length] at HD
     go_wp2
     go_ret
     refine ⟨?_, rfl⟩
     rw [HD.out]
     rfl
end
section
def CLists (w : World) (v : Value) (ls : List (List Int)) : Prop :=
 ∃ a c, v = .slice a ls.length c ∧ (ls.length = 0 ∨ ∃ b off, a = some ⟨b, off, none⟩ ∧ b < w.heap.size ∧ ∀ j, j < ls.length → ∃ u, w.cell? ⟨b, off + j, none⟩ = some u ∧ IsNums .u8 w u (ls.getD j []))

def sumC (ls : List (List Int)) : Int := ls.foldl moreC 0

theorem sums_snoc (ls : List (List Int)) (k : Nat) (h : k < ls.length) : sumC (ls.take (k + 1)) = moreC (sumC (ls.take k)) (ls.getD k []) := by
 unfold sumC
 rw [List.take_succ_eq_append_getElem h, List.foldl_append, List.foldl_cons, List.foldl_nil]; simp only [List.getD, List.getElem?_eq_getElem h, Option.getD_some]
theorem moreC_range (c : Int) (bs : List Int) : 0 ≤ moreC c bs ∧ moreC c bs < 4294967296 := range32 .xor _ _
theorem sumC_range (ls : List (List Int)) : 0 ≤ sumC ls ∧ sumC ls < 4294967296 := by
 rcases List.eq_nil_or_concat ls with rfl | ⟨l, b, rfl⟩
 · decide
 · unfold sumC; rw [List.concat_eq_append, List.foldl_append, List.foldl_cons, List.foldl_nil]; exact moreC_range _ _

def Bytes (bs : List Int) : Prop := ∀ j, j < bs.length → 0 ≤ bs.getD j 0 ∧ bs.getD j 0 ≤ 255

set_option maxRecDepth 100000 in
set_option maxHeartbeats 2000000 in
theorem sum_any (v : Value) (ls : List (List Int)) (w : World) (hT : TabOk w) (hv : CLists w v ls) (hb : ∀ j, j < ls.length → Bytes (ls.getD j []) ∧ (ls.getD j []).length ≤ 1000000) (hl : ls.length ≤ 1000) :
   Calls Tryd.prog 32 #[v] w fun e w' => e = .returned (.int .u32 (sumC ls)) ∧ w' = w := by
 obtain ⟨p, cc, rfl, h⟩ := hv
 have H := Lib.hid h
 have HB := Lib.hid hb
 have HT := Lib.hid hT
 clear h hb hT
 go_enter Tryd.func32, Tryd.ntmps32
 go_wp2
 go_loop [3, 8] (fun s i => ∃ (k : Nat) (d : Int), k ≤ ls.length ∧ i = .int .i64 k ∧ s = .int .u32 d ∧ d = sumC (ls.take k)) (fun _ i => ls.length - (intOf i).toNat)
 case atStart => exact ⟨0, _, Nat.zero_le _, rfl, rfl, rfl⟩
 case round =>
   obtain ⟨k, d, hk, rfl, rfl, hd⟩ := hrel
   have hr : 0 ≤ d ∧ d < 4294967296 := by rw [hd]; exact sumC_range _
   have HD := Lib.hid hd
   clear hd
   by_cases hlt : k < ls.length
   · obtain h0 | ⟨b, off, rfl, hblk, hcell⟩ := H.out
     · omega
     obtain ⟨u, hc, hu⟩ := hcell k hlt
     have HU := Lib.hid hu
     obtain ⟨hy, hz⟩ := HB.out k hlt
     have HY := Lib.hid hy
     clear hcell hu hy
     go_wp2_with fail
     refine (more_any d u (ls.getD k []) w hr HT.out HU.out HY.out hz).mono ?_
     rintro e w1 ⟨rfl, rfl⟩
     go_wp2
     go_round
     case rel =>
       refine ⟨k + 1, _, by omega, by go_num, rfl, ?_⟩
       rw [sums_snoc _ _ hlt, HD.out]; simp [List.getD, hlt]
     case measure => simp [intOf]; omega
   · obtain rfl : k = ls.length := by omega
     rw [List.take_length] at HD
     go_wp2
     go_ret
     refine ⟨?_, rfl⟩
     rw [HD.out]
     rfl
end
section
def fourC (c : Int) : List Int := [c % 256, c / 256 % 256, c / 65536 % 256, c / 16777216 % 256]
theorem fourC_len (c : Int) : (fourC c).length = 4 := rfl
theorem fourC_bytes (c : Int) : Bytes (fourC c) := by
 intro j hj
 have hj4 : j < 4 := hj
 obtain rfl | rfl | rfl | rfl : j = 0 ∨ j = 1 ∨ j = 2 ∨ j = 3 := by omega
 all_goals simp [fourC]
 all_goals omega

def part (c : Int) (k : Nat) : List Value := ((fourC c).take k ++ List.replicate (4 - k) 0).map (Value.int .u8)

theorem part_next (c : Int) (N k : Nat) (w wr : World) (x : Int) (hN : w.heap.size = N) (hown : wr.ownsRow N 5 1 (.slice (some ⟨N, 0, none⟩) 4 4) 4 (part c k)) (hbel : Below N w wr) (hp : (part c k).set k (.int .u8 x) = part c (k + 1)) :
   (wr.setCell ⟨N, k, none⟩ (.int .u8 x)).ownsRow N 5 1 (.slice (some ⟨N, 0, none⟩) 4 4) 4 (part c (k + 1)) ∧ Below N w (wr.setCell ⟨N, k, none⟩ (.int .u8 x)) := by
 obtain ⟨h1, h2⟩ := hown.stored k (.int .u8 x)
 rw [hp] at h1
 exact ⟨h1, hbel.grown h2 (by have := hbel.size; omega) (fun j hj => by cases hj; omega)⟩

set_option maxRecDepth 100000 in
set_option maxHeartbeats 2000000 in
theorem four_any (c : Int) (w : World) (hc : 0 ≤ c ∧ c < 4294967296) :
   Calls Tryd.prog 31 #[.int .u32 c] w fun e w' => ∃ u, e = .returned u ∧ w'.ownsRow w.heap.size 5 1 u 4 ((fourC c).map (Value.int .u8)) ∧ Below w.heap.size w w' := by
 obtain ⟨i0, hi, hz0, hz1, hz2⟩ := info_parts info_u8
 obtain ⟨N, hN⟩ : ∃ N, w.heap.size = N := ⟨_, rfl⟩
 go_enter Tryd.func31, Tryd.ntmps31
 go_wp2_with (at_make; refine wpList_make_full _ rfl _ _ 26 rfl N 5 i0 (.int .u8 0) 1 Tryd.underlying26 hi hz0 hz1 _ _ _ _ 4 rfl rfl rfl rfl (by rw [hz2]; omega) (by unfold maxLen; omega) (by omega) ?_; intro w1 hown hgrow)
 rw [hN] at hown
 have hm : (madeCells (Value.int IntKind.u8 0).cells (4 * 1)).toList = part c 0 := by
   simp [madeCells, part, Value.cells]
   try rfl
 rw [hm] at hown
 go_loopw [8] (fun i wr => ∃ k : Nat, k ≤ 4 ∧ i = .int .i64 k ∧ wr.ownsRow N 5 1 (.slice (some ⟨N, 0, none⟩) 4 4) 4 (part c k) ∧ Below N w wr) (fun i _ => 4 - (intOf i).toNat)
 case atStart => exact ⟨0, by omega, rfl, hown, (Below.refl _ w).grown hgrow (by omega) (fun j hj => by cases hj)⟩
 case round =>
   obtain ⟨k, hk, rfl, hown, hbel⟩ := hrel
   by_cases hlt : k < 4
   · have hcell := hown.cellAt k (by omega)
     have hfz := hown.frozenAt k
     have hnext := fun x hp => part_next c N k w wr x hN hown hbel hp
     have H1 := Lib.hid hown
     have H2 := Lib.hid hnext
     clear hown hnext
     obtain rfl | rfl | rfl | rfl : k = 0 ∨ k = 1 ∨ k = 2 ∨ k = 3 := by omega
     · replace hcell : wr.cell? ⟨N, 0, none⟩ = some (.int .u8 0) := hcell
       go_wp2
       exact ⟨⟨1, by omega, rfl, H2.out _ rfl⟩, by decide⟩
     · replace hcell : wr.cell? ⟨N, 1, none⟩ = some (.int .u8 0) := hcell
       go_wp2
       exact ⟨⟨2, by omega, rfl, H2.out _ rfl⟩, by decide⟩
     · replace hcell : wr.cell? ⟨N, 2, none⟩ = some (.int .u8 0) := hcell
       go_wp2
       exact ⟨⟨3, by omega, rfl, H2.out _ rfl⟩, by decide⟩
     · have h5 : c / 16777216 % 256 = c / 16777216 := by omega
       have h6 : (part c 3).set 3 (.int .u8 (c / 16777216)) = part c (3 + 1) := by simp [part, fourC, h5]
       replace hcell : wr.cell? ⟨N, 3, none⟩ = some (.int .u8 0) := hcell
       go_wp2
       exact ⟨⟨4, by omega, rfl, H2.out _ h6⟩, by decide⟩
   · obtain rfl : k = 4 := by omega
     go_wp2
     go_ret
     exact ⟨_, rfl, by rw [hN]; exact hown, by rw [hN]; exact hbel⟩
end
section
theorem own_below {w w' : World} {base B : Nat} {e : TypeId} {size : Nat} {v : Value} {n : Nat} {xs : List Value} (h : w.ownsRow base e size v n xs) (hb : Below B w w') (hB : w.heap.size ≤ B) : w'.ownsRow base e size v n xs := by
 refine ⟨h.1, ?_⟩
 rcases h.2 with h0 | ⟨g, cap, cur, hv, hg, hc, h1, h2, h3, h4⟩
 · exact .inl h0
 · refine .inr ⟨g, cap, cur, hv, hg, ?_, h1, h2, h3, h4⟩
   rw [hb.block g (by have := (Array.getElem?_eq_some_iff.1 hc).1; omega)]
   exact hc

theorem CLists.one {w : World} {u : Value} {bs : List Int} (h : IsNums .u8 w u bs) (N : Nat) (hN : N = w.heap.size) (e : TypeId) : CLists (w.alloc (.cells #[u] e)) (.slice (some ⟨N, 0, none⟩) 1 1) [bs] := by
 subst hN
 refine ⟨_, 1, rfl, .inr ⟨_, 0, rfl, by simp, fun j hj => ?_⟩⟩
 obtain rfl : j = 0 := by simpa using hj
 refine ⟨u, ?_, h.alloc _⟩
 unfold World.cell? World.alloc
 simp

def sealC (bs : List Int) : List Int := bs ++ fourC (sumC [bs])
theorem sealC_len (bs : List Int) : (sealC bs).length = bs.length + 4 := by simp [sealC, fourC_len]

theorem TabOk.alloc {w : World} (h : TabOk w) (h1 : 1 ≤ w.heap.size) (o : Obj) : TabOk (w.alloc o) := h.below ((Below.refl w.heap.size w).alloc (Nat.le_refl _) o) h1

set_option maxRecDepth 100000 in
set_option maxHeartbeats 2000000 in
theorem seal_any (v : Value) (bs : List Int) (w : World) (hT : TabOk w) (h1 : 1 ≤ w.heap.size) (hv : IsNums .u8 w v bs) (hb : Bytes bs) (hl : bs.length ≤ 10000) :
   Calls Tryd.prog 13 #[v] w fun e w' => ∃ u, e = .returned u ∧ w'.ownsRow w.heap.size 5 1 u (sealC bs).length ((sealC bs).map (Value.int .u8)) ∧ Below w.heap.size w w' := by
 obtain ⟨i0, hi, hz0, hz1, hz2⟩ := info_parts info_u8
 obtain ⟨N, hN⟩ : ∃ N, w.heap.size = N := ⟨_, rfl⟩
 have HV := Lib.hid hv
 obtain ⟨p, cc, rfl, h⟩ := hv
 have HT := Lib.hid hT
 have HB := Lib.hid hb
 clear h hT hb
 obtain ⟨L, hL⟩ : ∃ L, bs.length = L := ⟨_, rfl⟩
 have HL := Lib.hid hL
 rw [hL] at hl HV
 go_enter Tryd.func13, Tryd.ntmps13
 rw [hL]
 clear hL
 go_wp2_with (first
   | (at_make; refine wpList_make_own _ rfl _ _ 26 rfl N 5 i0 (.int .u8 0) 1 Tryd.underlying26 hi hz0 hz1 _ _ _ (L + 4) rfl rfl (by omega) (by rw [hz2]; omega) (by unfold maxLen; omega) (by omega) ?_; intro w1 hown hgrow; rw [hN] at hown; have hb1 : Below N w w1 := (Below.refl _ w).grown hgrow (by omega) (fun j hj => by cases hj); have HV1 := Lib.hid (HV.out.below hb1 (by omega)); have hs1 := hb1.size)
   | (at_builtin; refine wpList_appN rfl _ _ 26 rfl N 5 .u8 1 Tryd.underlying26 info_u8 (by omega) _ _ _ rfl hown _ _ rfl HV1.out (by rw [HL.out]; omega) (by omega) ?_; intro v2 w2 hown2 hb2; clear hown; have hs2 := hb2.size))
 have HV2 := Lib.hid (HV.out.below (hb1.trans hb2) (by omega))
 have HT2 := Lib.hid (HT.out.below (hb1.trans hb2) (by omega))
 refine (sum_any _ [bs] _ (HT2.out.alloc (by omega) _) (CLists.one HV2.out w2.heap.size rfl _) (by
   intro j hj
   obtain rfl : j = 0 := by simpa using hj
   exact ⟨HB.out, by show bs.length ≤ _; rw [HL.out]; omega⟩) (by simp)).mono ?_
 rintro e w3 ⟨rfl, rfl⟩
 go_wp2_with fail
 refine (four_any (sumC [bs]) _ (sumC_range _)).mono ?_
 rintro e w4 ⟨u4, rfl, hown4, hb4⟩
 have hz2 : (w2.alloc (Obj.cells #[Value.slice p L cc] 26)).heap.size = w2.heap.size + 1 := by simp
 have hown5 : w4.ownsRow N 5 1 v2 (0 + bs.length) ([] ++ List.map (Value.int IntKind.u8) bs) := own_below (hown2.alloc _) hb4 (Nat.le_refl _)
 have hs4 := hb4.size
 have HN := Lib.hid (IsNums.ofOwn hown4)
 have hb5 : Below N w w4 := ((hb1.trans hb2).alloc (by omega) _).trans (hb4.mono (by omega))
 clear hown2 hown4 hb4 hb1 hb2 hgrow HV HV1 HV2 HT2
 go_wp2_with (at_builtin; refine wpList_appN rfl _ _ 26 rfl N 5 .u8 1 Tryd.underlying26 info_u8 (by omega) _ _ _ rfl hown5 _ _ rfl HN.out (by rw [HL.out, fourC_len]; omega) (by omega) ?_; intro v6 w6 hown6 hb6)
 go_ret
 refine ⟨_, rfl, ?_, by rw [hN]; exact hb5.trans hb6⟩
 rw [hN]
 have e1 : (sealC bs).length = 0 + bs.length + (fourC (sumC [bs])).length := by rw [sealC_len, fourC_len]; omega
 rw [e1]
 simpa [sealC] using hown6
end
section
def openB (bs : List Int) : Bool := decide (4 ≤ bs.length ∧ bs.drop (bs.length - 4) = fourC (sumC [bs.take (bs.length - 4)]))
def openC (bs : List Int) : List Int := if openB bs then bs.take (bs.length - 4) else []

theorem IsNums.part {k : IntKind} {w : World} {b off n : Nat} {cc : Nat} {zs : List Int} (h : IsNums k w (.slice (some ⟨b, off, none⟩) n cc) zs) (i j : Nat) (hij : i ≤ j) (hj : j ≤ n) (c : Nat) (m : Nat) (hm : m = j - i) :
   IsNums k w (.slice (some ⟨b, off + i, none⟩) m c) ((zs.take j).drop i) := by
 subst hm
 obtain ⟨a, c', hv, h⟩ := h
 simp only [Value.slice.injEq] at hv
 obtain ⟨rfl, hl, rfl⟩ := hv
 have hlen : ((zs.take j).drop i).length = j - i := by simp; omega
 refine ⟨_, c, by rw [hlen], ?_⟩
 rw [hlen]
 rcases h with h | ⟨b', off', hh, hb, hc⟩
 · left; omega
 · simp only [Option.some.injEq, Addr.mk.injEq, and_true] at hh
   obtain ⟨rfl, rfl⟩ := hh
   refine .inr ⟨_, _, rfl, hb, fun q hq => ?_⟩
   have := hc (i + q) (by omega)
   rw [show off + i + q = off + (i + q) by omega, this]
   simp only [List.getD, List.getElem?_drop, List.getElem?_take]
   rw [if_pos (by omega)]

def OpenPost (bs : List Int) (w : World) (e : Ending) (w' : World) : Prop :=
 ∃ u, e = .returned (.tuple #[u, .bool (openB bs)]) ∧ IsNums .u8 w' u (openC bs) ∧ Below w.heap.size w w'

set_option maxRecDepth 100000 in
set_option maxHeartbeats 2000000 in
theorem open_short (p : Option Addr) (L cc : Nat) (bs : List Int) (w : World) (hl : bs.length = L) (hs : L < 4) : Calls Tryd.prog 16 #[.slice p L cc] w (OpenPost bs w) := by
 have hB : openB bs = false := by simp [openB]; omega
 have HB := Lib.hid hB
 clear hB
 have e1 : decide ((L : Int) - 4 < 0) = true := by simp; omega
 go_enter Tryd.func16, Tryd.ntmps16
 go_wp2_with fail
 refine region_begin (by kernel_rfl) ?_
 refine step_read 0 (some 8) (v := ?v0) rfl (by rfl) (by kernel_rfl) (by kernel_rfl) (by kernel_rfl) (fun _ _ _ h => h) (by rfl) ?y0 ?n0
 case y0 => intro W hW; go_simp; try with_reducible rfl
 try simp only [Act.put, List.setIfInBounds_toArray, List.set_cons_zero, List.set_cons_succ]
 refine step_read 1 (some 9) (v := ?v1) rfl (by rfl) (by kernel_rfl) (by kernel_rfl) (by kernel_rfl) (fun _ _ _ h => h) (by rfl) ?y1 ?n1
 case y1 => intro W hW; go_simp; try with_reducible rfl
 try simp only [Act.put, List.setIfInBounds_toArray, List.set_cons_zero, List.set_cons_succ]
 refine step_read 2 (some 10) (v := ?v2) rfl (by rfl) (by kernel_rfl) (by kernel_rfl) (by kernel_rfl) (fun _ _ _ h => h) (by rfl) ?y2 ?n2
 case y2 => intro W hW; go_simp; try with_reducible rfl
 try simp only [Act.put, List.setIfInBounds_toArray, List.set_cons_zero, List.set_cons_succ]
 refine step_skip 3 (some 11) rfl (by rfl) (by kernel_rfl) (by kernel_rfl) (by kernel_rfl) (fun _ _ _ h => h) (by rfl) ?_
 try simp only [Act.put, List.setIfInBounds_toArray, List.set_cons_zero, List.set_cons_succ]
 refine step_skip 4 (some 12) rfl (by rfl) (by kernel_rfl) (by kernel_rfl) (by kernel_rfl) (fun _ _ _ h => h) (by rfl) ?_
 try simp only [Act.put, List.setIfInBounds_toArray, List.set_cons_zero, List.set_cons_succ]
 refine step_skip 5 (some 13) rfl (by rfl) (by kernel_rfl) (by kernel_rfl) (by kernel_rfl) (fun _ _ _ h => h) (by rfl) ?_
 try simp only [Act.put, List.setIfInBounds_toArray, List.set_cons_zero, List.set_cons_succ]
 refine step_skip 6 (some 14) rfl (by rfl) (by kernel_rfl) (by kernel_rfl) (by kernel_rfl) (fun _ _ _ h => h) (by rfl) ?_
 try simp only [Act.put, List.setIfInBounds_toArray, List.set_cons_zero, List.set_cons_succ]
 refine step_skip 7 (some 15) rfl (by rfl) (by kernel_rfl) (by kernel_rfl) (by kernel_rfl) (fun _ _ _ h => h) (by rfl) ?_
 try simp only [Act.put, List.setIfInBounds_toArray, List.set_cons_zero, List.set_cons_succ]
 refine step_skip 8 (some 16) rfl (by rfl) (by kernel_rfl) (by kernel_rfl) (by kernel_rfl) (fun _ _ _ h => h) (by rfl) ?_
 try simp only [Act.put, List.setIfInBounds_toArray, List.set_cons_zero, List.set_cons_succ]
 refine step_skip 9 (some 17) rfl (by rfl) (by kernel_rfl) (by kernel_rfl) (by kernel_rfl) (fun _ _ _ h => h) (by rfl) ?_
 try simp only [Act.put, List.setIfInBounds_toArray, List.set_cons_zero, List.set_cons_succ]
 refine step_skip 10 (some 18) rfl (by rfl) (by kernel_rfl) (by kernel_rfl) (by kernel_rfl) (fun _ _ _ h => h) (by rfl) ?_
 try simp only [Act.put, List.setIfInBounds_toArray, List.set_cons_zero, List.set_cons_succ]
 refine step_skip 11 (some 19) rfl (by rfl) (by kernel_rfl) (by kernel_rfl) (by kernel_rfl) (fun _ _ _ h => h) (by rfl) ?_
 try simp only [Act.put, List.setIfInBounds_toArray, List.set_cons_zero, List.set_cons_succ]
 refine step_skip 12 (some 20) rfl (by rfl) (by kernel_rfl) (by kernel_rfl) (by kernel_rfl) (fun _ _ _ h => h) (by rfl) ?_
 try simp only [Act.put, List.setIfInBounds_toArray, List.set_cons_zero, List.set_cons_succ]
 refine step_skip 13 (some 21) rfl (by rfl) (by kernel_rfl) (by kernel_rfl) (by kernel_rfl) (fun _ _ _ h => h) (by rfl) ?_
 try simp only [Act.put, List.setIfInBounds_toArray, List.set_cons_zero, List.set_cons_succ]
 refine step_skip 14 (some 22) rfl (by rfl) (by kernel_rfl) (by kernel_rfl) (by kernel_rfl) (fun _ _ _ h => h) (by rfl) ?_
 try simp only [Act.put, List.setIfInBounds_toArray, List.set_cons_zero, List.set_cons_succ]
 refine step_read 15 (some 23) (v := ?v15) rfl (by rfl) (by kernel_rfl) (by kernel_rfl) (by kernel_rfl) (fun _ _ _ h => h) (by rfl) ?y15 ?n15
 case y15 => intro W hW; go_simp; try with_reducible rfl
 try simp only [Act.put, List.setIfInBounds_toArray, List.set_cons_zero, List.set_cons_succ]
 refine wpAnyH_done (by kernel_rfl) ?_ _
 go_wp2
 go_ret2
 refine ⟨.slice none 0 0, ?_, ?_, (Below.refl _ w).drew⟩
 · rw [HB.out]; rfl
 · unfold openC; rw [if_neg (by rw [HB.out]; decide)]; exact IsNums.nil _ _ _ _

theorem Bytes.mem {bs : List Int} (h : Bytes bs) : ∀ x ∈ bs, 0 ≤ x ∧ x ≤ 255 := by
 intro x hx
 obtain ⟨i, hi, rfl⟩ := List.getElem_of_mem hx
 have := h i hi
 simpa [List.getD, hi] using this
end
section
theorem CLists.lit (w : World) (us : List Value) (ls : List (List Int)) (N : Nat) (T : TypeId) (n c : Nat) (hN : N = w.heap.size) (hn : n = us.length) (hl : us.length = ls.length) (h : ∀ j, j < us.length → IsNums .u8 w (us.getD j default) (ls.getD j [])) :
   CLists (w.alloc (.cells us.toArray T)) (.slice (some ⟨N, 0, none⟩) n c) ls := by
 subst hN; subst hn
 refine ⟨_, c, by rw [hl], .inr ⟨_, 0, rfl, by simp, fun j hj => ?_⟩⟩
 refine ⟨us.getD j default, ?_, (h j (by omega)).alloc _⟩
 unfold World.cell? World.alloc
 simp [List.getD, show j < us.length by omega]
theorem CLists.nil (w : World) (a : Option Addr) (c : Nat) : CLists w (.slice a 0 c) [] := ⟨a, c, rfl, .inl rfl⟩

def Small (ls : List (List Int)) : Prop := ∀ j, j < ls.length → Bytes (ls.getD j []) ∧ (ls.getD j []).length ≤ 1000000

def bytesB (l : List Int) : Bool := l.all fun x => decide (0 ≤ x ∧ x ≤ 255)
def ABS : List Int := [97, 98] ++ fourC (sumC [[97, 98]])
end
section

end
section
def sh1 (c : Nat) : Nat := (c >>> 1) ^^^ (if c.testBit 0 then 2197175160 else 0)
def shk : Nat → Nat → Nat
 | 0, c => c
 | k + 1, c => shk k (sh1 c)

def numB : List Int → Nat
 | [] => 0
 | x :: xs => x.toNat ^^^ (numB xs <<< 8)
end
section

end
section

end
section
inductive D where
 | v (x : Value)
 | ns (k : IntKind) (zs : List Int)
 | l (m : Nat) (rows : List (List D))

def NumsS (S : Nat → Prop) (k : IntKind) (w : World) (v : Value) (zs : List Int) : Prop :=
 ∃ a c, v = .slice a zs.length c ∧ (zs.length ≤ c ∧ c ≤ maxLen) ∧ (zs.length = 0 ∨ ∃ b off, a = some ⟨b, off, none⟩ ∧ S b ∧ b < w.heap.size ∧ ∀ j, j < zs.length → w.cell? ⟨b, off + j, none⟩ = some (.int k (zs.getD j 0)))
inductive Rd (S : Nat → Prop) (w : World) : Value → D → Prop
 | v (x : Value) : Rd S w x (.v x)
 | ns {k : IntKind} {v : Value} {zs : List Int} (h : NumsS S k w v zs) : Rd S w v (.ns k zs)
 | l0 (a : Option Addr) (c m : Nat) : Rd S w (.slice a 0 c) (.l m [])
 | l (m b off c : Nat) (rows : List (List D)) (f : Nat → Nat → Value) (hS : S b) (hb : b < w.heap.size) (hc : rows.length ≤ c) (hm : ∀ r ∈ rows, r.length = m)
     (hcell : ∀ j q, j < rows.length → q < m → w.cell? ⟨b, off + j * m + q, none⟩ = some (f j q) ∧ (f j q).oneCell' = true)
     (hr : ∀ j q r d, rows[j]? = some r → r[q]? = some d → Rd S w (f j q) d) : Rd S w (.slice (some ⟨b, off, none⟩) rows.length c) (.l m rows)

theorem NumsS.mono {S S' : Nat → Prop} {k : IntKind} {w W : World} {v : Value} {zs : List Int} (h : NumsS S k w v zs) (hs : w.heap.size ≤ W.heap.size) (hk : ∀ b, b < w.heap.size → S b → W.heap[b]? = w.heap[b]? ∧ S' b) : NumsS S' k W v zs := by
 obtain ⟨a, c, rfl, hc, h0 | ⟨b, off, rfl, h1, h2, h3⟩⟩ := h
 · exact ⟨a, c, rfl, hc, .inl h0⟩
 · exact ⟨_, c, rfl, hc, .inr ⟨b, off, rfl, (hk b h2 h1).2, Nat.lt_of_lt_of_le h2 hs, fun j hj => by rw [World.cell?_of_block (w := w) (hk b h2 h1).1]; exact h3 j hj⟩⟩
theorem Rd.mono {S S' : Nat → Prop} {w W : World} {v : Value} {d : D} (h : Rd S w v d) (hs : w.heap.size ≤ W.heap.size) (hk : ∀ b, b < w.heap.size → S b → W.heap[b]? = w.heap[b]? ∧ S' b) : Rd S' W v d := by
 induction h with
 | v x => exact .v x
 | ns h => exact .ns (h.mono hs hk)
 | l0 a c m => exact .l0 a c m
 | l m b off c rows f hS hb hc hm hcell hr ih =>
   exact .l m b off c rows f (hk b hb hS).2 (Nat.lt_of_lt_of_le hb hs) hc hm (fun j q hj hq => by rw [World.cell?_of_block (w := w) (hk b hb hS).1]; exact hcell j q hj hq) ih

def OwnsAt (w : World) (base : Nat) (e : TypeId) (size : Nat) (v : Value) (n : Nat) (xs : List Value) : Prop :=
 xs.length = n * size ∧
 ((v = .slice none 0 0 ∧ n = 0) ∨
  ∃ g off cap cur, v = .slice (some ⟨g, off, none⟩) n cap ∧ base ≤ g ∧ w.heap[g]? = some (.cells cur e (0, 0)) ∧ n ≤ cap ∧ cap ≤ maxLen ∧ off + cap * size ≤ cur.size ∧ (cur.toList.drop off).take (n * size) = xs)
theorem OwnsAt.of {w : World} {base : Nat} {e : TypeId} {size : Nat} {v : Value} {n : Nat} {xs : List Value} (h : w.ownsRow base e size v n xs) : OwnsAt w base e size v n xs := by
 refine ⟨h.1, ?_⟩
 rcases h.2 with h | ⟨g, cap, cur, h1, h2, h3, h4, h5, h6, h7⟩
 · exact .inl h
 · exact .inr ⟨g, 0, cap, cur, h1, h2, h3, h4, h5, by omega, by simpa using h7⟩
theorem OwnsAt.at {w W : World} {base : Nat} {e : TypeId} {size : Nat} {v : Value} {n : Nat} {xs : List Value} (h : OwnsAt w base e size v n xs) (hb : ∀ k, v.ownBlock = some k → W.heap[k]? = w.heap[k]?) : OwnsAt W base e size v n xs := by
 refine ⟨h.1, ?_⟩
 rcases h.2 with hn | ⟨g, off, cap, cur, rfl, hbg, hgg, rest⟩
 · exact .inl hn
 · refine .inr ⟨g, off, cap, cur, rfl, hbg, ?_, rest⟩
   rw [hb g rfl]; exact hgg
theorem OwnsAt.lt {w : World} {base : Nat} {e : TypeId} {size : Nat} {v : Value} {n : Nat} {xs : List Value} (h : OwnsAt w base e size v n xs) (b : Nat) (hb : v.ownBlock = some b) : base ≤ b ∧ b < w.heap.size := by
 rcases h.2 with ⟨rfl, _⟩ | ⟨g, off, cap, cur, rfl, hbg, hgg, _⟩
 · cases hb
 · injection hb with hb; subst hb
   exact ⟨hbg, (Array.getElem?_eq_some_iff.1 hgg).1⟩
def SegOk (S : Nat → Prop) (w : World) (v : Value) (e : TypeId) (m : Nat) (rows : List (List D)) : Prop :=
 ∃ cs : List (List Value), OwnsAt w 0 e m v rows.length cs.flatten ∧ cs.length = rows.length ∧ (∀ c ∈ cs, c.length = m ∧ ∀ x ∈ c, x.oneCell' = true) ∧ (∀ r ∈ rows, r.length = m) ∧
   ∀ (j q : Nat) (c : List Value) (r : List D) (x : Value) (d : D), cs[j]? = some c → rows[j]? = some r → c[q]? = some x → r[q]? = some d → Rd S w x d
inductive Res where
 | dat (v : Value) (d : D)
 | box (g : Nat) (e : TypeId) (cs : List Value)
 | num (v : Value) (e : TypeId) (k : IntKind) (zs : List Int)
 | row (v : Value) (e : TypeId) (m : Nat) (rows : List (List D))
 | cel (b o : Nat) (vs : List Value)
 | rowC (v : Value) (e : TypeId) (m : Nat) (rows : List (List D)) (cs : List (List Value))
 | seg (v : Value) (e : TypeId) (m : Nat) (rows : List (List D))
 | any (g : Nat)
 | gone
def Res.blk : Res → Option Nat
 | .box g _ _ => some g
 | .num v _ _ _ => v.ownBlock
 | .row v _ _ _ => v.ownBlock
 | .rowC v _ _ _ _ => v.ownBlock
 | .seg v _ _ _ => v.ownBlock
 | .any g => some g
 | _ => none
def RowOk (N : Nat) (S : Nat → Prop) (w : World) (v : Value) (e : TypeId) (m : Nat) (rows : List (List D)) : Prop :=
 ∃ cs : List (List Value), w.ownsRow N e m v rows.length cs.flatten ∧ cs.length = rows.length ∧ (∀ c ∈ cs, c.length = m ∧ ∀ x ∈ c, x.oneCell' = true) ∧ (∀ r ∈ rows, r.length = m) ∧
   ∀ (j q : Nat) (c : List Value) (r : List D) (x : Value) (d : D), cs[j]? = some c → rows[j]? = some r → c[q]? = some x → r[q]? = some d → Rd S w x d
def RowC (N : Nat) (S : Nat → Prop) (w : World) (v : Value) (e : TypeId) (m : Nat) (rows : List (List D)) (cs : List (List Value)) : Prop :=
 w.ownsRow N e m v rows.length cs.flatten ∧ cs.length = rows.length ∧ (∀ c ∈ cs, c.length = m ∧ ∀ x ∈ c, x.oneCell' = true) ∧ (∀ r ∈ rows, r.length = m) ∧
   ∀ (j q : Nat) (c : List Value) (r : List D) (x : Value) (d : D), cs[j]? = some c → rows[j]? = some r → c[q]? = some x → r[q]? = some d → Rd S w x d
def Res.ok (N : Nat) (X : List Nat) (S : Nat → Prop) (w : World) : Res → Prop
 | .dat v d => Rd S w v d
 | .box g e cs => Blk w g e cs ∧ (N ≤ g ∨ g ∈ X)
 | .num v e k zs => w.ownsRow N e 1 v zs.length (zs.map (Value.int k))
 | .row v e m rows => RowOk N S w v e m rows
 | .rowC v e m rows cs => RowC N S w v e m rows cs
 | .seg v e m rows => SegOk S w v e m rows ∧ ∀ b, v.ownBlock = some b → N ≤ b ∨ b ∈ X
 | .cel b o vs => S b ∧ b < w.heap.size ∧ w.rangeAt b o vs
 | .any g => g < w.heap.size ∧ (N ≤ g ∨ g ∈ X)
 | .gone => True
def lk {α : Type} : List (Nat × α) → Nat → Option α
 | [], _ => none
 | (k, x) :: t, i => bif Nat.beq k i then some x else lk t i
theorem lk_cons {α : Type} (k : Nat) (x : α) (t : List (Nat × α)) (i : Nat) : lk ((k, x) :: t) i = if k = i then some x else lk t i := by
 show (bif Nat.beq k i then some x else lk t i) = _
 by_cases h : k = i
 · rw [if_pos h, h, show Nat.beq i i = true from Nat.beq_refl i]; rfl
 · rw [if_neg h, show Nat.beq k i = false from by cases hb : Nat.beq k i with | false => rfl | true => exact absurd (Nat.eq_of_beq_eq_true hb) h]; rfl
abbrev Mm := List (Nat × Res)
def Own (M : Mm) (b : Nat) : Prop := ∃ i r, lk M i = some r ∧ r.blk = some b
structure Cx where
 bad : List Nat
 Z : Nat → Prop
def Free (X : Cx) (M : Mm) (b : Nat) : Prop := X.Z b ∧ ¬ Own M b
structure MemOk (X : Cx) (w0 : World) (M : Mm) (w : World) : Prop where
 keep : Keep (· ∈ X.bad) w0 w
 fresh : ∀ b, w0.heap.size ≤ b → X.Z b
 ok : ∀ i r, lk M i = some r → r.ok w0.heap.size X.bad (Free X M) w
 sep : ∀ i j r s b, lk M i = some r → lk M j = some s → r.blk = some b → s.blk = some b → i = j

theorem own_at {w W : World} {base : Nat} {e : TypeId} {size : Nat} {v : Value} {n : Nat} {xs : List Value} (h : w.ownsRow base e size v n xs) (hb : ∀ k, v.ownBlock = some k → W.heap[k]? = w.heap[k]?) : W.ownsRow base e size v n xs := by
 refine ⟨h.1, ?_⟩
 rcases h.2 with hn | ⟨g, cap, cur, rfl, hbg, hgg, rest⟩
 · exact .inl hn
 · refine .inr ⟨g, cap, cur, rfl, hbg, ?_, rest⟩
   rw [hb g rfl]
   exact hgg
theorem Res.ok_mono {N : Nat} {X : List Nat} {S S' : Nat → Prop} {w W : World} {r : Res} (h : r.ok N X S w) (hs : w.heap.size ≤ W.heap.size) (hk : ∀ b, b < w.heap.size → S b → W.heap[b]? = w.heap[b]? ∧ S' b) (hb : ∀ b, r.blk = some b → W.heap[b]? = w.heap[b]?) : r.ok N X S' W := by
 cases r with
 | dat v d => exact Rd.mono h hs hk
 | box g e cs => exact ⟨(hb g rfl).trans h.1, h.2⟩
 | num v e k zs => exact own_at h hb
 | row v e m rows =>
   obtain ⟨cs, h1, h2, h3, h4, h5⟩ := h
   exact ⟨cs, own_at h1 hb, h2, h3, h4, fun j q c r x d a1 a2 a3 a4 => (h5 j q c r x d a1 a2 a3 a4).mono hs hk⟩
 | rowC v e m rows cs =>
   obtain ⟨h1, h2, h3, h4, h5⟩ := h
   exact ⟨own_at h1 hb, h2, h3, h4, fun j q c r x d a1 a2 a3 a4 => (h5 j q c r x d a1 a2 a3 a4).mono hs hk⟩
 | seg v e m rows =>
   obtain ⟨⟨cs, h1, h2, h3, h4, h5⟩, hx⟩ := h
   exact ⟨⟨cs, h1.at hb, h2, h3, h4, fun j q c r x d a1 a2 a3 a4 => (h5 j q c r x d a1 a2 a3 a4).mono hs hk⟩, hx⟩
 | cel b o vs => exact ⟨(hk b h.2.1 h.1).2, Nat.lt_of_lt_of_le h.2.1 hs, fun j v hj => by rw [World.cell?_of_block (w := w) (hk b h.2.1 h.1).1]; exact h.2.2 j v hj⟩
 | any g => exact ⟨Nat.lt_of_lt_of_le h.1 hs, h.2⟩
 | gone => trivial
theorem Res.blk_lt {N : Nat} {X : List Nat} {S : Nat → Prop} {w : World} {r : Res} (h : r.ok N X S w) {b : Nat} (hb : r.blk = some b) : b < w.heap.size ∧ (N ≤ b ∨ b ∈ X) := by
 cases r with
 | dat v d => cases hb
 | box g e cs => injection hb with hb; subst hb; exact ⟨h.1.lt, h.2⟩
 | num v e k zs => have := World.ownsRow.lt h b hb; exact ⟨this.2, .inl this.1⟩
 | seg v e m rows => obtain ⟨⟨cs, h1, _⟩, hx⟩ := h; exact ⟨(h1.lt b hb).2, hx b hb⟩
 | rowC v e m rows cs => have := World.ownsRow.lt h.1 b hb; exact ⟨this.2, .inl this.1⟩
 | row v e m rows => obtain ⟨cs, h1, _⟩ := h; have := World.ownsRow.lt h1 b hb; exact ⟨this.2, .inl this.1⟩
 | cel b o vs => cases hb
 | any g => injection hb with hb; subst hb; exact h
 | gone => cases hb

section
variable {X : Cx} {w0 : World} {M : Mm} {w : World}
theorem MemOk.later (m : MemOk X w0 M w) {w' : World} (hb : Below w.heap.size w w') : MemOk X w0 M w' where
 keep := m.keep.trans' (bad' := fun _ => False) (Keep.ofBelow hb) (fun _ _ h => h.elim)
 fresh := m.fresh
 ok i r h := Res.ok_mono (m.ok i r h) hb.size (fun b hlt hS => ⟨hb.block b hlt, hS⟩) (fun b hbk => hb.block b (Res.blk_lt (m.ok i r h) hbk).1)
 sep := m.sep
theorem MemOk.upd (m : MemOk X w0 M w) (i : Nat) (r' : Res) {w' : World} (hk : Keep (fun b => ∃ r, lk M i = some r ∧ r.blk = some b) w w') (hb : ∀ b, r'.blk = some b → (∃ r, lk M i = some r ∧ r.blk = some b) ∨ w.heap.size ≤ b)
   (hok : (∀ b, b < w.heap.size → Free X M b → Free X ((i, r') :: M) b) → (∀ b, (∃ r, lk M i = some r ∧ r.blk = some b) → w0.heap.size ≤ b → (∀ c, r'.blk = some c → c ≠ b) → Free X ((i, r') :: M) b) → r'.ok w0.heap.size X.bad (Free X ((i, r') :: M)) w') : MemOk X w0 ((i, r') :: M) w' := by
 have hfree : ∀ b, b < w.heap.size → Free X M b → Free X ((i, r') :: M) b := by
   rintro b hlt ⟨hz, hf⟩
   refine ⟨hz, ?_⟩
   rintro ⟨j, s, hj, hs⟩
   rw [lk_cons] at hj
   split at hj
   · injection hj with hj; subst hj
     rcases hb b hs with ⟨r, h1, h2⟩ | h
     · exact hf ⟨i, r, h1, h2⟩
     · omega
   · exact hf ⟨j, s, hj, hs⟩
 have hold : ∀ b, (∃ r, lk M i = some r ∧ r.blk = some b) → w0.heap.size ≤ b → (∀ c, r'.blk = some c → c ≠ b) → Free X ((i, r') :: M) b := by
   rintro b ⟨r, h1, h2⟩ hN hc
   refine ⟨m.fresh b hN, ?_⟩
   rintro ⟨j, s, hj, hs⟩
   rw [lk_cons] at hj
   split at hj
   · injection hj with hj; subst hj
     exact hc b hs rfl
   · rename_i hne
     exact hne (m.sep i j r s b h1 hj h2 hs)
 refine ⟨m.keep.trans' hk ?_, m.fresh, ?_, ?_⟩
 · rintro b hlt ⟨r, h1, h2⟩
   rcases (Res.blk_lt (m.ok i r h1) h2).2 with h | h
   · omega
   · exact h
 · intro j s hj
   rw [lk_cons] at hj
   split at hj
   · injection hj with hj; subst hj
     exact hok hfree hold
   · rename_i hne
     refine Res.ok_mono (m.ok j s hj) hk.size (fun b hlt hS => ⟨hk.2.2.2.2 b hlt ?_, hfree b hlt hS⟩) (fun b hbk => hk.2.2.2.2 b (Res.blk_lt (m.ok j s hj) hbk).1 ?_)
     · rintro ⟨r, h1, h2⟩; exact hS.2 ⟨i, r, h1, h2⟩
     · rintro ⟨r, h1, h2⟩; exact hne (m.sep i j r s b h1 hj h2 hbk)
 · intro p q r s b hp hq hr hs
   rw [lk_cons] at hp hq
   split at hp <;> split at hq
   · omega
   · rename_i h1 h2
     injection hp with hp; subst hp
     rcases hb b hr with ⟨r0, h3, h4⟩ | h
     · rw [← h1]; exact m.sep i q r0 s b h3 hq h4 hs
     · have := (Res.blk_lt (m.ok q s hq) hs).1; omega
   · rename_i h1 h2
     injection hq with hq; subst hq
     rcases hb b hs with ⟨r0, h3, h4⟩ | h
     · rw [← h2]; exact m.sep p i r r0 b hp h3 hr h4
     · have := (Res.blk_lt (m.ok p r hp) hr).1; omega
   · exact m.sep p q r s b hp hq hr hs
theorem MemOk.sub (m : MemOk X w0 M w) {M' : Mm} (h : ∀ i r, lk M' i = some r → lk M i = some r) : MemOk X w0 M' w where
 keep := m.keep
 fresh := m.fresh
 ok i r hi := Res.ok_mono (m.ok i r (h i r hi)) (Nat.le_refl _) (fun b _ hS => ⟨rfl, hS.1, fun ⟨j, s, hj, hs⟩ => hS.2 ⟨j, s, h j s hj, hs⟩⟩) (fun _ _ => rfl)
 sep i j r s b h1 h2 := m.sep i j r s b (h i r h1) (h j s h2)
theorem MemOk.drew (m : MemOk X w0 M w) : MemOk X w0 M w.drew := m.later ((Below.refl _ w).drew)
theorem MemOk.dat (m : MemOk X w0 M w) (i : Nat) (hi : lk M i = none) {v : Value} {d : D} (h : Rd (Free X M) w v d) : MemOk X w0 ((i, .dat v d) :: M) w :=
 m.upd i (.dat v d) (Keep.refl _ _) (fun b hb => by cases hb) (fun h1 _ => h.mono (Nat.le_refl _) (fun b hlt hS => ⟨rfl, h1 b hlt hS⟩))
theorem MemOk.box (m : MemOk X w0 M w) (i : Nat) (e : TypeId) (cs : Array Value) : MemOk X w0 ((i, .box w.heap.size e cs.toList) :: M) (w.alloc (.cells cs e)) :=
 m.upd i _ (Keep.alloc _ _ _) (fun b hb => .inr (by injection hb with hb; omega)) (fun _ _ => ⟨Blk.alloc w e cs, .inl m.keep.size⟩)
theorem numsS_own {N : Nat} {S : Nat → Prop} {w : World} {v : Value} {e : TypeId} {k : IntKind} {zs : List Int} (h : w.ownsRow N e 1 v zs.length (zs.map (Value.int k))) (hS : ∀ b, v.ownBlock = some b → S b) : NumsS S k w v zs := by
 rcases h.2 with ⟨rfl, h0⟩ | ⟨g, cap, cur, rfl, hg, hbk, h1, h2, h3, h4⟩
 · exact ⟨none, 0, by rw [h0], ⟨by omega, by unfold maxLen; omega⟩, .inl h0⟩
 · have hlt := (Array.getElem?_eq_some_iff.1 hbk).1
   refine ⟨_, cap, rfl, ⟨h1, h2⟩, .inr ⟨g, 0, rfl, hS g rfl, hlt, fun j hj => ?_⟩⟩
   have := h.cellAt j (by omega)
   rw [Nat.zero_add, this]
   simp [hj, List.getD]
theorem flatten_at {α : Type} {m : Nat} : ∀ (cs : List (List α)) (j q : Nat) (c : List α), (∀ c ∈ cs, c.length = m) → cs[j]? = some c → q < m → cs.flatten[j * m + q]? = c[q]?
 | [], j, q, c, _, hj, _ => by simp at hj
 | a :: cs, 0, q, c, h, hj, hq => by
   have ha := h a (by simp)
   simp at hj; subst hj
   rw [List.flatten_cons, Nat.zero_mul, Nat.zero_add, List.getElem?_append_left (by omega)]
 | a :: cs, j + 1, q, c, h, hj, hq => by
   have ha := h a (by simp)
   rw [List.flatten_cons, List.getElem?_append_right (by rw [ha, Nat.add_mul]; omega), ha, show (j + 1) * m + q - m = j * m + q by rw [Nat.add_mul]; omega]
   exact flatten_at cs j q c (fun c hc => h c (by simp [hc])) (by simpa using hj) hq
theorem rd_row {N : Nat} {S S' : Nat → Prop} {w : World} {v : Value} {e : TypeId} {m : Nat} {rows : List (List D)} (h : RowOk N S w v e m rows) (hS : ∀ b, b < w.heap.size → S b → S' b) (hv : ∀ b, v.ownBlock = some b → S' b) : Rd S' w v (.l m rows) := by
 obtain ⟨cs, h1, h2, h3, h4, h5⟩ := h
 rcases h1.2 with ⟨rfl, h0⟩ | ⟨g, cap, cur, rfl, hg, hbk, hcap, h7, h8, h9⟩
 · obtain rfl := List.length_eq_zero_iff.1 h0
   exact .l0 none 0 m
 · have hlt := (Array.getElem?_eq_some_iff.1 hbk).1
   refine .l m g 0 cap rows (fun j q => (cs.flatten[j * m + q]?).getD undef) (hv g rfl) hlt hcap h4 (fun j q hj hq => ?_) (fun j q r d hj hq => ?_)
   · have hjc : j < cs.length := by omega
     have hc : cs[j]? = some cs[j] := List.getElem?_eq_getElem hjc
     have hm := (h3 cs[j] (List.getElem_mem hjc)).1
     have hx : cs[j][q]? = some (cs[j][q]'(by omega)) := List.getElem?_eq_getElem (by omega)
     have hf := flatten_at cs j q cs[j] (fun c hc => (h3 c hc).1) hc hq
     have := h1.cellAt (j * m + q) (by calc j * m + q < j * m + m := by omega
         _ = (j + 1) * m := by rw [Nat.add_mul]; omega
         _ ≤ rows.length * m := Nat.mul_le_mul_right _ (by omega))
     rw [Nat.zero_add, this, hf, hx]
     exact ⟨rfl, (h3 cs[j] (List.getElem_mem hjc)).2 _ (List.getElem_mem _)⟩
   · have hjr := (List.getElem?_eq_some_iff.1 hj).1
     have hjc : j < cs.length := by omega
     have hc : cs[j]? = some cs[j] := List.getElem?_eq_getElem hjc
     have hm := (h3 cs[j] (List.getElem_mem hjc)).1
     have hqr := (List.getElem?_eq_some_iff.1 hq).1
     have hrm := h4 r (List.mem_of_getElem? hj)
     have hx : cs[j][q]? = some (cs[j][q]'(by omega)) := List.getElem?_eq_getElem (by omega)
     have hf := flatten_at cs j q cs[j] (fun c hc => (h3 c hc).1) hc (by omega)
     show Rd S' w ((cs.flatten[j * m + q]?).getD undef) d
     rw [hf, hx]
     exact (h5 j q cs[j] r _ d hc hj hx hq).mono (Nat.le_refl _) (fun b hlt hs => ⟨rfl, hS b hlt hs⟩)
theorem MemOk.cel (m : MemOk X w0 M w) (i : Nat) (hi : lk M i = none) {b o : Nat} {vs : List Value} (h1 : Free X M b) (h2 : b < w.heap.size) (h3 : w.rangeAt b o vs) : MemOk X w0 ((i, .cel b o vs) :: M) w :=
 m.upd i (.cel b o vs) (Keep.refl _ _) (fun b hb => by cases hb) (fun h _ => ⟨h b h2 h1, h2, h3⟩)
theorem MemOk.nilN (m : MemOk X w0 M w) (i : Nat) (e : TypeId) (k : IntKind) : MemOk X w0 ((i, .num (.slice none 0 0) e k []) :: M) w :=
 m.upd i _ (Keep.refl _ _) (fun b hb => by cases hb) (fun _ _ => World.ownsRow_nil _ _ _ _)
theorem MemOk.newN (m : MemOk X w0 M w) (i : Nat) {w' : World} (hb : Below w.heap.size w w') {v : Value} {e : TypeId} {k : IntKind} {zs : List Int} (h : w'.ownsRow w.heap.size e 1 v zs.length (zs.map (Value.int k))) : MemOk X w0 ((i, .num v e k zs) :: M) w' :=
 m.upd i _ ((Keep.ofBelow (bad := fun _ => False) hb).mono (fun _ h => h.elim)) (fun b hb => .inr (h.lt b hb).1) (fun _ _ => by
   refine ⟨h.1, ?_⟩
   rcases h.2 with hn | ⟨g, cap, cur, e1, hg, rest⟩
   · exact .inl hn
   · exact .inr ⟨g, cap, cur, e1, Nat.le_trans m.keep.size hg, rest⟩)
theorem MemOk.newR (m : MemOk X w0 M w) (i : Nat) {w' : World} (hb : Below w.heap.size w w') {v : Value} {e : TypeId} {k : Nat} {rows : List (List D)} (h : RowOk w.heap.size (fun b => (Free X M b ∧ b < w.heap.size) ∨ w.heap.size ≤ b ∧ v.ownBlock ≠ some b) w' v e k rows) : MemOk X w0 ((i, .row v e k rows) :: M) w' :=
 m.upd i _ ((Keep.ofBelow (bad := fun _ => False) hb).mono (fun _ h => h.elim)) (fun b hb => .inr (by obtain ⟨cs, h1, _⟩ := h; exact (h1.lt b hb).1)) (fun hf _ => by
   obtain ⟨cs, h1, h2, h3, h4, h5⟩ := h
   refine ⟨cs, ⟨h1.1, ?_⟩, h2, h3, h4, fun j q c r x d a1 a2 a3 a4 => (h5 j q c r x d a1 a2 a3 a4).mono (Nat.le_refl _) (fun b hlt hS => ⟨rfl, ?_⟩)⟩
   · rcases h1.2 with hn | ⟨g, cap, cur, e1, hg, rest⟩
     · exact .inl hn
     · exact .inr ⟨g, cap, cur, e1, Nat.le_trans m.keep.size hg, rest⟩
   · rcases hS with ⟨hS, hlt⟩ | ⟨hge, hne⟩
     · exact hf b hlt hS
     · refine ⟨m.fresh b (Nat.le_trans m.keep.size hge), ?_⟩
       rintro ⟨j, s, hj, hs⟩
       rw [lk_cons] at hj
       split at hj
       · injection hj with hj; subst hj; exact hne hs
       · have := (Res.blk_lt (m.ok j s hj) hs).1; omega)
theorem MemOk.freezeN (m : MemOk X w0 M w) (i : Nat) {v : Value} {e : TypeId} {k : IntKind} {zs : List Int} (h : lk M i = some (.num v e k zs)) : MemOk X w0 ((i, .dat v (.ns k zs)) :: M) w :=
 m.upd i _ (Keep.refl _ _) (fun b hb => by cases hb) (fun _ h2 => .ns (numsS_own (m.ok i _ h) (fun b hb => h2 b ⟨_, h, hb⟩ (World.ownsRow.lt (m.ok i _ h) b hb).1 (fun c hc => by cases hc))))
theorem MemOk.freezeR (m : MemOk X w0 M w) (i : Nat) {v : Value} {e : TypeId} {k : Nat} {rows : List (List D)} (h : lk M i = some (.row v e k rows)) : MemOk X w0 ((i, .dat v (.l k rows)) :: M) w :=
 m.upd i _ (Keep.refl _ _) (fun b hb => by cases hb) (fun h1 h2 => rd_row (m.ok i _ h) h1 (fun b hb => h2 b ⟨_, h, hb⟩ (by obtain ⟨cs, q, _⟩ := m.ok i _ h; exact (World.ownsRow.lt q b hb).1) (fun c hc => by cases hc)))
end
end
section
def evT (T : List (Nat × Value)) : Operand → Option Value
 | .tmp t => lk T t
 | .const v => some v
 | .global g => some (.pointer (some ⟨g, 0, none⟩))
 | .func f => some (.func (.func f) #[] #[])
structure Has (n : Nat) (T : List (Nat × Value)) (a : Act) : Prop where
 d : a.defers = []
 sz : a.tmps.size = n
 h : ∀ t v, lk T t = some v → a.tmps.getD t undef = v
def nthL {α : Type} : List α → Nat → Option α
 | [], _ => none
 | x :: _, 0 => some x
 | _ :: t, i + 1 => nthL t i
theorem nthL_eq {α : Type} : ∀ (l : List α) (i : Nat), l[i]? = nthL l i
 | [], i => by simp [nthL]
 | x :: l, 0 => by simp [nthL]
 | x :: l, i + 1 => by rw [List.getElem?_cons_succ]; exact nthL_eq l i
section
variable {n : Nat} {T : List (Nat × Value)} {a : Act}
theorem Has.ev (h : Has n T a) {x : Operand} {v : Value} (hx : evT T x = some v) : a.eval x = v := by
 cases x with
 | tmp t => exact h.h t v hx
 | const u => injection hx
 | global g => injection hx
 | func f => injection hx
theorem Has.put (h : Has n T a) {t : Nat} (ht : Nat.blt t n = true) (v : Value) : Has n ((t, v) :: T) (a.put (some t) v) where
 d := h.d
 sz := by show (a.tmps.setIfInBounds t v).size = n; rw [Array.size_setIfInBounds]; exact h.sz
 h s u hs := by
   have hlt : t < a.tmps.size := by rw [h.sz]; simpa [Nat.blt_eq] using ht
   rw [lk_cons] at hs
   show (a.tmps.setIfInBounds t v).getD s undef = u
   by_cases he : t = s
   · rw [if_pos he] at hs
     injection hs with hs; subst hs; subst he
     simp [Array.getD, hlt]
   · rw [if_neg he] at hs
     have := h.h s u hs
     rw [← this]
     simp [Array.getD_eq_getD_getElem?, Array.getElem?_setIfInBounds, he]
theorem Has.sub (h : Has n T a) {T' : List (Nat × Value)} (hs : ∀ t v, lk T' t = some v → lk T t = some v) : Has n T' a := ⟨h.d, h.sz, fun t v e => h.h t v (hs t v e)⟩
def keepT {α : Type} (T : List (Nat × α)) : List Nat → List (Nat × α)
 | [] => []
 | t :: l => match lk T t with | some v => (t, v) :: keepT T l | none => keepT T l
theorem keepT_lk {α : Type} (T : List (Nat × α)) : ∀ (l : List Nat) (t : Nat) (v : α), lk (keepT T l) t = some v → lk T t = some v
 | [], t, v, h => by cases h
 | s :: l, t, v, h => by
   unfold keepT at h
   cases hs : lk T s with
   | none => rw [hs] at h; exact keepT_lk T l t v h
   | some u =>
     rw [hs] at h
     dsimp only at h
     rw [lk_cons] at h
     by_cases he : s = t
     · rw [if_pos he] at h; injection h with h; subst h; subst he; exact hs
     · rw [if_neg he] at h; exact keepT_lk T l t v h
theorem Has.only (h : Has n T a) (l : List Nat) : Has n (keepT T l) a := h.sub (keepT_lk T l)
theorem bool_cases {G : Prop} (h : Has n T a) {t : Nat} {b : Bool} (hb : lk T t = some (.bool b)) (ht : b = true → Has n ((t, .bool true) :: T) a → G) (hf : b = false → Has n ((t, .bool false) :: T) a → G) : G := by
 cases b with
 | true =>
   refine ht rfl ⟨h.d, h.sz, fun s v hs => ?_⟩
   rw [lk_cons] at hs
   split at hs
   · rename_i e; subst e; injection hs with hs; rw [← hs]; exact h.h _ _ hb
   · exact h.h s v hs
 | false =>
   refine hf rfl ⟨h.d, h.sz, fun s v hs => ?_⟩
   rw [lk_cons] at hs
   split at hs
   · rename_i e; subst e; injection hs with hs; rw [← hs]; exact h.h _ _ hb
   · exact h.h s v hs
end

section
variable {P : Program} {n : Nat} {T : List (Nat × Value)} {a : Act} {w : World} {d : Option Tmp} {tt : TypeId} {pos : String} {af : Array Edge} {gd : Option (Nat × Bool)}
abbrev Yl (P : Program) (a : Act) (w : World) (o : Oper) (v : Value) : Prop := (execOp a.eval o).run P w = .ok (.value v) w
theorem run_eqP {t e : TypeId} (hu : P.underlying t = some (.pointer e)) (b : Option Addr) (w : World) : (Op.equal t (.pointer b) (.pointer none)).run P w = .ok b.isNone w := by
 show (Op.equalIn (9999 + 1) t (.pointer b) (.pointer none)).run P w = _
 generalize 9999 = m
 cases b <;> simp [Op.equalIn, run_underlying hu]
theorem y_move (h : Has n T a) {x : Operand} {v : Value} (hx : evT T x = some v) : Yl P a w ⟨d, .move x, tt, pos, af, gd⟩ v := by
 show (execOp _ _).run P w = _; simp [execOp, h.ev hx]
theorem y_assign (h : Has n T a) {x : Operand} {v : Value} (hx : evT T x = some v) : Yl P a w ⟨d, .assign x, tt, pos, af, gd⟩ v := by
 show (execOp _ _).run P w = _; simp [execOp, h.ev hx]
theorem y_pickT (h : Has n T a) {c x y : Operand} {v : Value} (hc : evT T c = some (.bool true)) (hx : evT T x = some v) : Yl P a w ⟨d, .pick c x y, tt, pos, af, gd⟩ v := by
 show (execOp _ _).run P w = _; simp [execOp, h.ev hx, h.ev hc, asBool]
theorem y_pickF (h : Has n T a) {c x y : Operand} {v : Value} (hc : evT T c = some (.bool false)) (hx : evT T y = some v) : Yl P a w ⟨d, .pick c x y, tt, pos, af, gd⟩ v := by
 show (execOp _ _).run P w = _; simp [execOp, h.ev hx, h.ev hc, asBool]
theorem y_not (h : Has n T a) {t : TypeId} {x : Operand} {b : Bool} (hx : evT T x = some (.bool b)) : Yl P a w ⟨d, .unOp .not t x, tt, pos, af, gd⟩ (.bool !b) := by
 show (execOp _ _).run P w = _; simp [execOp, h.ev hx, Op.unary]
theorem y_len (h : Has n T a) {t e : TypeId} {x : Operand} {p : Option Addr} {l c : Nat} (hx : evT T x = some (.slice p l c)) (hu : P.underlying t = some (.slice e)) : Yl P a w ⟨d, .call { callee := .builtin .len, args := #[x], argTypes := #[t] }, tt, pos, af, gd⟩ (.int .i64 l) := by
 show (execOp _ _).run P w = _; simp [execOp, resolve, invoke, builtin, h.ev hx, Builtin.len_, run_underlying hu, goInt]
section
variable {t t2 : TypeId} {x y : Operand} {k : IntKind} {p q r : Int}
theorem y_add (h : Has n T a) (hx : evT T x = some (.int k p)) (hy : evT T y = some (.int k q)) (hr : k.wrap (p + q) = r) : Yl P a w ⟨d, .binOp .add t x y t2, tt, pos, af, gd⟩ (.int k r) := by
 show (execOp _ _).run P w = _; simp [execOp, eqGuard, binOp, Op.intArith, h.ev hx, h.ev hy, hr]
theorem y_sub (h : Has n T a) (hx : evT T x = some (.int k p)) (hy : evT T y = some (.int k q)) (hr : k.wrap (p - q) = r) : Yl P a w ⟨d, .binOp .sub t x y t2, tt, pos, af, gd⟩ (.int k r) := by
 show (execOp _ _).run P w = _; simp [execOp, eqGuard, binOp, Op.intArith, h.ev hx, h.ev hy, hr]
theorem y_mul (h : Has n T a) (hx : evT T x = some (.int k p)) (hy : evT T y = some (.int k q)) (hr : k.wrap (p * q) = r) : Yl P a w ⟨d, .binOp .mul t x y t2, tt, pos, af, gd⟩ (.int k r) := by
 show (execOp _ _).run P w = _; simp [execOp, eqGuard, binOp, Op.intArith, h.ev hx, h.ev hy, hr]
theorem y_quo (h : Has n T a) (hx : evT T x = some (.int k p)) (hy : evT T y = some (.int k q)) (h0 : q ≠ 0) (hr : k.wrap (p.tdiv q) = r) : Yl P a w ⟨d, .binOp .quo t x y t2, tt, pos, af, gd⟩ (.int k r) := by
 show (execOp _ _).run P w = _; simp [execOp, eqGuard, binOp, Op.intDiv, h.ev hx, h.ev hy, hr, h0]
theorem y_rem (h : Has n T a) (hx : evT T x = some (.int k p)) (hy : evT T y = some (.int k q)) (h0 : q ≠ 0) (hr : p.tmod q = r) : Yl P a w ⟨d, .binOp .rem t x y t2, tt, pos, af, gd⟩ (.int k r) := by
 show (execOp _ _).run P w = _; simp [execOp, eqGuard, binOp, Op.intDiv, h.ev hx, h.ev hy, hr, h0]
theorem y_and (h : Has n T a) (hx : evT T x = some (.int k p)) (hy : evT T y = some (.int k q)) (hr : k.wrap (BitVec.ofInt k.bits p &&& BitVec.ofInt k.bits q).toNat = r) : Yl P a w ⟨d, .binOp .and t x y t2, tt, pos, af, gd⟩ (.int k r) := by
 show (execOp _ _).run P w = _; simp only [execOp, eqGuard, binOp, Op.intBits, h.ev hx, h.ev hy, hr]; simp
theorem y_or (h : Has n T a) (hx : evT T x = some (.int k p)) (hy : evT T y = some (.int k q)) (hr : k.wrap (BitVec.ofInt k.bits p ||| BitVec.ofInt k.bits q).toNat = r) : Yl P a w ⟨d, .binOp .or t x y t2, tt, pos, af, gd⟩ (.int k r) := by
 show (execOp _ _).run P w = _; simp only [execOp, eqGuard, binOp, Op.intBits, h.ev hx, h.ev hy, hr]; simp
theorem y_xor (h : Has n T a) (hx : evT T x = some (.int k p)) (hy : evT T y = some (.int k q)) (hr : k.wrap (BitVec.ofInt k.bits p ^^^ BitVec.ofInt k.bits q).toNat = r) : Yl P a w ⟨d, .binOp .xor t x y t2, tt, pos, af, gd⟩ (.int k r) := by
 show (execOp _ _).run P w = _; simp only [execOp, eqGuard, binOp, Op.intBits, h.ev hx, h.ev hy, hr]; simp
theorem y_shl (h : Has n T a) {yk : IntKind} (hx : evT T x = some (.int k p)) (hy : evT T y = some (.int yk q)) (h0 : 0 ≤ q) (hr : k.wrap (p * 2 ^ min q.toNat k.bits) = r) : Yl P a w ⟨d, .binOp .shl t x y t2, tt, pos, af, gd⟩ (.int k r) := by
 have : ¬ q < 0 := by omega
 show (execOp _ _).run P w = _; simp only [execOp, eqGuard, binOp, Op.shift, h.ev hx, h.ev hy, hr, if_neg this]; simp
theorem y_lss (h : Has n T a) (hx : evT T x = some (.int k p)) (hy : evT T y = some (.int k q)) : Yl P a w ⟨d, .binOp .lss t x y t2, tt, pos, af, gd⟩ (.bool (decide (p < q))) := by
 show (execOp _ _).run P w = _; simp [execOp, eqGuard, binOp, Op.intCmp, h.ev hx, h.ev hy]
theorem y_leq (h : Has n T a) (hx : evT T x = some (.int k p)) (hy : evT T y = some (.int k q)) : Yl P a w ⟨d, .binOp .leq t x y t2, tt, pos, af, gd⟩ (.bool (decide (p ≤ q))) := by
 show (execOp _ _).run P w = _; simp [execOp, eqGuard, binOp, Op.intCmp, h.ev hx, h.ev hy]
theorem y_gtr (h : Has n T a) (hx : evT T x = some (.int k p)) (hy : evT T y = some (.int k q)) : Yl P a w ⟨d, .binOp .gtr t x y t2, tt, pos, af, gd⟩ (.bool (decide (q < p))) := by
 show (execOp _ _).run P w = _; simp [execOp, eqGuard, binOp, Op.intCmp, h.ev hx, h.ev hy]
theorem y_geq (h : Has n T a) (hx : evT T x = some (.int k p)) (hy : evT T y = some (.int k q)) : Yl P a w ⟨d, .binOp .geq t x y t2, tt, pos, af, gd⟩ (.bool (decide (q ≤ p))) := by
 show (execOp _ _).run P w = _; simp [execOp, eqGuard, binOp, Op.intCmp, h.ev hx, h.ev hy]
theorem y_eql (h : Has n T a) (hx : evT T x = some (.int k p)) (hy : evT T y = some (.int k q)) : Yl P a w ⟨d, .binOp .eql t x y t2, tt, pos, af, gd⟩ (.bool (decide (p = q))) := by
 have e : (p == q) = decide (p = q) := rfl
 show (execOp _ _).run P w = _; simp [execOp, eqGuard, binOp, Op.intCmp, h.ev hx, h.ev hy, e]
theorem y_neq (h : Has n T a) (hx : evT T x = some (.int k p)) (hy : evT T y = some (.int k q)) : Yl P a w ⟨d, .binOp .neq t x y t2, tt, pos, af, gd⟩ (.bool (decide (p ≠ q))) := by
 have e : (p != q) = decide (p ≠ q) := by simp [bne]; rfl
 show (execOp _ _).run P w = _; simp only [execOp, eqGuard, binOp, Op.intCmp, h.ev hx, h.ev hy, e]; simp
theorem y_eqlP (h : Has n T a) {e : TypeId} {b : Option Addr} (hx : evT T x = some (.pointer b)) (hy : evT T y = some (.pointer none)) (hu : P.underlying t = some (.pointer e)) : Yl P a w ⟨d, .binOp .eql t x y t2, tt, pos, af, gd⟩ (.bool b.isNone) := by
 show (execOp _ _).run P w = _
 simp [execOp, eqGuard, binOp, h.ev hx, h.ev hy, run_eqP hu]
theorem y_conv (h : Has n T a) {s e : TypeId} {k' : IntKind} {ds : TypeDesc} (hx : evT T x = some (.int k p)) (hs : P.underlying s = some ds) (hd : P.underlying e = some (.int k')) (hr : k'.wrap p = r) : Yl P a w ⟨d, .convert s e x, tt, pos, af, gd⟩ (.int k' r) := by
 show (execOp _ _).run P w = _
 simp [execOp, h.ev hx, convert, run_underlying hs, run_underlying hd, Conv.intToInt, hr]
end
theorem y_extract (h : Has n T a) {x : Operand} {vs : Array Value} {i : Nat} {v : Value} (hx : evT T x = some (.tuple vs)) (hv : nthL vs.toList i = some v) : Yl P a w ⟨d, .extract x i, tt, pos, af, gd⟩ v := by
 have hv : vs[i]? = some v := by rw [← hv, ← nthL_eq]; simp
 show (execOp _ _).run P w = _; simp [execOp, h.ev hx, Instr.extract, hv]
theorem y_nilCheck (h : Has n T a) {x : Operand} {p : Addr} (hx : evT T x = some (.pointer (some p))) : Yl P a w ⟨d, .nilCheck x, tt, pos, af, gd⟩ (.pointer (some p)) := by
 show (execOp _ _).run P w = _; simp [execOp, h.ev hx]
theorem y_fieldAddr (h : Has n T a) {t : TypeId} {x : Operand} {i g o : Nat} {fs : Array Field} {f : Field} {s off : Nat} (hx : evT T x = some (.pointer (some ⟨g, o, none⟩))) (hu : P.underlying t = some (.struct fs)) (hf : fs[i]? = some f) (hs : (P.info? f.type).map (·.size) = some (s + 1)) (ho : o + f.offset = off) : Yl P a w ⟨d, .fieldAddr t x i, tt, pos, af, gd⟩ (.pointer (some ⟨g, off, none⟩)) := by
 subst ho
 show (execOp _ _).run P w = _
 cases hq : P.info? f.type with
 | none => simp [hq] at hs
 | some j =>
   have hj : j.size = s + 1 := by simpa [hq] using hs
   simp [execOp, h.ev hx, Instr.fieldAt, run_underlying hu, hf, Instr.sureAddr, fieldPlace, sizeOf, typeInfo, hq, hj, Addr.add_mid]
theorem run_isAgg {t : TypeId} {td : TypeDesc} (hu : P.underlying t = some td) (w : World) : (isAgg t).run P w = .ok td.isRow w := by
 unfold isAgg
 rw [Sem.run_bind, run_underlying hu w]
 cases td <;> simp_all
theorem y_sliceH (h : Has n T a) {t e : TypeId} {x y : Operand} {p : Option Addr} {l c : Nat} {k : IntKind} {q : Int} (hx : evT T x = some (.slice p l c)) (hy : evT T y = some (.int k q)) (hu : P.underlying t = some (.slice e)) {s : Nat} (hs : (P.info? e).map (·.size) = some s) (h0 : 0 ≤ q) (h1 : q ≤ c) : Yl P a w ⟨d, .slice t x none (some y) none, tt, pos, af, gd⟩ (.slice p q.toNat c) := by
 show (execOp _ _).run P w = _
 cases hq : P.info? e with
 | none => simp [hq] at hs
 | some j =>
   have hp : (Option.map (fun x : Addr => x.add 0) p) = p := by cases p <;> simp [Addr.add]
   simp [execOp, h.ev hx, h.ev hy, Instr.sliceAt, run_underlying hu, Instr.slice, Instr.sliceBounds, Instr.sliceBound, asIntOf, h0, h1, sizeOf, typeInfo, hq, hp]
theorem y_sliceL (h : Has n T a) {t e : TypeId} {x y : Operand} {p : Option Addr} {l c : Nat} {k : IntKind} {q : Int} (hx : evT T x = some (.slice p l c)) (hy : evT T y = some (.int k q)) (hu : P.underlying t = some (.slice e)) {s : Nat} (hs : (P.info? e).map (·.size) = some s) (h0 : 0 ≤ q) (h1 : q ≤ l) : Yl P a w ⟨d, .slice t x (some y) none none, tt, pos, af, gd⟩ (.slice (if c = q.toNat then p else p.map (·.add (q.toNat * s))) (l - q.toNat) (c - q.toNat)) := by
 show (execOp _ _).run P w = _
 cases hq : P.info? e with
 | none => simp [hq] at hs
 | some j =>
   have hj : j.size = s := by simpa [hq] using hs
   simp [execOp, h.ev hx, h.ev hy, Instr.sliceAt, run_underlying hu, Instr.slice, Instr.sliceBounds, Instr.sliceBound, asIntOf, h0, h1, sizeOf, typeInfo, hq, hj]
def evP (T : List (Nat × Value)) : List (Nat × Operand) → Option (List (Nat × Value))
 | [] => some []
 | (i, x) :: l => match evT T x, evP T l with
   | some v, some r => some ((i, v) :: r)
   | _, _ => none
def evA (T : List (Nat × Value)) : List Operand → Option (List Value)
 | [] => some []
 | x :: l => match evT T x, evA T l with
   | some v, some r => some (v :: r)
   | _, _ => none
theorem Has.evP (h : Has n T a) : ∀ {l : List (Nat × Operand)} {pl : List (Nat × Value)}, evP T l = some pl → l.map (fun x => (x.1, a.eval x.2)) = pl
 | [], pl, e => by cases e; rfl
 | (i, x) :: l, pl, e => by
   unfold K.evP at e
   cases hx : evT T x with
   | none => rw [hx] at e; cases e
   | some v =>
     cases hl : K.evP T l with
     | none => rw [hx, hl] at e; cases e
     | some r =>
       rw [hx, hl] at e
       injection e with e; subst e
       rw [List.map_cons, h.evP hl, h.ev hx]
theorem Has.evA (h : Has n T a) : ∀ {l : List Operand} {vs : List Value}, evA T l = some vs → l.map a.eval = vs
 | [], vs, e => by cases e; rfl
 | x :: l, vs, e => by
   unfold K.evA at e
   cases hx : evT T x with
   | none => rw [hx] at e; cases e
   | some v =>
     cases hl : K.evA T l with
     | none => rw [hx, hl] at e; cases e
     | some r =>
       rw [hx, hl] at e
       injection e with e; subst e
       rw [List.map_cons, h.evA hl, h.ev hx]
def setL : List Value → List (Nat × Value) → List Value
 | z, [] => z
 | z, (i, v) :: r => setL (z.set i v) r
def flatS (P : Program) (t : TypeId) (z : List Value) : Bool :=
 match P.info? t, P.underlying t with
 | some it, some (.struct fs) => (match it.zero with | some (.agg c) => c.size == z.length | some _ => false | none => false) && fs.size == z.length && (List.range fs.size).all fun i => match fs[i]? with
   | some f => f.offset == i && (match P.info? f.type with | some j => j.size == 1 | none => false)
   | none => false
 | _, _ => false
theorem fill_set (place : Nat → Option (Nat × Nat)) (N : Nat) (hp : ∀ i, i < N → place i = some (i, 1)) : ∀ (pl : List (Nat × Value)) (z : List Value), z.length = N → pl.all (fun p => decide (p.1 < N) && p.2.oneCell') = true → (∀ p ∈ pl, p.2.cells = #[p.2]) → Instr.fill place z.toArray pl = some (setL z pl).toArray
 | [], z, _, _, _ => rfl
 | (i, v) :: r, z, hz, ha, hc => by
   simp only [List.all_cons, Bool.and_eq_true, decide_eq_true_eq] at ha
   have hv : v.cells = #[v] := hc (i, v) (by simp)
   rw [Instr.fill, hp i ha.1.1, hv]
   have h1 : ¬ (z.toArray.size < i + 1) := by simp; omega
   simp only [List.size_toArray, List.length_cons, List.length_nil, Nat.zero_add, ne_eq, not_true_eq_false, decide_false, Bool.false_or, gt_iff_lt, decide_eq_true_eq]
   rw [if_neg (by omega)]
   have := fill_set place N hp r (z.set i v) (by simp [hz]) (by simpa using ha.2) (fun p hq => hc p (by simp [hq]))
   rw [setL, ← this]
   congr 1
   simp
theorem cells_one {v : Value} (h : v.oneCell' = true) : v.cells = #[v] := by cases v <;> first | rfl | cases h
theorem built_flat {t : TypeId} {z : List Value} (hz : ((P.info? t).bind (·.zero)).map (·.cells.toList) = some z) (hf : flatS P t z = true) (pl : List (Nat × Value)) (hp : pl.all (fun p => decide (p.1 < z.length) && p.2.oneCell') = true) : P.built t pl = some (setL z pl).toArray := by
 unfold flatS at hf
 unfold Program.built
 cases hi : P.info? t with
 | none => simp [hi] at hf
 | some it =>
   cases hu : P.underlying t with
   | none => simp [hi, hu] at hf
   | some td =>
     cases td <;> try (simp [hi, hu] at hf; done)
     case struct fs =>
       cases hzz : it.zero with
       | none => simp [hi, hzz] at hz
       | some zz =>
         simp only [hi, hu, hzz, Bool.and_eq_true, beq_iff_eq, List.all_eq_true, List.mem_range] at hf
         obtain ⟨⟨-, hs⟩, hall⟩ := hf
         have hzl : zz.cells.toList = z := by simpa [hi, hzz] using hz
         have hzc : zz.cells = z.toArray := by rw [← hzl]
         have hpl : fs.toList.mapM (fun f => (P.info? f.type).map fun i => (f.offset, i.size)) = some (fs.toList.map (fun f => (f.offset, 1))) := by
           have : ∀ f ∈ fs.toList, ((P.info? f.type).map fun i => (f.offset, i.size)) = some (f.offset, 1) := by
             intro f hf
             obtain ⟨i, hi1, hi2⟩ := List.getElem_of_mem hf
             have := hall i (by simpa using hi1)
             rw [Array.getElem?_eq_getElem (by simpa using hi1)] at this
             have e : fs[i]'(by simpa using hi1) = f := by simpa using hi2
             rw [e] at this
             simp only [Bool.and_eq_true, beq_iff_eq] at this
             cases hq : P.info? f.type with
             | none => simp [hq] at this
             | some j => simp only [hq, beq_iff_eq] at this; simp [this.2]
           have gen : ∀ l : List Field, (∀ f ∈ l, ((P.info? f.type).map fun i => (f.offset, i.size)) = some (f.offset, 1)) → l.mapM (fun f => (P.info? f.type).map fun i => (f.offset, i.size)) = some (l.map (fun f => (f.offset, 1))) := by
             intro l
             induction l with
             | nil => intro _; rfl
             | cons f l ih => intro h; rw [List.mapM_cons, h f (by simp), ih (fun g hg => h g (by simp [hg]))]; rfl
           exact gen _ this
         simp only [hzz, hpl, hzc]
         refine fill_set _ z.length (fun i hi' => ?_) pl z rfl hp (fun p hq => cells_one (by
           have := List.all_eq_true.1 hp p hq
           simp only [Bool.and_eq_true] at this
           exact this.2))
         have hlt : i < fs.size := by omega
         have := hall i hlt
         rw [Array.getElem?_eq_getElem hlt] at this
         simp only [Bool.and_eq_true, beq_iff_eq] at this
         simp [hlt, this.1]
theorem y_build (h : Has n T a) {t : TypeId} {parts : Array (Nat × Operand)} {z cs : List Value} {pl : List (Nat × Value)} (hp : K.evP T parts.toList = some pl) (hz : ((P.info? t).bind (·.zero)).map (·.cells.toList) = some z) (hf : flatS P t z = true) (h1 : pl.all (fun p => decide (p.1 < z.length) && p.2.oneCell') = true) (hc : setL z pl = cs) : Yl P a w ⟨d, .build t parts, tt, pos, af, gd⟩ (.agg cs.toArray) := by
 have hb := built_flat hz hf pl h1
 have hpl := h.evP hp
 show (execOp _ _).run P w = _
 have hr := run_build (P := P) w t (parts.map fun (i, x) => (i, a.eval x)) (setL z pl).toArray (by rw [Array.toList_map]; rw [← hpl] at hb ⊢; exact hb)
 simp only [execOp, Sem.run_bind, hr, Result.andThen_ok, Sem.run_pure, hc]
end
end
section
inductive RdL (S : Nat → Prop) (w : World) : List Value → List D → Prop
 | nil : RdL S w [] []
 | cons {v : Value} {d : D} {vs : List Value} {ds : List D} (h : Rd S w v d) (t : RdL S w vs ds) : RdL S w (v :: vs) (d :: ds)
theorem RdL.of {S : Nat → Prop} {w : World} : ∀ {vs : List Value} {ds : List D}, vs.length = ds.length → (∀ (q : Nat) (v : Value) (d : D), vs[q]? = some v → ds[q]? = some d → Rd S w v d) → RdL S w vs ds
 | [], [], _, _ => .nil
 | v :: vs, d :: ds, hl, h => .cons (h 0 v d rfl rfl) (RdL.of (by simpa using hl) (fun q v d h1 h2 => h (q + 1) v d (by simpa using h1) (by simpa using h2)))
 | [], _ :: _, hl, _ => by simp at hl
 | _ :: _, [], hl, _ => by simp at hl
theorem RdL.len {S : Nat → Prop} {w : World} {vs : List Value} {ds : List D} (h : RdL S w vs ds) : vs.length = ds.length := by
 induction h with
 | nil => rfl
 | cons _ _ ih => simp [ih]
theorem RdL.get {S : Nat → Prop} {w : World} {vs : List Value} {ds : List D} (h : RdL S w vs ds) : ∀ (q : Nat) (v : Value) (d : D), vs[q]? = some v → ds[q]? = some d → Rd S w v d := by
 induction h with
 | nil => intro q v d h1; simp at h1
 | cons hh _ ih =>
   intro q v d h1 h2
   cases q with
   | zero => simp at h1 h2; subst h1; subst h2; exact hh
   | succ q => exact ih q v d (by simpa using h1) (by simpa using h2)
theorem RdL.mono {S S' : Nat → Prop} {w W : World} {vs : List Value} {ds : List D} (h : RdL S w vs ds) (hs : w.heap.size ≤ W.heap.size) (hk : ∀ b, b < w.heap.size → S b → W.heap[b]? = w.heap[b]? ∧ S' b) : RdL S' W vs ds := by
 induction h with
 | nil => exact .nil
 | cons hh _ ih => exact .cons (hh.mono hs hk) ih

section
variable {P : Program} {n : Nat} {T : List (Nat × Value)} {a : Act} {w w0 : World} {X : Cx} {M : Mm} {tt : TypeId} {pos : String} {af : Array Edge} {gd : Option (Nat × Bool)} {ops : Array Oper} {rest : List Oper} {Q : Exit → Act → World → Prop} {K : Act → World → Prop}
theorem st_y {d : Tmp} {op : Op} {v : Value} (ha : Has n T a) (ht : Nat.blt d n = true) (hy : Yl P a w ⟨some d, op, tt, pos, af, none⟩ v) (h : ∀ a', Has n ((d, v) :: T) a' → wpList P ops Q rest a' w) : wpList P ops Q (⟨some d, op, tt, pos, af, none⟩ :: rest) a w := by
 refine wpList_plain rfl fun K hK => ?_
 show Oper.upon P _ a K Q ((execOp a.eval _).run P w)
 rw [hy]
 exact hK _ _ (h _ (ha.put ht v))
theorem Has.yielded (ha : Has n T a) {j t : Nat} {b : Bool} (hj : (ops[j]?).bind (·.dst) = some t) (hb : lk T t = some (.bool b)) (ht : Nat.blt t n = true) : Go.yielded ops a.tmps j = some b := by
 have hlt : t < a.tmps.size := by rw [ha.sz]; simpa [Nat.blt_eq] using ht
 have := ha.h t _ hb
 unfold Go.yielded
 rw [hj]
 show (match a.tmps[t]? with | some (.bool b) => some b | _ => none) = some b
 rw [Array.getElem?_eq_getElem hlt]
 have e : a.tmps[t] = .bool b := by simpa [Array.getD, hlt] using this
 rw [e]
theorem st_g {d : Tmp} {op : Op} {v : Value} {j t : Nat} {b : Bool} (ha : Has n T a) (hj : (ops[j]?).bind (·.dst) = some t) (hb : lk T t = some (.bool b)) (ht2 : Nat.blt t n = true) (ht : Nat.blt d n = true) (hy : Yl P a w ⟨some d, op, tt, pos, af, some (j, b)⟩ v) (h : ∀ a', Has n ((d, v) :: T) a' → wpList P ops Q rest a' w) : wpList P ops Q (⟨some d, op, tt, pos, af, some (j, b)⟩ :: rest) a w := by
 refine wpList_step fun K hK => ?_
 rw [if_pos (by simp [Region.wanted, ha.yielded hj hb ht2])]
 show Oper.upon P _ a K Q ((execOp a.eval _).run P w)
 rw [hy]
 exact hK _ _ (h _ (ha.put ht v))
theorem st_ge {o : Oper} {j t : Nat} {b : Bool} (ha : Has n T a) (hg : o.guard = some (j, b)) (hj : (ops[j]?).bind (·.dst) = some t) (hb : lk T t = some (.bool b)) (ht2 : Nat.blt t n = true) (h : ∀ K : Act → World → Prop, (∀ a w, wpList P ops Q rest a w → K a w) → o.wp P a w K Q) : wpList P ops Q (o :: rest) a w := by
 refine wpList_step fun K hK => ?_
 rw [if_pos (by simp [Region.wanted, hg, ha.yielded hj hb ht2])]
 exact h K hK
theorem st_skip {d : Tmp} {op : Op} {j t : Nat} {b : Bool} (ha : Has n T a) (hj : (ops[j]?).bind (·.dst) = some t) (hb : lk T t = some (.bool !b)) (ht2 : Nat.blt t n = true) (ht : Nat.blt d n = true) (h : ∀ a', Has n ((d, undef) :: T) a' → wpList P ops Q rest a' w) : wpList P ops Q (⟨some d, op, tt, pos, af, some (j, b)⟩ :: rest) a w := by
 refine wpList_step fun K hK => ?_
 rw [if_neg (by simp [Region.wanted, ha.yielded hj hb ht2])]
 exact hK _ _ (h _ (ha.put ht _))

/-! ### Reading -/
theorem run_load1 {w : World} {t : TypeId} {td : TypeDesc} {p : Addr} {v : Value} (hu : P.underlying t = some td) (hr : td.isRow = false) (hc : w.cell? p = some v) : (loadVar t p).run P w = .ok v w := by
 simp [loadVar, run_isAgg hu, hr, hc]
theorem y_loadB1 (ha : Has n T a) (m : MemOk X w0 M w) {d : Option Tmp} {t : TypeId} {td : TypeDesc} {x : Operand} {i g o : Nat} {e : TypeId} {cs : List Value} {v : Value} (hm : lk M i = some (.box g e cs)) (hx : evT T x = some (.pointer (some ⟨g, o, none⟩))) (hv : cs[o]? = some v) (hu : P.underlying t = some td) (hr : td.isRow = false) : Yl P a w ⟨d, .load t x, tt, pos, af, gd⟩ v := by
 have hc : w.cell? ⟨g, o, none⟩ = some v := by rw [(m.ok i _ hm).1.cell]; exact hv
 show (execOp _ _).run P w = _
 simp [execOp, ha.ev hx, Instr.loadAt, Instr.sureAddr, run_load1 hu hr hc]
theorem y_loadBR (ha : Has n T a) (m : MemOk X w0 M w) {d : Option Tmp} {t : TypeId} {td : TypeDesc} {x : Operand} {i g o k : Nat} {e : TypeId} {cs vs : List Value} (hm : lk M i = some (.box g e cs)) (hx : evT T x = some (.pointer (some ⟨g, o, none⟩))) (hu : P.underlying t = some td) (hr : td.isRow = true) (hs : (P.info? t).map (·.size) = some k) (hk : o + k ≤ cs.length) (hv : (cs.drop o).take k = vs) : Yl P a w ⟨d, .load t x, tt, pos, af, gd⟩ (.agg vs.toArray) := by
 have hl : vs.length = k := by rw [← hv, List.length_take, List.length_drop]; omega
 have hc : w.rangeAt g o vs := fun j v hj => by
   have hjl := (List.getElem?_eq_some_iff.1 hj).1
   rw [(m.ok i _ hm).1.cell, ← hj, ← hv, List.getElem?_take, if_pos (by omega), List.getElem?_drop]
 show (execOp _ _).run P w = _
 rw [exec_load t x rfl g o (ha.ev hx) vs td hc hu hr (by rw [hs, hl])]
theorem y_loadC1 (ha : Has n T a) (m : MemOk X w0 M w) {d : Option Tmp} {t : TypeId} {td : TypeDesc} {x : Operand} {i b o q : Nat} {vs : List Value} {v : Value} (hm : lk M i = some (.cel b o vs)) (hx : evT T x = some (.pointer (some ⟨b, o + q, none⟩))) (hv : vs[q]? = some v) (hu : P.underlying t = some td) (hr : td.isRow = false) : Yl P a w ⟨d, .load t x, tt, pos, af, gd⟩ v := by
 have hc : w.cell? ⟨b, o + q, none⟩ = some v := (m.ok i _ hm).2.2 q v hv
 show (execOp _ _).run P w = _
 simp [execOp, ha.ev hx, Instr.loadAt, Instr.sureAddr, run_load1 hu hr hc]
theorem y_loadC0 (ha : Has n T a) (m : MemOk X w0 M w) {d : Option Tmp} {t : TypeId} {td : TypeDesc} {x : Operand} {i b o : Nat} {vs : List Value} {v : Value} (hm : lk M i = some (.cel b o (v :: vs))) (hx : evT T x = some (.pointer (some ⟨b, o, none⟩))) (hu : P.underlying t = some td) (hr : td.isRow = false) : Yl P a w ⟨d, .load t x, tt, pos, af, gd⟩ v :=
 y_loadC1 ha m (q := 0) hm hx rfl hu hr
theorem run_idx {w : World} {t e : TypeId} {b o l c s : Nat} {k : IntKind} {q : Int} (hu : P.underlying t = some (.slice e)) (hs : (P.info? e).map (·.size) = some s) (j : Nat) (hq : q = j) (hj : j < l) : (Instr.indexAt t (.slice (some ⟨b, o, none⟩) l c) (.int k q)).run P w = .ok (.pointer (some ⟨b, o + j * s, none⟩)) w := by
 subst hq
 cases hi : P.info? e with
 | none => simp [hi] at hs
 | some i =>
   have hj' : i.size = s := by simpa [hi] using hs
   have h2 : ((j : Int) < (l : Int)) := by omega
   have h3 : ¬ l ≤ j := by omega
   simp [Instr.indexAt, asIntOf, run_underlying hu, h2, h3, sizeOf, typeInfo, hi, hj', Addr.add_mid]
theorem Rd.ns_out {S : Nat → Prop} {v : Value} {k : IntKind} {zs : List Int} (h : Rd S w v (.ns k zs)) : NumsS S k w v zs := by cases h with | ns h => exact h
theorem Rd.l_shape {S : Nat → Prop} {v : Value} {m : Nat} {rows : List (List D)} (h : Rd S w v (.l m rows)) : ∃ p c, v = .slice p rows.length c ∧ rows.length ≤ c := by
 cases h with
 | l0 a c m => exact ⟨a, c, rfl, Nat.zero_le _⟩
 | l m b off c rows f hS hb hc => exact ⟨_, c, rfl, hc⟩
theorem y_loadO (ha : Has n T a) (m : MemOk X w0 M w) {d : Option Tmp} {t e2 : TypeId} {td : TypeDesc} {x : Operand} {i g j : Nat} {v : Value} {k : IntKind} {zs : List Int} (hm : lk M i = some (.num v e2 k zs)) (hg : v.ownBlock = some g) (hx : evT T x = some (.pointer (some ⟨g, j, none⟩))) (hj : j < zs.length) (hu : P.underlying t = some td) (hr : td.isRow = false) : Yl P a w ⟨d, .load t x, tt, pos, af, gd⟩ (.int k (zs.getD j 0)) := by
 have h := m.ok i _ hm
 have hc : w.cell? ⟨g, j, none⟩ = some (.int k (zs.getD j 0)) := by
   rcases h.2 with ⟨rfl, h0⟩ | ⟨g', cap, cur, rfl, hg', hbk, h1, h2, h3, h4⟩
   · cases hg
   · injection hg with hg; subst hg
     have := h.cellAt j (by omega)
     rw [this]; simp [hj, List.getD]
 show (execOp _ _).run P w = _
 simp [execOp, ha.ev hx, Instr.loadAt, Instr.sureAddr, run_load1 hu hr hc]

/-! ### Making, writing, calling -/
theorem e_alloc (ha : Has n T a) (m : MemOk X w0 M w) (i : Nat) {d : Tmp} {t : TypeId} {cs : List Value} (hz : ((P.info? t).bind (·.zero)).map (·.cells.toList) = some cs) (ht : Nat.blt d n = true) (h : ∀ g a' w', Has n ((d, .pointer (some ⟨g, 0, none⟩)) :: T) a' → MemOk X w0 ((i, .box g t cs) :: M) w' → Below w.heap.size w w' → g = w.heap.size → K a' w') : Oper.wp P ⟨some d, .alloc t, tt, pos, af, gd⟩ a w K Q := by
 cases hi : P.info? t with
 | none => simp [hi] at hz
 | some it =>
   cases hzz : it.zero with
   | none => simp [hi, hzz] at hz
   | some z =>
     have hc : z.cells.toList = cs := by simpa [hi, hzz] using hz
     have hr : (execOp a.eval ⟨some d, .alloc t, tt, pos, af, gd⟩).run P w = .ok (.value (.pointer (some ⟨w.heap.size, 0, none⟩))) (w.alloc (.cells z.cells t)) := by
       simp [execOp, Instr.alloc, zeroValue, typeInfo, hi, hzz, newVar, newRow]
     show Oper.upon P _ a K Q _
     rw [hr]
     have := m.box i t z.cells
     rw [hc] at this
     exact h _ _ _ (ha.put ht _) this ((Below.refl _ w).alloc (Nat.le_refl _) _) rfl
theorem e_box (ha : Has n T a) (m : MemOk X w0 M w) (i : Nat) {d : Tmp} {t : TypeId} {x : Operand} {v : Value} {cs : List Value} (hx : evT T x = some v) (hc : v.cells.toList = cs) (ht : Nat.blt d n = true) (h : ∀ g a' w', Has n ((d, .pointer (some ⟨g, 0, none⟩)) :: T) a' → MemOk X w0 ((i, .box g t cs) :: M) w' → Below w.heap.size w w' → g = w.heap.size → K a' w') : Oper.wp P ⟨some d, .box t x, tt, pos, af, gd⟩ a w K Q := by
 have hr : (execOp a.eval ⟨some d, .box t x, tt, pos, af, gd⟩).run P w = .ok (.value (.pointer (some ⟨w.heap.size, 0, none⟩))) (w.alloc (.cells v.cells t)) := by
   simp [execOp, Instr.box, newVar, newRow, ha.ev hx]
 show Oper.upon P _ a K Q _
 rw [hr]
 have := m.box i t v.cells
 rw [hc] at this
 exact h _ _ _ (ha.put ht _) this ((Below.refl _ w).alloc (Nat.le_refl _) _) rfl
theorem MemOk.setB (m : MemOk X w0 M w) {i g : Nat} {e : TypeId} {cs cs' : List Value} (hm : lk M i = some (.box g e cs)) {w' : World} (hb : Blk w' g e cs') (hk : Keep (fun b => b = g) w w') : MemOk X w0 ((i, .box g e cs') :: M) w' :=
 m.upd i _ (hk.mono (fun b e => ⟨_, hm, by rw [show b = g from e]; rfl⟩)) (fun b hb => .inl ⟨_, hm, hb⟩) (fun _ _ => ⟨hb, (m.ok i _ hm).2⟩)
theorem e_store1 (ha : Has n T a) (m : MemOk X w0 M w) (i : Nat) {g o : Nat} {t e : TypeId} {x y : Operand} {cs cs' : List Value} {v : Value} (hm : lk M i = some (.box g e cs)) (hx : evT T x = some (.pointer (some ⟨g, o, none⟩))) (hy : evT T y = some v) (h1 : v.oneCell' = true) (ho : Nat.blt o cs.length = true) (hs : (P.info? t).map (·.size) = some 1) (hc : cs.set o v = cs') (h : ∀ w', MemOk X w0 ((i, .box g e cs') :: M) w' → Keep (fun b => b = g) w w' → K a w') : Oper.wp P ⟨none, .store t x y, tt, pos, af, gd⟩ a w K Q := by
 have ho' : o < cs.length := by simpa [Nat.blt_eq] using ho
 obtain ⟨w', hr, hb, hk⟩ := run_storeVar_blk (P := P) (m.ok i _ hm).1 o t [v] (by simp; omega) (by simpa using hs) (by simpa using h1)
 have hst : (Instr.storeAt t (.pointer (some ⟨g, o, none⟩)) v).run P w = .ok () w' := by
   have e1 : v.cells = #[v] := cells_one h1
   have e2 : (Value.agg #[v]).cells = #[v] := rfl
   simp only [Instr.storeAt, storeVar, List.toArray, e1, e2] at hr ⊢
   exact hr
 have hrun : (execOp a.eval ⟨none, .store t x y, tt, pos, af, gd⟩).run P w = .ok .skip w' := by
   simp [execOp, ha.ev hx, ha.ev hy, hst]
 show Oper.upon P _ a K Q _
 rw [hrun]
 refine h w' (m.setB hm ?_ (hk _ rfl)) (hk _ rfl)
 rw [← hc, List.set_eq_take_append_cons_drop, if_pos ho']
 simpa using hb
theorem e_storeR (ha : Has n T a) (m : MemOk X w0 M w) (i : Nat) {g o : Nat} {t e : TypeId} {x y : Operand} {cs cs' : List Value} {xs : Array Value} (hm : lk M i = some (.box g e cs)) (hx : evT T x = some (.pointer (some ⟨g, o, none⟩))) (hy : evT T y = some (.agg xs)) (h1 : xs.toList.all (fun v => v.oneCell') = true) (ho : Nat.ble (o + xs.size) cs.length = true) (hs : (P.info? t).map (·.size) = some xs.size) (hc : cs.take o ++ xs.toList ++ cs.drop (o + xs.size) = cs') (h : ∀ w', MemOk X w0 ((i, .box g e cs') :: M) w' → Keep (fun b => b = g) w w' → K a w') : Oper.wp P ⟨none, .store t x y, tt, pos, af, gd⟩ a w K Q := by
 obtain ⟨w', hr, hb, hk⟩ := run_storeVar_blk (P := P) (m.ok i _ hm).1 o t xs.toList (by simpa using ho) (by simpa using hs) (List.all_eq_true.1 h1)
 have hrun : (execOp a.eval ⟨none, .store t x y, tt, pos, af, gd⟩).run P w = .ok .skip w' := by
   have hr' : (Instr.storeAt t (.pointer (some ⟨g, o, none⟩)) (.agg xs)).run P w = .ok () w' := by simpa using hr
   simp [execOp, ha.ev hx, ha.ev hy, hr']
 show Oper.upon P _ a K Q _
 rw [hrun]
 refine h w' (m.setB hm ?_ (hk _ rfl)) (hk _ rfl)
 rw [← hc]
 simpa using hb
theorem e_storeW (ha : Has n T a) (m : MemOk X w0 M w) (i : Nat) {g : Nat} {t e : TypeId} {x y : Operand} {cs xs : List Value} (hm : lk M i = some (.box g e cs)) (hx : evT T x = some (.pointer (some ⟨g, 0, none⟩))) (hy : evT T y = some (.agg xs.toArray)) (h1 : xs.all (fun v => v.oneCell') = true) (hl : xs.length = cs.length) (hs : (P.info? t).map (·.size) = some xs.length) (h : ∀ w', MemOk X w0 ((i, .box g e xs) :: M) w' → Keep (fun b => b = g) w w' → K a w') : Oper.wp P ⟨none, .store t x y, tt, pos, af, gd⟩ a w K Q :=
 e_storeR ha m i hm hx hy (by simpa using h1) (by simp; omega) (by simpa using hs) (by simp [hl]) h
theorem e_call (ha : Has n T a) {d : Tmp} {f : FuncId} {args : Array Operand} {ats : Array TypeId} {fn : Func} {vs : List Value} (hf : P.funcs[f]? = some fn) (hn : (fn.name == "runtime.NumGoroutine") = false) (hb : fn.body.isNone = false) (hargs : evA T args.toList = some vs) (ht : Nat.blt d n = true) {R : Ending → World → Prop} (hc : Calls P f vs.toArray w R) (h : ∀ e w', R e w' → ∃ v, e = .returned v ∧ ∀ a', Has n ((d, v) :: T) a' → K a' w') : Oper.wp P ⟨some d, .call { callee := .value (.func f), args := args, argTypes := ats }, tt, pos, af, gd⟩ a w K Q := by
 have hv : args.map a.eval = vs.toArray := by
   apply Array.ext'; rw [Array.toList_map, ha.evA hargs]
 have hr : (execOp a.eval ⟨some d, .call { callee := .value (.func f), args := args, argTypes := ats }, tt, pos, af, gd⟩).run P w = .ok (.enter f vs.toArray) w := by
   have hn' : ¬ fn.name = "runtime.NumGoroutine" := by simpa using hn
   have hb' : ¬ fn.body = none := by cases h9 : fn.body with | none => rw [h9] at hb; cases hb | some c => simp
   simp [execOp, resolve, Act.eval, Deferred.ofValue, invoke, callFunc, hf, hn', hb', hv]
 show Oper.upon P _ a K Q _
 rw [hr]
 show Calls P f vs.toArray w _
 refine hc.mono (fun e w' hR => ?_)
 obtain ⟨v, rfl, hh⟩ := h e w' hR
 exact hh _ (ha.put ht v)
end
end
section
theorem NumsS.nums {S : Nat → Prop} {k : IntKind} {w : World} {v : Value} {zs : List Int} (h : NumsS S k w v zs) : IsNums k w v zs := by
 obtain ⟨a, c, rfl, hc, h0 | ⟨b, off, rfl, h1, h2, h3⟩⟩ := h
 · exact ⟨a, c, rfl, .inl h0⟩
 · exact ⟨_, c, rfl, .inr ⟨b, off, rfl, h2, h3⟩⟩
theorem NumsS.take {S : Nat → Prop} {k : IntKind} {w : World} {p : Option Addr} {l c : Nat} {zs : List Int} (h : NumsS S k w (.slice p l c) zs) (j : Nat) (hj : j ≤ zs.length) : NumsS S k w (.slice p j c) (zs.take j) := by
 obtain ⟨a, c', e, hc, hz⟩ := h
 injection e with e1 e2 e3
 subst e1; subst e3
 have hl : (zs.take j).length = j := by rw [List.length_take]; omega
 refine ⟨_, _, by rw [hl], ⟨by omega, hc.2⟩, ?_⟩
 rcases hz with h0 | ⟨b, off, rfl, h1, h2, h3⟩
 · left; omega
 · refine .inr ⟨b, off, rfl, h1, h2, fun q hq => ?_⟩
   rw [h3 q (by omega)]
   simp [List.getD, List.getElem?_take, show q < j by omega]
theorem NumsS.drop {S : Nat → Prop} {k : IntKind} {w : World} {p : Option Addr} {l c : Nat} {zs : List Int} (h : NumsS S k w (.slice p l c) zs) (j : Nat) (hj : j ≤ zs.length) : NumsS S k w (.slice (if c = j then p else p.map (·.add (j * 1))) (l - j) (c - j)) (zs.drop j) := by
 obtain ⟨a, c', e, hc, hz⟩ := h
 injection e with e1 e2 e3
 subst e1; subst e3; subst e2
 refine ⟨_, _, by rw [List.length_drop], ⟨by rw [List.length_drop]; omega, by omega⟩, ?_⟩
 rcases hz with h0 | ⟨b, off, rfl, h1, h2, h3⟩
 · left; rw [List.length_drop]; omega
 · by_cases he : c = j
   · left; rw [List.length_drop]; omega
   · refine .inr ⟨b, off + j, by rw [if_neg he]; simp [Addr.add_mid], h1, h2, fun q hq => ?_⟩
     rw [List.length_drop] at hq
     rw [Nat.add_assoc, h3 (j + q) (by omega)]
     simp [List.getD, List.getElem?_drop]

theorem Rd.cells {S : Nat → Prop} {w : World} {u : Value} {mm : Nat} {rows : List (List D)} (h : Rd S w u (.l mm rows)) : ∃ (p : Option Addr) (c : Nat) (cs : List (List Value)), u = .slice p rows.length c ∧ cs.length = rows.length ∧ (∀ c ∈ cs, c.length = mm ∧ ∀ x ∈ c, x.oneCell' = true) ∧ (∀ r ∈ rows, r.length = mm) ∧
   (∀ (j q : Nat) (c : List Value) (r : List D) (x : Value) (d : D), cs[j]? = some c → rows[j]? = some r → c[q]? = some x → r[q]? = some d → Rd S w x d) ∧ (rows.length = 0 ∨ ∃ ad, p = some ad ∧ ∀ j u, cs.flatten[j]? = some u → w.cell? (ad.add j) = some u) := by
 cases h with
 | l0 a c m => exact ⟨a, c, [], rfl, rfl, by simp, by simp, by simp, .inl rfl⟩
 | l m b off c rows f hS hb hc hm hcell hr =>
   have hin : ∀ c ∈ (List.range rows.length).map (fun j => (List.range mm).map (f j)), c.length = mm ∧ ∀ x ∈ c, x.oneCell' = true := by
     intro c hc'
     obtain ⟨j, hj, rfl⟩ := List.mem_map.1 hc'
     refine ⟨by simp, fun x hx => ?_⟩
     obtain ⟨q, hq, rfl⟩ := List.mem_map.1 hx
     exact (hcell j q (List.mem_range.1 hj) (List.mem_range.1 hq)).2
   refine ⟨_, c, (List.range rows.length).map (fun j => (List.range mm).map (f j)), rfl, by simp, hin, hm, fun j q c r x d a1 a2 a3 a4 => ?_, .inr ⟨_, rfl, fun j u hj => ?_⟩⟩
   · have hj := (List.getElem?_eq_some_iff.1 a2).1
     have hc1 : c = (List.range mm).map (f j) := by simpa [hj] using a1.symm
     subst hc1
     have hq : q < mm := by have := (List.getElem?_eq_some_iff.1 a3).1; simpa using this
     have hx : x = f j q := by simpa [hq] using a3.symm
     subst hx
     exact hr j q r d a2 a4
   · have hjl := (List.getElem?_eq_some_iff.1 hj).1
     have hfl : ((List.range rows.length).map (fun j => (List.range mm).map (f j))).flatten.length = rows.length * mm := by
       rw [← List.flatMap_id, parts_len id mm _ (fun c hc => (hin c hc).1)]; simp
     rw [hfl] at hjl
     have hm0 : 0 < mm := Nat.pos_of_ne_zero (fun e => by subst e; simp at hjl)
     have hd : j / mm < rows.length := Nat.div_lt_of_lt_mul (by rw [Nat.mul_comm]; exact hjl)
     have hr' : j % mm < mm := Nat.mod_lt _ hm0
     have hjj : j / mm * mm + j % mm = j := by rw [Nat.mul_comm]; exact Nat.div_add_mod j mm
     have hf := flatten_at ((List.range rows.length).map (fun j => (List.range mm).map (f j))) (j / mm) (j % mm) ((List.range mm).map (f (j / mm))) (fun c hc => (hin c hc).1) (by simp [hd]) hr'
     rw [hjj, hj] at hf
     have hu : u = f (j / mm) (j % mm) := by simpa [hr'] using hf
     subst hu
     rw [Addr.add_mid, ← (hcell (j / mm) (j % mm) hd hr').1]
     congr 2
     omega

section
variable {P : Program} {n : Nat} {T : List (Nat × Value)} {a : Act} {w w0 : World} {X : Cx} {M : Mm} {tt : TypeId} {pos : String} {af : Array Edge} {gd : Option (Nat × Bool)} {ops : Array Oper} {rest : List Oper} {Q : Exit → Act → World → Prop} {K : Act → World → Prop}
theorem MemOk.nums (m : MemOk X w0 M w) {i : Nat} {v : Value} {k : IntKind} {zs : List Int} (hm : lk M i = some (.dat v (.ns k zs))) : IsNums k w v zs := (m.ok i _ hm).ns_out.nums
theorem MemOk.numsO (m : MemOk X w0 M w) {i : Nat} {v : Value} {e : TypeId} {k : IntKind} {zs : List Int} (hm : lk M i = some (.num v e k zs)) : IsNums k w v zs := IsNums.ofOwn (m.ok i _ hm)
theorem run_appS {w : World} (base : Nat) (t ty e : TypeId) (k : IntKind) (bytes : Nat) (ht : P.underlying t = some (.slice e)) (hinf : (P.info? e).map (fun i => (i.zero, i.size, i.bytes)) = some (some (.int k 0), 1, bytes)) (hb8 : bytes ≤ 8)
   (v : Value) (xs : List Int) (hown : w.ownsRow base e 1 v xs.length (xs.map (Value.int k))) (u : Value) (zs : List Int) (hu : IsNums k w u zs) (hn : xs.length + zs.length ≤ 1000000000) (hbase : base ≤ w.heap.size) :
   ∃ v' w', (Builtin.append_ #[t, t] ty #[v, u]).run P w = .ok v' w' ∧ w'.ownsRow base e 1 v' (xs ++ zs).length ((xs ++ zs).map (Value.int k)) ∧ w.grownBy w' v.ownBlock ∧ (v'.ownBlock = v.ownBlock ∨ v'.ownBlock = some w.heap.size) := by
 have hbn : (xs.length + zs.length) * bytes ≤ 140737488355328 := Nat.le_trans (Nat.mul_le_mul_left _ hb8) (by omega)
 obtain ⟨p, c, rfl, hp⟩ := hu
 rw [List.length_append, List.map_append]
 have main : ∀ ad : Addr, p = some ad → (∀ j v, (zs.map (Value.int k))[j]? = some v → w.cell? (ad.add j) = some v) → ∃ v' w', (Builtin.append_ #[t, t] ty #[v, .slice p zs.length c]).run P w = .ok v' w' ∧ w'.ownsRow base e 1 v' (xs.length + zs.length) (xs.map (Value.int k) ++ zs.map (Value.int k)) ∧ w.grownBy w' v.ownBlock ∧ (v'.ownBlock = v.ownBlock ∨ v'.ownBlock = some w.heap.size) := by
   intro ad hpa hcells
   rw [hpa]
   exact run_append_where (P := P) w base t ty e (.int k 0) 1 bytes ht hinf rfl (by decide) v xs.length _ hown ad zs.length c (zs.map (Value.int k)) (by simp) hcells (by intro u hu; obtain ⟨y, _, rfl⟩ := List.mem_map.1 hu; rfl) (by unfold maxLen; omega) hbn hbase
 by_cases h0 : zs.length = 0
 · obtain rfl := List.length_eq_zero_iff.1 h0
   cases p with
   | none =>
     obtain ⟨i0, hi, -⟩ := info_parts hinf
     refine ⟨v, w, run_app_none ht hi hown c, by simpa using hown, ⟨rfl, rfl, rfl, Nat.le_refl _, fun _ _ _ => rfl⟩, .inl rfl⟩
   | some ad => exact main ad rfl (by simp)
 · rcases hp with hp | ⟨b, off, rfl, hblk, hc⟩
   · exact absurd hp h0
   · refine main _ rfl ?_
     intro j u hj
     have hjn : j < zs.length := by
       have := (List.getElem?_eq_some_iff.1 hj).1
       simpa using this
     rw [Addr.add_lit, hc j hjn]
     simp [hjn] at hj
     subst hj
     simp [List.getD, hjn]
theorem keep_grown {w w' : World} {v : Value} (hg : w.grownBy w' v.ownBlock) : Keep (fun b => v.ownBlock = some b) w w' := ⟨hg.os, hg.tape, hg.output, hg.size, fun k hk hn => hg.block k hk (fun e => hn e.symm)⟩
theorem e_appN (ha : Has n T a) (m : MemOk X w0 M w) (i : Nat) {d : Tmp} {t e : TypeId} {k : IntKind} {bytes : Nat} {s x : Operand} {v u : Value} {xs zs : List Int} (hm : lk M i = some (.num v e k xs)) (hs : evT T s = some v) (hx : evT T x = some u) (hu : IsNums k w u zs)
   (ht : P.underlying t = some (.slice e)) (hinf : (P.info? e).map (fun i => (i.zero, i.size, i.bytes)) = some (some (.int k 0), 1, bytes)) (hb8 : bytes ≤ 8) (hn : xs.length + zs.length ≤ 1000000000) (hd : Nat.blt d n = true)
   (h : ∀ p c a' w', Has n ((d, .slice p (xs ++ zs).length c) :: T) a' → MemOk X w0 ((i, .num (.slice p (xs ++ zs).length c) e k (xs ++ zs)) :: M) w' → K a' w') : Oper.wp P ⟨some d, .call { callee := .builtin .append, args := #[s, x], argTypes := #[t, t] }, tt, pos, af, gd⟩ a w K Q := by
 obtain ⟨v', w', hr, h1, h2, h3⟩ := run_appS (P := P) w0.heap.size t tt e k bytes ht hinf hb8 v xs (m.ok i _ hm) u zs hu hn m.keep.size
 have hm' : MemOk X w0 ((i, .num v' e k (xs ++ zs)) :: M) w' := m.upd i _ ((keep_grown h2).mono (fun b e => ⟨_, hm, e⟩)) (fun b hb => by
   rcases h3 with e1 | e1
   · exact .inl ⟨_, hm, e1.symm.trans hb⟩
   · have : some w.heap.size = some b := e1.symm.trans hb
     injection this with this; right; omega) (fun _ _ => h1)
 obtain ⟨p, c, e1⟩ := ownsRow_shape h1
 have hrun : (execOp a.eval ⟨some d, .call { callee := .builtin .append, args := #[s, x], argTypes := #[t, t] }, tt, pos, af, gd⟩).run P w = .ok (.value v') w' := by
   simp only [execOp, resolve, invoke, builtin, Sem.run_bind, Sem.run_pure, Result.andThen_ok, List.map_toArray, List.map_cons, List.map_nil, ha.ev hs, ha.ev hx, hr]
 show Oper.upon P _ a K Q _
 rw [hrun]
 subst e1
 exact h p c _ _ (ha.put hd _) hm'
end
end
section
def evLit (T : List (Nat × Value)) : Nat → List (Nat × Operand) → Option (List Value)
 | _, [] => some []
 | i, (j, x) :: l => bif Nat.beq j i then (match evT T x, evLit T (i + 1) l with
   | some v, some r => some (v :: r)
   | _, _ => none) else none
def intsOf (k : IntKind) : List Value → Option (List Int)
 | [] => some []
 | .int k' z :: r => if k' = k then (match intsOf k r with | some t => some (z :: t) | none => none) else none
 | _ :: _ => none
theorem intsOf_map {k : IntKind} : ∀ {vs : List Value} {zs : List Int}, intsOf k vs = some zs → vs = zs.map (Value.int k)
 | [], zs, h => by cases h; rfl
 | v :: r, zs, h => by
   cases v <;> try (cases h; done)
   case int k' z =>
     unfold intsOf at h
     split at h
     · rename_i e; subst e
       cases hr : intsOf k' r with
       | none => rw [hr] at h; cases h
       | some t => rw [hr] at h; cases h; rw [List.map_cons, ← intsOf_map hr]
     · cases h
theorem Has.evLit {n : Nat} {T : List (Nat × Value)} {a : Act} (h : Has n T a) : ∀ {l : List (Nat × Operand)} {i : Nat} {vs : List Value}, K.evLit T i l = some vs → l.map (fun x => (x.1, a.eval x.2)) = (vs.zipIdx i).map (fun x => (x.2, x.1))
 | [], i, vs, e => by cases e; rfl
 | (j, x) :: l, i, vs, e => by
   unfold K.evLit at e
   cases hb : Nat.beq j i with
   | false => rw [hb] at e; cases e
   | true =>
     rw [hb] at e
     dsimp only [cond] at e
     obtain rfl := Nat.eq_of_beq_eq_true hb
     cases hx : evT T x with
     | none => rw [hx] at e; cases e
     | some v =>
       cases hl : K.evLit T (j + 1) l with
       | none => rw [hx, hl] at e; cases e
       | some r =>
         rw [hx, hl] at e
         cases e
         rw [List.map_cons, h.evLit hl, h.ev hx, List.zipIdx_cons, List.map_cons]
inductive RowsL (S : Nat → Prop) (w : World) (mm : Nat) : List Value → List (List D) → Prop
 | nil : RowsL S w mm [] []
 | cons {v : Value} {r : List D} {vs : List Value} {rs : List (List D)} (hl : v.cells.toList.length = mm) (h1 : v.cells.toList.all (fun x => x.oneCell') = true) (hr : RdL S w v.cells.toList r) (t : RowsL S w mm vs rs) : RowsL S w mm (v :: vs) (r :: rs)
theorem RowsL.out {S : Nat → Prop} {w : World} {mm : Nat} {vs : List Value} {rs : List (List D)} (h : RowsL S w mm vs rs) : vs.length = rs.length ∧ (∀ v ∈ vs, v.cells.size = mm ∧ ∀ x ∈ v.cells.toList, x.oneCell' = true) ∧ (∀ r ∈ rs, r.length = mm) ∧ ∀ (j q : Nat) (c : List Value) (r : List D) (x : Value) (d : D), (vs.map (·.cells.toList))[j]? = some c → rs[j]? = some r → c[q]? = some x → r[q]? = some d → Rd S w x d := by
 induction h with
 | nil => exact ⟨rfl, by simp, by simp, by simp⟩
 | cons hl h1 hr t ih =>
   obtain ⟨e1, e2, e3, e4⟩ := ih
   refine ⟨by simp [e1], fun v hv => ?_, fun r hr' => ?_, fun j q c r x d a1 a2 a3 a4 => ?_⟩
   · rcases List.mem_cons.1 hv with rfl | hv
     · exact ⟨by simpa using hl, List.all_eq_true.1 h1⟩
     · exact e2 v hv
   · rcases List.mem_cons.1 hr' with rfl | hr'
     · rw [← hr.len, hl]
     · exact e3 r hr'
   · cases j with
     | zero => simp at a1 a2; subst a1; subst a2; exact hr.get q x d a3 a4
     | succ j => exact e4 j q c r x d (by simpa using a1) (by simpa using a2) a3 a4

theorem Rd.l_out {S : Nat → Prop} {w : World} {v : Value} {mm : Nat} {rows : List (List D)} (h : Rd S w v (.l mm rows)) : rows = [] ∨ ∃ (b off c : Nat) (f : Nat → Nat → Value), v = .slice (some ⟨b, off, none⟩) rows.length c ∧ S b ∧ b < w.heap.size ∧ (∀ r ∈ rows, r.length = mm) ∧ (∀ j q, j < rows.length → q < mm → w.cell? ⟨b, off + j * mm + q, none⟩ = some (f j q) ∧ (f j q).oneCell' = true) ∧ (∀ (j q : Nat) (r : List D) (d : D), rows[j]? = some r → r[q]? = some d → Rd S w (f j q) d) := by
 cases h with
 | l0 a c m => exact .inl rfl
 | l m b off c rows f hS hb hc hm hcell hr => exact .inr ⟨b, off, c, f, rfl, hS, hb, hm, hcell, hr⟩
section
variable {P : Program} {n : Nat} {T : List (Nat × Value)} {a : Act} {w w0 : World} {X : Cx} {M : Mm} {tt : TypeId} {pos : String} {af : Array Edge} {gd : Option (Nat × Bool)} {ops : Array Oper} {rest : List Oper} {Q : Exit → Act → World → Prop} {K : Act → World → Prop}
theorem MemOk.only (m : MemOk X w0 M w) (l : List Nat) : MemOk X w0 (keepT M l) w := m.sub (keepT_lk M l)
theorem MemOk.rd (m : MemOk X w0 M w) {i : Nat} {v : Value} {d : D} (h : lk M i = some (.dat v d)) : Rd (Free X M) w v d := m.ok i _ h
theorem y_idx (ha : Has n T a) {d : Option Tmp} {t e : TypeId} {x y : Operand} {b o l c s : Nat} {k : IntKind} {q : Int} (hx : evT T x = some (.slice (some ⟨b, o, none⟩) l c)) (hy : evT T y = some (.int k q)) (hu : P.underlying t = some (.slice e)) (hs : (P.info? e).map (·.size) = some s) (j : Nat) (hq : q = j) (hj : j < l) : Yl P a w ⟨d, .indexAddr t x y, tt, pos, af, gd⟩ (.pointer (some ⟨b, o + j * s, none⟩)) := by
 show (execOp _ _).run P w = _
 simp [execOp, ha.ev hx, ha.ev hy, run_idx hu hs j hq hj]
theorem MemOk.openN (m : MemOk X w0 M w) {i : Nat} {p : Option Addr} {l c : Nat} {k : IntKind} {zs : List Int} (hm : lk M i = some (.dat (.slice p l c) (.ns k zs))) (j : Nat) (hj : j < zs.length) (i2 : Nat) (hi2 : lk M i2 = none) : ∃ b o, p = some ⟨b, o, none⟩ ∧ MemOk X w0 ((i2, .cel b (o + j * 1) [.int k (zs.getD j 0)]) :: M) w := by
 obtain ⟨p', c', e, hc, h0 | ⟨b, off, rfl, h1, h2, h3⟩⟩ := (m.ok i _ hm).ns_out
 · omega
 · injection e with e1 e2 e3
   refine ⟨b, off, e1, m.cel i2 hi2 h1 h2 (fun q v hv => ?_)⟩
   obtain rfl : q = 0 := by have := (List.getElem?_eq_some_iff.1 hv).1; simpa using this
   simp at hv; subst hv
   rw [Nat.add_zero, Nat.mul_one]; exact h3 j hj
theorem MemOk.openO (m : MemOk X w0 M w) {i : Nat} {p : Option Addr} {l c : Nat} {e : TypeId} {k : IntKind} {zs : List Int} (hm : lk M i = some (.num (.slice p l c) e k zs)) (hz : 0 < zs.length) : ∃ g, p = some ⟨g, 0, none⟩ := by
 rcases (m.ok i _ hm).2 with ⟨_, h0⟩ | ⟨g, cap, cur, e, _⟩
 · omega
 · injection e with e1; exact ⟨g, e1⟩
theorem y_str (ha : Has n T a) {d : Option Tmp} {s t e : TypeId} {x : Operand} {v : Value} {bs : List Int} (hx : evT T x = some v) (hv : IsNums .u8 w v bs) (hs : P.underlying s = some (.slice e)) (he : P.underlying e = some (.int .u8)) (hd : P.underlying t = some .string) : Yl P a w ⟨d, .convert s t x, tt, pos, af, gd⟩ (.string (strOfNums bs)) := by
 show (execOp _ _).run P w = _
 simp [execOp, ha.ev hx, conv_str hv s e hs he t hd]
theorem e_litN (ha : Has n T a) (m : MemOk X w0 M w) (i : Nat) {d : Tmp} {t e : TypeId} {len : Nat} {parts : Array (Nat × Operand)} {vs : List Value} {k : IntKind} {zs : List Int} (hp : evLit T 0 parts.toList = some vs) (hz : intsOf k vs = some zs) (hu : P.underlying t = some (.slice e)) {z : Value} {bytes : Nat} (hinf : (P.info? e).map (fun i => (i.zero, i.size, i.bytes)) = some (some z, 1, bytes)) (hl : zs.length = len) (h0 : Nat.blt 0 len = true) (h1 : Nat.ble len 1000 = true) (ht : Nat.blt d n = true)
   (h : ∀ g a' w', Has n ((d, .slice (some ⟨g, 0, none⟩) len len) :: T) a' → MemOk X w0 ((i, .num (.slice (some ⟨g, 0, none⟩) len len) e k zs) :: M) w' → K a' w') : Oper.wp P ⟨some d, .buildSlice t len parts, tt, pos, af, gd⟩ a w K Q := by
 obtain ⟨ie, hie, hzz, hsz, -⟩ := info_parts hinf
 have h0' : 0 < len := by simpa using h0
 have h1' : len ≤ 1000 := by simpa using h1
 have hvs := intsOf_map hz
 have hpl := ha.evLit hp
 have hf : Instr.fill (fun i => some (i * ie.size, ie.size)) ((Array.range (len * ie.size)).map (z.cells[· % z.cells.size]!)) (parts.map fun (i, x) => (i, a.eval x)).toList = some (zs.map (Value.int k)).toArray := by
   rw [Array.toList_map, hsz, hvs] at *
   have := Great.fill_flat (zs.map (Value.int k)) ((Array.range (len * 1)).map (z.cells[· % z.cells.size]!)) (fun v hv => by obtain ⟨x, _, rfl⟩ := List.mem_map.1 hv; rfl) (by simp [hl])
   rw [← this]
   congr 1
 have hr := run_buildSlice (P := P) w t e len _ _ ie z hu hie hzz (by rw [hsz]; omega) (by rw [hsz]; omega) hf
 have hrun : (execOp a.eval ⟨some d, .buildSlice t len parts, tt, pos, af, gd⟩).run P w = .ok (.value (.slice (some ⟨w.heap.size, 0, none⟩) len len)) (w.alloc (.cells (zs.map (Value.int k)).toArray e)) := by
   simp only [execOp, Sem.run_bind, hr, Result.andThen_ok, Sem.run_pure]
 show Oper.upon P _ a K Q _
 rw [hrun]
 refine h _ _ _ (ha.put ht _) (m.newN i ((Below.refl _ w).alloc (Nat.le_refl _) _) ?_)
 rw [hl]
 have := World.ownsRow_lit (base := w.heap.size) (e := e) (size := 1) w (zs.map (Value.int k)).toArray len (Nat.le_refl _) (by unfold maxLen; omega) (by simp [hl])
 simpa using this
theorem e_litR (ha : Has n T a) (m : MemOk X w0 M w) (i : Nat) {d : Tmp} {t e : TypeId} {len mm : Nat} {parts : Array (Nat × Operand)} {vs : List Value} {rows : List (List D)} (hp : evLit T 0 parts.toList = some vs) (hz : RowsL (Free X M) w mm vs rows) (hu : P.underlying t = some (.slice e)) {z : Value} {bytes : Nat} (hinf : (P.info? e).map (fun i => (i.zero, i.size, i.bytes)) = some (some z, mm, bytes)) (hzs : z.cells.size = mm) (hl : rows.length = len) (h0 : Nat.blt 0 (len * mm) = true) (h1 : Nat.ble (len * mm) 1000 = true) (ht : Nat.blt d n = true)
   (h : ∀ g a' w', Has n ((d, .slice (some ⟨g, 0, none⟩) len len) :: T) a' → MemOk X w0 ((i, .row (.slice (some ⟨g, 0, none⟩) len len) e mm rows) :: M) w' → K a' w') : Oper.wp P ⟨some d, .buildSlice t len parts, tt, pos, af, gd⟩ a w K Q := by
 obtain ⟨ie, hie, hzz, hsz, -⟩ := info_parts hinf
 have h0' : 0 < len * mm := by simpa using h0
 have h1' : len * mm ≤ 1000 := by simpa using h1
 have hmm : 0 < mm := Nat.pos_of_mul_pos_left h0'
 have hlen : len ≤ len * mm := Nat.le_mul_of_pos_right _ hmm
 obtain ⟨o1, o2, o3, o4⟩ := hz.out
 have hpl := ha.evLit hp
 have hf : Instr.fill (fun i => some (i * ie.size, ie.size)) ((Array.range (len * ie.size)).map (z.cells[· % z.cells.size]!)) (parts.map fun (i, x) => (i, a.eval x)).toList = some (vs.flatMap fun v => v.cells.toList).toArray := by
   rw [Array.toList_map, hsz]
   have := Great.fill_whole hmm vs ((Array.range (len * mm)).map (z.cells[· % z.cells.size]!)) (fun v hv => (o2 v hv).1) (by simp [o1, hl])
   rw [← this]
   congr 1
 have hr := run_buildSlice (P := P) w t e len _ _ ie z hu hie hzz (by rw [hsz]; omega) (by rw [hsz]; omega) hf
 have hrun : (execOp a.eval ⟨some d, .buildSlice t len parts, tt, pos, af, gd⟩).run P w = .ok (.value (.slice (some ⟨w.heap.size, 0, none⟩) len len)) (w.alloc (.cells (vs.flatMap fun v => v.cells.toList).toArray e)) := by
   simp only [execOp, Sem.run_bind, hr, Result.andThen_ok, Sem.run_pure]
 have hbel : Below w.heap.size w (w.alloc (.cells (vs.flatMap fun v => v.cells.toList).toArray e)) := (Below.refl _ w).alloc (Nat.le_refl _) _
 show Oper.upon P _ a K Q _
 rw [hrun]
 refine h _ _ _ (ha.put ht _) (m.newR i hbel ⟨vs.map (·.cells.toList), ?_, by simp [o1], ?_, o3, fun j q c r x d a1 a2 a3 a4 => (o4 j q c r x d a1 a2 a3 a4).mono hbel.size (fun b hlt hS => ⟨hbel.block b hlt, .inl ⟨hS, hlt⟩⟩)⟩)
 · rw [hl, ← List.flatMap_def]
   have hsz2 : (vs.flatMap fun v => v.cells.toList).length = len * mm := by rw [parts_len _ mm _ (fun v hv => by simpa using (o2 v hv).1), o1, hl]
   have := World.ownsRow_lit (base := w.heap.size) (e := e) (size := mm) w (vs.flatMap fun v => v.cells.toList).toArray len (Nat.le_refl _) (by unfold maxLen; omega) (by simpa using hsz2)
   simpa using this
 · intro c hc
   obtain ⟨v, hv, rfl⟩ := List.mem_map.1 hc
   exact ⟨by simpa using (o2 v hv).1, (o2 v hv).2⟩

/-! ### The ends -/
theorem ret1 (ha : Has n T a) {fn : Func} {t : Tmp} {v : Value} {R : Ending → World → Prop} (hr : fn.results = #[.tmp t]) (hv : lk T t = some v) (h : R (.returned v) w) : bodyPost P fn R .ret a w :=
 ⟨ha.d, v, by rw [results_tmp hr, ha.h t v hv], h⟩
theorem ret2 (ha : Has n T a) {fn : Func} {t s : Tmp} {v u : Value} {R : Ending → World → Prop} (hr : fn.results = #[.tmp t, .tmp s]) (hv : lk T t = some v) (hu : lk T s = some u) (h : R (.returned (.tuple #[v, u])) w) : bodyPost P fn R .ret a w :=
 ⟨ha.d, _, by rw [results_tmp2 hr, ha.h t v hv, ha.h s u hu], h⟩
theorem ret0 (ha : Has n T a) {fn : Func} {R : Ending → World → Prop} (hr : fn.results = #[]) (h : R (.returned (.tuple #[])) w) : bodyPost P fn R .normal a w :=
 ⟨ha.d, _, results_none hr _ _ _, h⟩
theorem out_here {id : Nat} (h : Q .normal a w) : Exit.inBlock id Q (.exit id) a w := by simpa [Exit.inBlock] using h
theorem enter {f : FuncId} {fn : Func} {c : Code} {args : List Value} {R : Ending → World → Prop} {N : Nat} (hf : P.funcs[f]? = some fn) (hb : fn.body = some c) (hN : fn.ntmps = N) (hl : Nat.ble args.length N = true) (h : ∀ a, Has N (args.zipIdx.map (fun x => (x.2, x.1))) a → c.wp P (bodyPost P fn R) a w) : Calls P f args.toArray w R := by
 refine calls_of_wp hf hb (h _ ⟨rfl, ?_, fun t v hv => ?_⟩)
 · have : args.length ≤ N := by simpa using hl
   simp [hN]; omega
 · have key : ∀ (l : List Value) (k : Nat), lk ((l.zipIdx k).map (fun x => (x.2, x.1))) t = some v → k ≤ t ∧ l[t - k]? = some v := by
     intro l
     induction l with
     | nil => intro k h; cases h
     | cons x l ih =>
       intro k h
       rw [List.zipIdx_cons, List.map_cons, lk_cons] at h
       by_cases e : k = t
       · rw [if_pos e] at h; cases h; subst e; simp
       · rw [if_neg e] at h
         obtain ⟨h1, h2⟩ := ih (k + 1) h
         refine ⟨by omega, ?_⟩
         rw [show t - k = (t - (k + 1)) + 1 by omega, List.getElem?_cons_succ]; exact h2
   have := (key args 0 hv).2
   rw [Nat.sub_zero] at this
   have hlt := (List.getElem?_eq_some_iff.1 this).1
   have e9 : args[t] = v := by rw [List.getElem?_eq_getElem hlt] at this; injection this
   simp [Array.getD_eq_getD_getElem?, Array.getElem?_append, hlt, e9]
end
end
end Go.Proofs.YtmoghepeggohhaaDoor.K
