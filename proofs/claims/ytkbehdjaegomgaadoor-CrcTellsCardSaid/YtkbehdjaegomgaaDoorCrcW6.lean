/- The walk of CrcTells: it returns true, and writes nothing that was there. -/
import Derived.Test.YtkbehdjaegomgaaDoorCrcR2
import Derived.Test.YtkbehdjaegomgaaDoorLists
namespace Go.Proofs.YtkbehdjaegomgaaDoor.K
open Go.ChangeShapes Go.WideShapes Go.ChangeAt Go.RowKit
set_option linter.unusedVariables false

def flat : List (List Int) → List Int
  | [] => []
  | l :: ls => l ++ flat ls
theorem flat_append (a b : List (List Int)) : flat (a ++ b) = flat a ++ flat b := by
  induction a with
  | nil => rfl
  | cons l a ih => show l ++ flat (a ++ b) = (l ++ flat a) ++ flat b; rw [ih, List.append_assoc]
theorem flat_snoc (ls : List (List Int)) (k : Nat) (h : k < ls.length) : flat (ls.take (k + 1)) = flat (ls.take k) ++ ls.getD k [] := by
  rw [List.take_succ_eq_append_getElem h, flat_append]
  simp [flat, List.getD, h]
theorem flat_bytes (ls : List (List Int)) (h : ∀ j, j < ls.length → Bytes (ls.getD j [])) : ∀ x ∈ flat ls, 0 ≤ x ∧ x ≤ 255 := by
  induction ls with
  | nil => intro x hx; simp [flat] at hx
  | cons l ls ih =>
    intro x hx
    rcases List.mem_append.1 hx with h1 | h1
    · exact (h 0 (by simp)).mem x h1
    · exact ih (fun j hj => h (j + 1) (by simpa using hj)) x h1
theorem flat_len (ls : List (List Int)) (m : Nat) (h : ∀ j, j < ls.length → (ls.getD j []).length ≤ m) : (flat ls).length ≤ ls.length * m := by
  induction ls with
  | nil => simp [flat]
  | cons l ls ih =>
    have h1 := ih (fun j hj => h (j + 1) (by simpa using hj))
    have h2 : l.length ≤ m := h 0 (by simp)
    show (l ++ flat ls).length ≤ (ls.length + 1) * m
    rw [List.length_append, Nat.succ_mul]
    omega
theorem fold_more (ls : List (List Int)) : ∀ (c : Int) (b : List Int), 0 ≤ c → c < 4294967296 → ls.foldl moreC (moreC c b) = moreC c (b ++ flat ls) := by
  induction ls with
  | nil => intro c b _ _; simp [flat]
  | cons l ls ih =>
    intro c b h0 h1
    rw [List.foldl_cons, moreC_append, ih _ _ h0 h1, List.append_assoc]
    rfl
theorem sum_flat (ls : List (List Int)) : sumC ls = sumC [flat ls] := by
  have h := fold_more ls 0 [] (by omega) (by omega)
  rw [moreC_nil 0 (by omega) (by omega)] at h
  exact h
theorem sum_snoc1 (ls : List (List Int)) (b : List Int) : sumC (ls ++ [b]) = moreC (sumC ls) b := by
  unfold sumC; rw [List.foldl_append]; rfl
theorem bytes_of {bs : List Int} (h : ∀ x ∈ bs, 0 ≤ x ∧ x ≤ 255) : Bytes bs := fun j hj => h _ (by rw [List.getD, List.getElem?_eq_getElem hj]; exact List.getElem_mem hj)

/-- A slice that may be opened. -/
def Good (w : World) (u : Value) (ys : List Int) : Prop := ∃ p m c, u = .slice p m c ∧ m ≤ c ∧ ys.length = m ∧ m ≤ 10000 ∧ IsNums .u8 w u ys ∧ Bytes ys
theorem Good.below {B : Nat} {w w' : World} {u : Value} {ys : List Int} (h : Good w u ys) (hb : Below B w w') (hB : w.heap.size ≤ B) : Good w' u ys := by
  obtain ⟨p, m, c, h1, h2, h3, h4, h5, h6⟩ := h
  exact ⟨p, m, c, h1, h2, h3, h4, h5.below hb hB, h6⟩

theorem open_good (u : Value) (ys : List Int) (w : World) (hT : TabOk w) (h1 : 1 ≤ w.heap.size) (h : Good w u ys) : Calls Tryd.prog 8 #[u] w (OpenPost ys w) := by
  obtain ⟨p, m, c, rfl, h2, h3, h4, h5, h6⟩ := h
  by_cases hm : m < 4
  · exact open_short p m c ys w h3 hm
  · obtain ⟨n, rfl⟩ : ∃ n, m = n + 4 := ⟨m - 4, by omega⟩
    exact open_long p n c ys w hT h1 h5 h3 h2 h6 (by omega)
theorem openr_good (u : Value) (ys : List Int) (w : World) (h : Good w u ys) : Calls Tryd.prog 9 #[u] w (OpenPost ys w) := by
  obtain ⟨p, m, c, rfl, h2, h3, h4, h5, h6⟩ := h
  by_cases hm : m < 4
  · exact openr_short p m c ys w h3 hm
  · obtain ⟨n, rfl⟩ : ∃ n, m = n + 4 := ⟨m - 4, by omega⟩
    exact openr_long p n c ys w h5 h3 h2 h6 (by omega)

theorem own_turn {w3 w4 : World} {v4 : Value} {S : List Int} {m Q : Nat} (hS : S.length = m) (hQ : Q < m) (hown : w4.ownsRow w3.heap.size 5 1 v4 (0 + S.length) ([] ++ S.map (Value.int .u8))) (hb4 : Below w3.heap.size w3 w4) (y : Int) (hy : S.getD Q 0 = y) (V : Int) :
    ∃ gd cd, v4 = .slice (some ⟨gd, 0, none⟩) m cd ∧ m ≤ cd ∧ w4.cell? ⟨gd, Q, none⟩ = some (.int .u8 y) ∧ w4.frozen? ⟨gd, Q, none⟩ = false ∧ Hid (Below w3.heap.size w3 (w4.setCell ⟨gd, Q, none⟩ (.int .u8 V))) ∧
      Hid ((w4.setCell ⟨gd, Q, none⟩ (.int .u8 V)).ownsRow w3.heap.size 5 1 (.slice (some ⟨gd, 0, none⟩) m cd) m ((S.set Q V).map (Value.int .u8))) := by
  rw [hS, Nat.zero_add, List.nil_append] at hown
  obtain ⟨gd, cd, rfl, hcd, hgd⟩ : ∃ gd cd, v4 = .slice (some ⟨gd, 0, none⟩) m cd ∧ m ≤ cd ∧ w3.heap.size ≤ gd := by
    rcases hown.2 with ⟨-, h0⟩ | ⟨g, cap, cur, rfl, hg, _, hle, _, _, _⟩
    · omega
    · exact ⟨g, cap, rfl, hle, hg⟩
  have hcell : w4.cell? ⟨gd, Q, none⟩ = some (.int .u8 y) := by
    rw [hown.cellAt Q (by omega), ← hy]
    simp [List.getD, hS, hQ]
  have hst := hown.stored Q (.int .u8 V)
  have hs' : (S.map (Value.int .u8)).set Q (.int .u8 V) = (S.set Q V).map (Value.int .u8) := by rw [List.map_set]
  rw [hs'] at hst
  exact ⟨gd, cd, rfl, hcd, hcell, hown.frozenAt Q, Lib.hid (hb4.grown hst.2 (by have := hb4.size; omega) (fun j hj => by cases hj; exact hgd)), Lib.hid hst.1⟩

theorem list4 (W : World) (u0 u1 u2 u3 : Value) (y0 y1 y2 y3 : List Int) (T : TypeId) (h0 : Good W u0 y0) (h1 : Good W u1 y1) (h2 : Good W u2 y2) (h3 : Good W u3 y3) :
    ∀ j, j < 4 → ∃ u ys, (W.alloc (.cells #[u0, u1, u2, u3] T)).cell? ⟨W.heap.size, j, none⟩ = some u ∧ Good (W.alloc (.cells #[u0, u1, u2, u3] T)) u ys := by
  have hb := (Below.refl W.heap.size W).alloc (Nat.le_refl _) (.cells #[u0, u1, u2, u3] T)
  intro j hj
  obtain rfl | rfl | rfl | rfl : j = 0 ∨ j = 1 ∨ j = 2 ∨ j = 3 := by omega
  · exact ⟨u0, y0, by unfold World.cell? World.alloc; simp, h0.below hb (Nat.le_refl _)⟩
  · exact ⟨u1, y1, by unfold World.cell? World.alloc; simp, h1.below hb (Nat.le_refl _)⟩
  · exact ⟨u2, y2, by unfold World.cell? World.alloc; simp, h2.below hb (Nat.le_refl _)⟩
  · exact ⟨u3, y3, by unfold World.cell? World.alloc; simp, h3.below hb (Nat.le_refl _)⟩

theorem single_cell (p : Option Addr) (n c : Nat) : ∀ j, j < [Value.slice p n c].length → ([Value.slice p n c].getD j default).oneCell' = true := by
  intro j hj
  obtain rfl : j = 0 := by simpa using hj
  rfl
theorem extAlloc' (W : World) (o : Obj) : Ext W (W.alloc o) := (Below.refl _ W).alloc (Nat.le_refl _) o
theorem small_snoc {ls : List (List Int)} {b : List Int} (h : ∀ j, j < ls.length → Bytes (ls.getD j []) ∧ (ls.getD j []).length ≤ 1000000) (hb : Bytes b) (hl : b.length ≤ 1000000) :
    ∀ j, j < (ls ++ [b]).length → Bytes ((ls ++ [b]).getD j []) ∧ ((ls ++ [b]).getD j []).length ≤ 1000000 := by
  intro j hj
  by_cases hjl : j < ls.length
  · have h2 : (ls ++ [b]).getD j [] = ls.getD j [] := by simp only [List.getD]; rw [List.getElem?_append_left hjl]
    rw [h2]; exact h j hjl
  · obtain rfl : j = ls.length := by simp at hj; omega
    have h2 : (ls ++ [b]).getD ls.length [] = b := by simp [List.getD]
    rw [h2]; exact ⟨hb, hl⟩
theorem own_mono {w : World} {B B' : Nat} {e : TypeId} {size : Nat} {v : Value} {n : Nat} {xs : List Value} (h : w.ownsRow B' e size v n xs) (hB : B ≤ B') : w.ownsRow B e size v n xs := by
  refine ⟨h.1, ?_⟩
  rcases h.2 with h0 | ⟨g, cap, cur, hv, hg, hr⟩
  · exact .inl h0
  · exact .inr ⟨g, cap, cur, hv, Nat.le_trans hB hg, hr⟩
theorem vals_snoc {X w : World} {us : List Value} {ls : List (List Int)} {u : Value} {b : List Int} (hun : ∀ j, j < us.length → IsNums .u8 X (us.getD j default) (ls.getD j [])) (hul : us.length = ls.length) (hu : IsNums .u8 X u b) (h : Ext X w) :
    ∀ j, j < ([] ++ us ++ [u]).length → IsNums .u8 w (([] ++ us ++ [u]).getD j default) ((ls ++ [b]).getD j []) := by
  intro j hj
  simp only [List.nil_append, List.length_append, List.length_cons, List.length_nil] at hj ⊢
  by_cases hjl : j < us.length
  · have h1 : (us ++ [u]).getD j default = us.getD j default := by simp only [List.getD]; rw [List.getElem?_append_left hjl]
    have h2 : (ls ++ [b]).getD j [] = ls.getD j [] := by simp only [List.getD]; rw [List.getElem?_append_left (by omega)]
    rw [h1, h2]
    exact (hun j hjl).below h (Nat.le_refl _)
  · obtain rfl : j = us.length := by omega
    have h1 : (us ++ [u]).getD us.length default = u := by simp [List.getD]
    have h2 : (ls ++ [b]).getD us.length [] = b := by rw [hul]; simp [List.getD]
    rw [h1, h2]
    exact hu.below h (Nat.le_refl _)
theorem vals_one (W : World) (u : Value) (T : TypeId) : IsVals (W.alloc (.cells #[u] T)) (.slice (some ⟨W.heap.size, 0, none⟩) 1 1) [u] := by
  refine ⟨_, 1, rfl, .inr ⟨_, 0, rfl, by simp, fun j hj => ?_⟩⟩
  obtain rfl : j = 0 := by simpa using hj
  unfold World.cell? World.alloc
  simp [List.getD]

set_option maxRecDepth 100000 in
set_option maxHeartbeats 8000000 in
theorem tells_walk (p : Option Addr) (n cc : Nat) (bs : List Int) (a : Option Addr) (ln lc : Nat) (ls : List (List Int)) (c at_ x : Int) (w : World) (hT : TabOk w) (hw : 1 ≤ w.heap.size)
    (h0 : IsNums .u8 w (.slice p n cc) bs) (hl : bs.length = n) (hcc : n ≤ cc) (hb : Bytes bs) (hm : n ≤ maxLen) (h1 : IsLists w (.slice a ln lc) ls) (hl1 : ls.length = ln) (hm1 : ln ≤ maxLen) (hb1 : ∀ j, j < ls.length → Bytes (ls.getD j []))
    (hc : 0 ≤ c ∧ c < 4294967296) (hat : 0 ≤ at_ ∧ at_ ≤ 65535) (hx : 0 ≤ x ∧ x ≤ 255) :
    Calls Tryd.prog 3 #[.slice p n cc, .slice a ln lc, .int .u32 c, .int .u16 at_, .int .u8 x] w fun e w' => e = .returned (.bool true) ∧ Below w.heap.size w w' := by
  unfold maxLen at hm hm1
  have HT := Lib.hid hT
  have H0 := Lib.hid h0
  have H1 := Lib.hid h1
  have HB := Lib.hid hb
  have HB1 := Lib.hid hb1
  clear hT h0 hb h1 hb1
  by_cases q : 200 < n ∨ 8 < ln
  · go_enter Tryd.func3, Tryd.ntmps3
    go_wp2_with fail
    refine (known_true _ HT.out hw).mono ?_
    rintro en w1 ⟨rfl, hb1⟩
    by_cases q1 : 200 < n
    · go_wp2
      go_ret
      exact ⟨rfl, hb1⟩
    · go_wp2
      go_ret
      exact ⟨rfl, hb1⟩
  have q1 : n ≤ 200 := by omega
  have q2 : ln ≤ 8 := by omega
  clear q
  have d1 : decide ((200 : Int) < (n : Int)) = false := by simp; omega
  have d2 : decide ((8 : Int) < (ln : Int)) = false := by simp; omega
  obtain ⟨N, hN⟩ : ∃ N, w.heap.size = N := ⟨_, rfl⟩
  go_enter Tryd.func3, Tryd.ntmps3
  go_wp2_with fail
  refine (known_true _ HT.out hw).mono ?_
  rintro en w1 ⟨rfl, hbw1⟩
  rw [hN] at hbw1
  have hs1 := hbw1.size
  clear d1 d2
  have d1 : decide ((200 : Int) < (n : Int)) = false := by simp; omega
  have d2 : decide ((8 : Int) < (ln : Int)) = false := by simp; omega
  go_wp2_with fail
  go_loopw [11, 12] (fun v i wr => ∃ k : Nat, k ≤ ln ∧ i = .int .i64 k ∧ (∀ j, j < k → (ls.getD j []).length ≤ 60) ∧ wr.ownsRow N 5 1 v (flat (ls.take k)).length ((flat (ls.take k)).map (Value.int .u8)) ∧ Below N w wr) (fun _ i _ => ln - (intOf i).toNat)
  case atStart => exact ⟨0, by omega, rfl, by intro j hj; omega, by simpa [flat] using World.ownsRow_nil _ _ _ _, hbw1⟩
  case round =>
    obtain ⟨k, hk, rfl, h60, hown, hbel⟩ := hrel
    have H60 := Lib.hid h60
    have hsr := hbel.size
    clear h60
    by_cases hlt : k < ln
    · obtain ⟨a', c', hv', hA⟩ := H1.out
      simp only [Value.slice.injEq] at hv'
      obtain ⟨rfl, -, rfl⟩ := hv'
      obtain h00 | ⟨b, off, rfl, hblk, hcells⟩ := hA
      · omega
      obtain ⟨u, hu, hnu⟩ := hcells k (by omega)
      obtain ⟨up, uc, rfl, hup⟩ := id hnu
      have HU := Lib.hid (hnu.below hbel (by omega))
      have hu' : wr.cell? ⟨b, off + k, none⟩ = some (.slice up (ls.getD k []).length uc) := by rw [hbel.cell (by show b < N; omega)]; exact hu
      have hflen := flat_len (ls.take k) 60 (fun j hj => by
        have hj' : j < k := by simp at hj; omega
        have := H60.out j hj'
        rw [show (ls.take k).getD j [] = ls.getD j [] by simp only [List.getD, List.getElem?_take]; rw [if_pos hj']]
        exact this)
      have hfl2 : (flat (ls.take k)).length ≤ 480 := by
        have : (ls.take k).length ≤ 8 := by simp; omega
        calc _ ≤ _ := hflen
          _ ≤ 8 * 60 := Nat.mul_le_mul_right _ this
      have HFS := Lib.hid (flat_snoc ls k (by omega))
      obtain ⟨zs, hzs⟩ : ∃ zs, ls.getD k [] = zs := ⟨_, rfl⟩
      rw [hzs] at hu' HU HFS
      have HZ := Lib.hid hzs
      obtain ⟨M, hM⟩ : ∃ M, zs.length = M := ⟨_, rfl⟩
      have HM := Lib.hid hM
      rw [hM] at hu' HU
      obtain ⟨G, hG⟩ : ∃ G, (flat (ls.take k)).length = G := ⟨_, rfl⟩
      have HG := Lib.hid hG
      rw [hG] at hown hfl2
      clear hzs hcells hu hnu hup hflen hG hM
      by_cases hbig : 60 < M
      · go_wp2
        go_ret
        exact ⟨rfl, by rw [hN]; exact hbel⟩
      · go_wp2_with (at_builtin; refine wpList_appN rfl _ _ 22 rfl N 5 .u8 1 Tryd.underlying22 info_u8 (by omega) _ _ _ rfl hown _ _ rfl HU.out (by rw [HM.out]; omega) (by omega) ?_; intro v2 w2 hown2 hb2)
        refine ⟨⟨k + 1, by omega, by go_num, ?_, ?_, hbel.trans hb2⟩, by simp [intOf]; omega⟩
        · intro j hj
          by_cases h : j = k
          · subst h; rw [HZ.out, HM.out]; omega
          · exact H60.out j (by omega)
        · have e : flat (ls.take (k + 1)) = flat (ls.take k) ++ zs := HFS.out
          rw [e, List.length_append, List.map_append, HG.out, HM.out]
          rw [HM.out] at hown2
          exact hown2
    · obtain rfl : k = ln := by omega
      have hall : ls.take k = ls := by rw [← hl1, List.take_length]
      rw [hall] at hown
      have hfl : (flat ls).length ≤ 480 := by
        have h1 := flat_len ls 60 (fun j hj => H60.out j (by omega))
        calc _ ≤ _ := h1
          _ ≤ 8 * 60 := Nat.mul_le_mul_right _ (by omega)
      have HA := Lib.hid (IsNums.ofOwn hown)
      have HAB := Lib.hid (bytes_of (flat_bytes ls HB1.out))
      have HSB := Lib.hid (show Bytes (sealC bs) from bytes_of (by
        intro y hy
        rcases List.mem_append.1 hy with h | h
        · exact HB.out.mem y h
        · exact (fourC_bytes _).mem y h))
      have hLs : (sealC bs).length = n + 4 := by rw [sealC_len, hl]
      go_wp2_with fail
      refine (seal_ref _ bs wr (H0.out.below hbel (by omega)) HB.out (by omega)).mono ?_
      rintro e w3 ⟨sv, rfl, hownS, hb3⟩
      have hs3 := hb3.size
      have HS3 := Lib.hid (IsNums.ofOwn hownS)
      obtain ⟨gs, cs, rfl, hcs⟩ : ∃ gs cs, sv = .slice (some ⟨gs, 0, none⟩) (n + 4) cs ∧ n + 4 ≤ cs := by
        rcases hownS.2 with ⟨-, h0⟩ | ⟨g, cap, cur, rfl, _, _, hle, _, _, _⟩
        · omega
        · rw [hLs] at hle ⊢; exact ⟨g, cap, rfl, hle⟩
      have hB3 : Below N w w3 := hbel.trans (hb3.mono (by omega))
      have HA3 := Lib.hid (HA.out.below hb3 (Nat.le_refl _))
      clear hownS hown
      obtain ⟨Q, hQ⟩ : ∃ Q : Nat, at_ % ((n : Int) + 4) = (Q : Int) := ⟨(at_ % ((n : Int) + 4)).toNat, by have := Int.emod_nonneg at_ (show (n : Int) + 4 ≠ 0 by omega); omega⟩
      have hQ4 : Q < n + 4 := by have := Int.emod_lt_of_pos at_ (show (0 : Int) < (n : Int) + 4 by omega); omega
      have hQt : at_.tmod ((n : Int) + 4) = (Q : Int) := by rw [Int.tmod_eq_emod_of_nonneg (by omega), hQ]
      have hq2 : (Q : Int) < (n : Int) + 4 := by omega
      have hq4 : (0 : Int) ≤ (Q : Int) := by omega
      have hq5 : ¬ ((n : Int) + 4 = 0) := by omega
      have hq6 : (Q : Int) ≤ (cs : Int) := by omega
      obtain ⟨y, hy⟩ : ∃ y, (sealC bs).getD Q 0 = y := ⟨_, rfl⟩
      have hy2 : 0 ≤ y ∧ y ≤ 255 := by rw [← hy]; exact HSB.out Q (by omega)
      obtain ⟨V, hV⟩ : ∃ V, bits .xor .u8 y x = V := ⟨_, rfl⟩
      have hV2 : 0 ≤ V ∧ V ≤ 255 := by
        rw [← hV, u8_xor y x (by omega) (by omega) (by omega) (by omega)]
        have : y.toNat ^^^ x.toNat < 2 ^ 8 := Nat.xor_lt_two_pow (by omega) (by omega)
        omega
      go_wp2_with (at_builtin; refine wpList_appN rfl _ _ 22 rfl w3.heap.size 5 .u8 1 Tryd.underlying22 info_u8 (by omega) _ 0 [] rfl (World.ownsRow_nil _ _ _ _) _ _ rfl HS3.out (by rw [hLs]; omega) (Nat.le_refl _) ?_; intro v4 w4 hown4 hb4; obtain ⟨gd, cd, rfl, hcd, hcell, hfz, HB5, HO5⟩ := own_turn hLs hQ4 hown4 hb4 y hy V; clear hown4)
      obtain ⟨W5, hW5⟩ : ∃ W5, w4.setCell ⟨gd, Q, none⟩ (.int .u8 V) = W5 := ⟨_, rfl⟩
      have hsz5 : w4.heap.size = W5.heap.size := by rw [← hW5]; simp
      rw [hW5] at HB5 HO5 ⊢
      rw [hsz5]
      have hB5 : Below N w W5 := hB3.trans (HB5.out.mono (by omega))
      have hsz3 := HB5.out.size
      have hVB : Bytes ((sealC bs).set Q V) := bytes_of (fun z hz => by
        rcases List.mem_or_eq_of_mem_set hz with h | rfl
        · exact HSB.out.mem z h
        · exact hV2)
      have gB : Good W5 (.slice p n cc) bs := ⟨p, n, cc, rfl, hcc, hl, by omega, H0.out.below hB5 (by omega), HB.out⟩
      have nS := HS3.out.below HB5.out (Nat.le_refl _)
      have gS : Good W5 (.slice (some ⟨gs, 0, none⟩) (n + 4) cs) (sealC bs) := ⟨_, _, _, rfl, hcs, hLs, by omega, nS, HSB.out⟩
      have gD : Good W5 (.slice (some ⟨gd, 0, none⟩) (n + 4) cd) ((sealC bs).set Q V) := ⟨_, _, _, rfl, hcd, by simp [hLs], by omega, IsNums.ofOwn HO5.out, hVB⟩
      have gQ : Good W5 (.slice (some ⟨gs, 0, none⟩) Q cs) ((sealC bs).take Q) := ⟨_, _, _, rfl, by omega, by simp; omega, by omega, slice_take nS Q (by omega) cs, bytes_of (fun z hz => HSB.out.mem z (List.mem_of_mem_take hz))⟩
      have HG := Lib.hid (list4 W5 _ _ _ _ _ _ _ _ 22 gB gS gD gQ)
      obtain ⟨WL, hWL⟩ : ∃ WL, W5.alloc (.cells #[.slice p n cc, .slice (some ⟨gs, 0, none⟩) (n + 4) cs, .slice (some ⟨gd, 0, none⟩) (n + 4) cd, .slice (some ⟨gs, 0, none⟩) Q cs] 22) = WL := ⟨_, rfl⟩
      have hb6 : Below W5.heap.size W5 WL := by rw [← hWL]; exact (Below.refl _ W5).alloc (Nat.le_refl _) _
      have hs6 : WL.heap.size = W5.heap.size + 1 := by rw [← hWL]; simp
      rw [hWL] at HG ⊢
      have hB6 : Below N w WL := hB5.trans (hb6.mono (by omega))
      have HB6 := Lib.hid hB6
      have HA6 := Lib.hid (HA3.out.below (HB5.out.trans (hb6.mono hsz3)) (Nat.le_refl _))
      have HS6 := Lib.hid (nS.below hb6 (Nat.le_refl _))
      clear gB gS gD gQ nS hVB hb6 hB6 hB5 hB3 HB5 HO5 HA3 HS3 HA hcell hfz hb3 hb4 hbel hWL hW5
      go_loopw [76] (fun i wr => ∃ k : Nat, k ≤ 4 ∧ i = .int .i64 k ∧ Below WL.heap.size WL wr) (fun i _ => 4 - (intOf i).toNat)
      case atStart => exact ⟨0, by omega, rfl, Below.refl _ _⟩
      case round =>
        obtain ⟨m, hm4, rfl, hbr⟩ := hrel
        have hsr := hbr.size
        by_cases hlt : m < 4
        · obtain ⟨u, ys, hu, hgood⟩ := HG.out m hlt
          have hu' : wr.cell? ⟨W5.heap.size, m, none⟩ = some u := by rw [hbr.cell (by show W5.heap.size < _; omega)]; exact hu
          have HGo := Lib.hid (hgood.below hbr (Nat.le_refl _))
          have HTr := Lib.hid (HT.out.below (HB6.out.trans (hbr.mono (by have := HB6.out.size; omega))) (by omega))
          clear hu hgood
          go_wp2_with fail
          refine (open_good u ys wr HTr.out (by have := HB6.out.size; omega) HGo.out).mono ?_
          rintro e wa ⟨o1, rfl, hNa, hba⟩
          have HGa := Lib.hid (HGo.out.below hba (Nat.le_refl _))
          go_wp2_with fail
          refine (openr_good u ys wa HGa.out).mono ?_
          rintro e wb ⟨o2, rfl, hNb, hbb⟩
          have e1 := conv_at (hNa.below hbb (Nat.le_refl _)) (Below.refl _ wb)
          have e2 := conv_at hNb (Below.refl _ wb)
          have HBR := Lib.hid (hbr.trans ((hba.trans (hbb.mono hba.size)).mono hsr))
          clear hNa hNb hba hbb hbr
          go_wp2
          exact ⟨⟨m + 1, by omega, by go_num, HBR.out⟩, by simp [intOf]; omega⟩
        · obtain rfl : m = 4 := by omega
          go_wp2_with fail
          have hBD : Below N w wr.drew := (HB6.out.trans (hbr.mono (by have := HB6.out.size; omega))).drew
          have hs1 : N ≤ wr.drew.heap.size := by have := hBD.size; omega
          have hs0 : 1 ≤ wr.drew.heap.size := by omega
          have HTD := Lib.hid (HT.out.below hBD (by omega))
          have HUB := Lib.hid (H0.out.below hBD (by omega))
          have HLD := Lib.hid (H1.out.below' hBD (by omega))
          have HAD := Lib.hid (HA6.out.below hbr.drew (Nat.le_refl _))
          have HSD := Lib.hid (HS6.out.below hbr.drew (Nat.le_refl _))
          have HSM := Lib.hid (fun j (hj : j < ls.length) => (⟨HB1.out j hj, Nat.le_trans (H60.out j (by omega)) (by decide)⟩ : Bytes (ls.getD j []) ∧ (ls.getD j []).length ≤ 1000000))
          have HSM2 := Lib.hid (small_snoc HSM.out HB.out (by omega : bs.length ≤ 1000000))
          obtain ⟨S, hS⟩ : ∃ S, sumC ls = S := ⟨_, rfl⟩
          obtain ⟨M, hM⟩ : ∃ M, moreC c bs = M := ⟨_, rfl⟩
          obtain ⟨M2, hM2⟩ : ∃ M2, moreC S bs = M2 := ⟨_, rfl⟩
          have HSl := Lib.hid hS
          have HSf := Lib.hid ((sum_flat ls).symm.trans hS)
          have HSr := Lib.hid (show 0 ≤ S ∧ S < 4294967296 by rw [← hS]; exact sumC_range ls)
          have HMo := Lib.hid hM
          have HM1 := Lib.hid hM2
          have HM2 := Lib.hid (show sumC (ls ++ [bs]) = M2 by rw [sum_snoc1, hS, hM2])
          clear hS hM hM2 hbr hsr HA6 HS6 HB6 HG
          refine region_begin (by kernel_rfl) ?_
          refine step_read 0 (some 101) (v := ?v0) rfl (by rfl) (by kernel_rfl) (by kernel_rfl) (by kernel_rfl) (fun _ _ _ h => h) (by rfl) ?y0 ?n0
          case y0 => intro W hW; go_simp; try with_reducible rfl
          try simp only [Act.put, List.setIfInBounds_toArray, List.set_cons_zero, List.set_cons_succ]
          refine step_read 2 (some 103) (v := ?v2) rfl (by rfl) (by kernel_rfl) (by kernel_rfl) (by kernel_rfl) (fun _ _ _ h => h) (by rfl) ?y2 ?n2
          case y2 => intro W hW; go_simp; try with_reducible rfl
          try simp only [Act.put, List.setIfInBounds_toArray, List.set_cons_zero, List.set_cons_succ]
          refine step_only 1 rfl (by kernel_rfl) (by rfl) (fun K' hK => ?_)
          go_simp
          go_at_call 10
          refine (sum_any _ ls _ HTD.out HLD.out HSM.out (by omega)).mono ?_
          rw [HSl.out]
          rintro e x1 ⟨rfl, rfl⟩
          refine hK _ _ (Below.refl _ _) ?_
          clear hK K'
          try simp only [Act.put, List.setIfInBounds_toArray, List.set_cons_zero, List.set_cons_succ]
          refine step_only 3 rfl (by kernel_rfl) (by rfl) (fun K' hK => ?_)
          go_simp
          go_at_call 11
          refine (sum_ref _ (flat ls) _ HAD.out HAB.out (by omega)).mono ?_
          rw [HSf.out]
          rintro e x3 ⟨rfl, rfl⟩
          refine hK _ _ (Below.refl _ _) ?_
          clear hK K'
          try simp only [Act.put, List.setIfInBounds_toArray, List.set_cons_zero, List.set_cons_succ]
          refine step_read 4 (some 105) (v := ?v4) rfl (by rfl) (by kernel_rfl) (by kernel_rfl) (by kernel_rfl) (fun _ _ _ h => h) (by rfl) ?y4 ?n4
          case y4 => intro W hW; go_simp; try with_reducible rfl
          try simp only [Act.put, List.setIfInBounds_toArray, List.set_cons_zero, List.set_cons_succ]
          refine step_read 5 (some 106) (v := ?v5) rfl (by rfl) (by kernel_rfl) (by kernel_rfl) (by kernel_rfl) (fun _ _ _ h => h) (by rfl) ?y5 ?n5
          case y5 => intro W hW; go_simp; try with_reducible rfl
          try simp only [Act.put, List.setIfInBounds_toArray, List.set_cons_zero, List.set_cons_succ]
          refine step_read 6 (some 107) (v := ?v6) rfl (by rfl) (by kernel_rfl) (by kernel_rfl) (by kernel_rfl) (fun _ _ _ h => h) (by rfl) ?y6 ?n6
          case y6 => intro W hW; go_simp; try with_reducible rfl
          try simp only [Act.put, List.setIfInBounds_toArray, List.set_cons_zero, List.set_cons_succ]
          refine step_read 7 (some 108) (v := ?v7) rfl (by rfl) (by kernel_rfl) (by kernel_rfl) (by kernel_rfl) (fun _ _ _ h => h) (by rfl) ?y7 ?n7
          case y7 => intro W hW; go_simp; try with_reducible rfl
          try simp only [Act.put, List.setIfInBounds_toArray, List.set_cons_zero, List.set_cons_succ]
          refine step_read 9 (some 110) (v := ?v9) rfl (by rfl) (by kernel_rfl) (by kernel_rfl) (by kernel_rfl) (fun _ _ _ h => h) (by rfl) ?y9 ?n9
          case y9 => intro W hW; go_simp; try with_reducible rfl
          try simp only [Act.put, List.setIfInBounds_toArray, List.set_cons_zero, List.set_cons_succ]
          refine step_read 10 (some 111) (v := ?v10) rfl (by rfl) (by kernel_rfl) (by kernel_rfl) (by kernel_rfl) (fun _ _ _ h => h) (by rfl) ?y10 ?n10
          case y10 => intro W hW; go_simp; try with_reducible rfl
          try simp only [Act.put, List.setIfInBounds_toArray, List.set_cons_zero, List.set_cons_succ]
          refine step_only 8 rfl (by kernel_rfl) (by rfl) (fun K' hK => ?_)
          go_simp
          go_at_call 12
          refine (more_any c _ bs _ hc HTD.out HUB.out HB.out (by omega)).mono ?_
          rw [HMo.out]
          rintro e x8 ⟨rfl, rfl⟩
          refine hK _ _ (Below.refl _ _) ?_
          clear hK K'
          try simp only [Act.put, List.setIfInBounds_toArray, List.set_cons_zero, List.set_cons_succ]
          refine step_only 11 rfl (by kernel_rfl) (by rfl) (fun K' hK => ?_)
          go_simp
          go_at_call 13
          refine (more_ref c _ bs _ hc HUB.out HB.out (by omega)).mono ?_
          rw [HMo.out]
          rintro e x11 ⟨rfl, rfl⟩
          refine hK _ _ (Below.refl _ _) ?_
          clear hK K'
          try simp only [Act.put, List.setIfInBounds_toArray, List.set_cons_zero, List.set_cons_succ]
          refine step_read 12 (some 113) (v := ?v12) rfl (by rfl) (by kernel_rfl) (by kernel_rfl) (by kernel_rfl) (fun _ _ _ h => h) (by rfl) ?y12 ?n12
          case y12 => intro W hW; go_simp; try with_reducible rfl
          try simp only [Act.put, List.setIfInBounds_toArray, List.set_cons_zero, List.set_cons_succ]
          refine step_read 13 (some 114) (v := ?v13) rfl (by rfl) (by kernel_rfl) (by kernel_rfl) (by kernel_rfl) (fun _ _ _ h => h) (by rfl) ?y13 ?n13
          case y13 => intro W hW; go_simp; try with_reducible rfl
          try simp only [Act.put, List.setIfInBounds_toArray, List.set_cons_zero, List.set_cons_succ]
          refine step_read 14 (some 115) (v := ?v14) rfl (by rfl) (by kernel_rfl) (by kernel_rfl) (by kernel_rfl) (fun _ _ _ h => h) (by rfl) ?y14 ?n14
          case y14 => intro W hW; go_simp; try with_reducible rfl
          try simp only [Act.put, List.setIfInBounds_toArray, List.set_cons_zero, List.set_cons_succ]
          refine step_read 15 (some 116) (v := ?v15) rfl (by rfl) (by kernel_rfl) (by kernel_rfl) (by kernel_rfl) (fun _ _ _ h => h) (by rfl) ?y15 ?n15
          case y15 => intro W hW; go_simp; try with_reducible rfl
          try simp only [Act.put, List.setIfInBounds_toArray, List.set_cons_zero, List.set_cons_succ]
          refine step_read 18 (some 119) (v := ?v18) rfl (by rfl) (by kernel_rfl) (by kernel_rfl) (by kernel_rfl) (fun _ _ _ h => h) (by rfl) ?y18 ?n18
          case y18 => intro W hW; go_simp; try with_reducible rfl
          try simp only [Act.put, List.setIfInBounds_toArray, List.set_cons_zero, List.set_cons_succ]
          refine step_read 19 (some 120) (v := ?v19) rfl (by rfl) (by kernel_rfl) (by kernel_rfl) (by kernel_rfl) (fun _ _ _ h => h) (by rfl) ?y19 ?n19
          case y19 => intro W hW; have ec := conv_at HSD.out hW; go_simp; try with_reducible rfl
          try simp only [Act.put, List.setIfInBounds_toArray, List.set_cons_zero, List.set_cons_succ]
          refine step_only 16 rfl (by kernel_rfl) (by rfl) (fun K' hK => ?_)
          go_simp
          go_at_call 14
          refine (seal_is _ bs _ HTD.out hs0 HUB.out HB.out (by omega) (sealC bs) (n + 4) rfl hLs).mono ?_
          rintro e x16 ⟨p16, c16, rfl, -, hN16, hb16⟩
          have K16 := Lib.hid hN16
          replace hBD := hBD.trans (hb16.mono hs1)
          replace hs1 := Nat.le_trans hs1 hb16.size
          replace HTD := Lib.hid (HTD.out.below hb16 hs0)
          replace hs0 := Nat.le_trans hs0 hb16.size
          replace HUB := Lib.hid (HUB.out.below hb16 (Nat.le_refl _))
          replace HLD := Lib.hid (HLD.out.below' hb16 (Nat.le_refl _))
          replace HAD := Lib.hid (HAD.out.below hb16 (Nat.le_refl _))
          replace HSD := Lib.hid (HSD.out.below hb16 (Nat.le_refl _))
          refine hK _ _ hb16 ?_
          clear hN16 hb16
          clear hK K'
          try simp only [Act.put, List.setIfInBounds_toArray, List.set_cons_zero, List.set_cons_succ]
          refine step_read 17 (some 118) (v := ?v17) rfl (by rfl) (by kernel_rfl) (by kernel_rfl) (by kernel_rfl) (fun _ _ _ h => h) (by rfl) ?y17 ?n17
          case y17 => intro W hW; have ec := conv_at K16.out hW; go_simp; try with_reducible rfl
          try simp only [Act.put, List.setIfInBounds_toArray, List.set_cons_zero, List.set_cons_succ]
          refine step_read 20 (some 121) (v := ?v20) rfl (by rfl) (by kernel_rfl) (by kernel_rfl) (by kernel_rfl) (fun _ _ _ h => h) (by rfl) ?y20 ?n20
          case y20 => intro W hW; go_simp; try with_reducible rfl
          try simp only [Act.put, List.setIfInBounds_toArray, List.set_cons_zero, List.set_cons_succ]
          refine step_read 21 (some 122) (v := ?v21) rfl (by rfl) (by kernel_rfl) (by kernel_rfl) (by kernel_rfl) (fun _ _ _ h => h) (by rfl) ?y21 ?n21
          case y21 => intro W hW; go_simp; try with_reducible rfl
          try simp only [Act.put, List.setIfInBounds_toArray, List.set_cons_zero, List.set_cons_succ]
          refine step_read 22 (some 123) (v := ?v22) rfl (by rfl) (by kernel_rfl) (by kernel_rfl) (by kernel_rfl) (fun _ _ _ h => h) (by rfl) ?y22 ?n22
          case y22 => intro W hW; go_simp; try with_reducible rfl
          try simp only [Act.put, List.setIfInBounds_toArray, List.set_cons_zero, List.set_cons_succ]
          refine step_read 23 (some 124) (v := ?v23) rfl (by rfl) (by kernel_rfl) (by kernel_rfl) (by kernel_rfl) (fun _ _ _ h => h) (by rfl) ?y23 ?n23
          case y23 => intro W hW; go_simp; try with_reducible rfl
          try simp only [Act.put, List.setIfInBounds_toArray, List.set_cons_zero, List.set_cons_succ]
          refine step_read 26 (some 127) (v := ?v26) rfl (by rfl) (by kernel_rfl) (by kernel_rfl) (by kernel_rfl) (fun _ _ _ h => h) (by rfl) ?y26 ?n26
          case y26 => intro W hW; go_simp; try with_reducible rfl
          try simp only [Act.put, List.setIfInBounds_toArray, List.set_cons_zero, List.set_cons_succ]
          refine step_only 24 rfl (by kernel_rfl) (by rfl) (fun K' hK => ?_)
          go_simp
          go_at_call 15
          refine (four_is c _ hc (fourC c) rfl).mono ?_
          rintro e x24 ⟨p24, c24, rfl, hN24, hb24⟩
          have K24 := Lib.hid hN24
          replace hBD := hBD.trans (hb24.mono hs1)
          replace hs1 := Nat.le_trans hs1 hb24.size
          replace HTD := Lib.hid (HTD.out.below hb24 hs0)
          replace hs0 := Nat.le_trans hs0 hb24.size
          replace HUB := Lib.hid (HUB.out.below hb24 (Nat.le_refl _))
          replace HLD := Lib.hid (HLD.out.below' hb24 (Nat.le_refl _))
          replace HAD := Lib.hid (HAD.out.below hb24 (Nat.le_refl _))
          replace HSD := Lib.hid (HSD.out.below hb24 (Nat.le_refl _))
          refine hK _ _ hb24 ?_
          clear hN24 hb24
          clear hK K'
          try simp only [Act.put, List.setIfInBounds_toArray, List.set_cons_zero, List.set_cons_succ]
          refine step_read 25 (some 126) (v := ?v25) rfl (by rfl) (by kernel_rfl) (by kernel_rfl) (by kernel_rfl) (fun _ _ _ h => h) (by rfl) ?y25 ?n25
          case y25 => intro W hW; have ec := conv_at K24.out hW; go_simp; try with_reducible rfl
          try simp only [Act.put, List.setIfInBounds_toArray, List.set_cons_zero, List.set_cons_succ]
          refine step_only 27 rfl (by kernel_rfl) (by rfl) (fun K' hK => ?_)
          go_simp
          go_at_call 16
          refine (four_ref c _ hc).mono ?_
          rintro e x27 ⟨p27, c27, rfl, hN27, hb27⟩
          have K27 := Lib.hid hN27
          replace hBD := hBD.trans (hb27.mono hs1)
          replace hs1 := Nat.le_trans hs1 hb27.size
          replace HTD := Lib.hid (HTD.out.below hb27 hs0)
          replace hs0 := Nat.le_trans hs0 hb27.size
          replace HUB := Lib.hid (HUB.out.below hb27 (Nat.le_refl _))
          replace HLD := Lib.hid (HLD.out.below' hb27 (Nat.le_refl _))
          replace HAD := Lib.hid (HAD.out.below hb27 (Nat.le_refl _))
          replace HSD := Lib.hid (HSD.out.below hb27 (Nat.le_refl _))
          refine hK _ _ hb27 ?_
          clear hN27 hb27
          clear hK K'
          try simp only [Act.put, List.setIfInBounds_toArray, List.set_cons_zero, List.set_cons_succ]
          refine step_read 28 (some 129) (v := ?v28) rfl (by rfl) (by kernel_rfl) (by kernel_rfl) (by kernel_rfl) (fun _ _ _ h => h) (by rfl) ?y28 ?n28
          case y28 => intro W hW; have ec := conv_at K27.out hW; go_simp; try with_reducible rfl
          try simp only [Act.put, List.setIfInBounds_toArray, List.set_cons_zero, List.set_cons_succ]
          refine step_read 29 (some 130) (v := ?v29) rfl (by rfl) (by kernel_rfl) (by kernel_rfl) (by kernel_rfl) (fun _ _ _ h => h) (by rfl) ?y29 ?n29
          case y29 => intro W hW; go_simp; try with_reducible rfl
          try simp only [Act.put, List.setIfInBounds_toArray, List.set_cons_zero, List.set_cons_succ]
          refine step_read 30 (some 131) (v := ?v30) rfl (by rfl) (by kernel_rfl) (by kernel_rfl) (by kernel_rfl) (fun _ _ _ h => h) (by rfl) ?y30 ?n30
          case y30 => intro W hW; go_simp; try with_reducible rfl
          try simp only [Act.put, List.setIfInBounds_toArray, List.set_cons_zero, List.set_cons_succ]
          refine step_read 31 (some 132) (v := ?v31) rfl (by rfl) (by kernel_rfl) (by kernel_rfl) (by kernel_rfl) (fun _ _ _ h => h) (by rfl) ?y31 ?n31
          case y31 => intro W hW; go_simp; try with_reducible rfl
          try simp only [Act.put, List.setIfInBounds_toArray, List.set_cons_zero, List.set_cons_succ]
          refine step_read 32 (some 133) (v := ?v32) rfl (by rfl) (by kernel_rfl) (by kernel_rfl) (by kernel_rfl) (fun _ _ _ h => h) (by rfl) ?y32 ?n32
          case y32 => intro W hW; go_simp; try with_reducible rfl
          try simp only [Act.put, List.setIfInBounds_toArray, List.set_cons_zero, List.set_cons_succ]
          refine step_read 34 (some 135) (v := ?v34) rfl (by rfl) (by kernel_rfl) (by kernel_rfl) (by kernel_rfl) (fun _ _ _ h => h) (by rfl) ?y34 ?n34
          case y34 => intro W hW; go_simp; try with_reducible rfl
          try simp only [Act.put, List.setIfInBounds_toArray, List.set_cons_zero, List.set_cons_succ]
          refine step_read 36 (some 137) (v := ?v36) rfl (by rfl) (by kernel_rfl) (by kernel_rfl) (by kernel_rfl) (fun _ _ _ h => h) (by rfl) ?y36 ?n36
          case y36 => intro W hW; go_simp; try with_reducible rfl
          try simp only [Act.put, List.setIfInBounds_toArray, List.set_cons_zero, List.set_cons_succ]
          refine step_read 38 (some 139) (v := ?v38) rfl (by rfl) (by kernel_rfl) (by kernel_rfl) (by kernel_rfl) (fun _ _ _ h => h) (by rfl) ?y38 ?n38
          case y38 => intro W hW; go_simp; try with_reducible rfl
          try simp only [Act.put, List.setIfInBounds_toArray, List.set_cons_zero, List.set_cons_succ]
          obtain ⟨us, hus, hul, hun⟩ := HLD.out.vals
          refine step_side3 33 35 37 39 134 136 138 140 (R3 := fun v W => W.ownsRow x27.heap.size 22 1 v (0 + us.length) ([] ++ us)) (Rk := fun v W => IsVals W v [.slice p n cc]) (v1 := .int .u32 S) (v2 := .int .u32 M2) rfl rfl rfl rfl (by decide) (by decide) (by decide) (by decide) (by decide) (by decide) (by kernel_rfl) (by kernel_rfl) (by kernel_rfl) (by kernel_rfl) (by kernel_rfl) (by kernel_rfl) (by kernel_rfl) ?u1 ?u2 ?u3 ?uk (fun v W W' hb h => h.below hb (Nat.le_refl _)) (fun v W W' hb h => own_below h hb (Nat.le_refl _)) ?E1 ?E2 ?E3 ?Ek ?n1
          case u1 => rintro x (rfl | ⟨vk, rfl⟩) <;> rfl
          case u2 => rintro x (rfl | ⟨vk, rfl⟩) <;> rfl
          case u3 => rintro x (rfl | ⟨vk, rfl⟩) <;> rfl
          case uk => rintro x (rfl | rfl | rfl | ⟨v3, rfl⟩) <;> rfl
          case E1 =>
            rintro W x hx hb K' hK
            rcases hx with rfl | ⟨vk, rfl⟩
            all_goals
              go_simp
              go_at_call 10
              refine (sum_any _ ls W (HTD.out.below hb hs0) (HLD.out.below' hb (Nat.le_refl _)) HSM.out (by omega)).mono ?_
              rw [HSl.out]
              rintro e W' ⟨rfl, rfl⟩
              exact hK _ (Below.refl _ _)
          case E2 =>
            rintro W x hx hb K' hK
            rcases hx with rfl | ⟨vk, rfl⟩
            all_goals
              go_simp
              go_at_call 12
              refine (more_any S _ bs W HSr.out (HTD.out.below hb hs0) (HUB.out.below hb (Nat.le_refl _)) HB.out (by omega)).mono ?_
              rw [HM1.out]
              rintro e W' ⟨rfl, rfl⟩
              exact hK _ (Below.refl _ _)
          case E3 =>
            rintro W x hx hb K' hK
            rcases hx with rfl | ⟨vk, rfl⟩
            all_goals
              refine wp_appV _ _ rfl W.heap.size (.slice none 0 0) 0 [] rfl (World.ownsRow_nil _ _ _ _) (.slice a k lc) us rfl (hus.below hb (Nat.le_refl _)) (fun j hj => (hun j hj).one) (by omega) (Nat.le_refl _) ?_
              intro v' w' ho' hb'
              exact hK v' w' hb' (own_mono ho' hb.size)
          case Ek =>
            rintro W x hx hb K' hK
            rcases hx with rfl | rfl | rfl | ⟨v3, rfl⟩
            all_goals
              go_simp
              exact hK _ _ (extAlloc' _ _) (vals_one W _ 22)
          rintro v3 vk w3' hX hR3 hRk
          try simp only [Act.put, List.setIfInBounds_toArray, List.set_cons_zero, List.set_cons_succ]
          refine step_only0 40 rfl (by kernel_rfl) (by rfl) (fun K' hK => ?_)
          refine wp_appV _ _ rfl x27.heap.size v3 _ _ rfl hR3 vk [.slice p n cc] rfl hRk (single_cell p n cc) (by simp; omega) hX.size ?_
          intro v40 w40 hown40 hb40
          have hX40 : Ext x27 w40 := hX.trans hb40
          have HL40 := Lib.hid (IsLists.ofOwn (ls := ls ++ [bs]) hown40 (by simp [hul]) (vals_snoc hun hul HUB.out hX40))
          have HX40 := Lib.hid hX40
          clear hX hR3 hRk hb40 hown40
          refine hK _ _ hX40 ?_
          clear hX40
          clear hK K'
          try simp only [Act.put, List.setIfInBounds_toArray, List.set_cons_zero, List.set_cons_succ]
          refine step_only0 41 rfl (by kernel_rfl) (by rfl) (fun K' hK => ?_)
          go_simp
          go_at_call 10
          refine (sum_any _ (ls ++ [bs]) _ (HTD.out.below HX40.out hs0) HL40.out HSM2.out (by simp; omega)).mono ?_
          rw [HM2.out]
          rintro e x41 ⟨rfl, rfl⟩
          refine hK _ _ HX40.out ?_
          clear hK K'
          try simp only [Act.put, List.setIfInBounds_toArray, List.set_cons_zero, List.set_cons_succ]
          refine step_read0 42 (some 143) (v := ?v42) HX40.out rfl (by rfl) (by kernel_rfl) (by kernel_rfl) (by kernel_rfl) (fun _ _ _ h => h) (by rfl) ?y42 ?n42
          case y42 => intro W hW; go_simp; try with_reducible rfl
          try simp only [Act.put, List.setIfInBounds_toArray, List.set_cons_zero, List.set_cons_succ]
          refine step_read0 43 (some 144) (v := ?v43) HX40.out rfl (by rfl) (by kernel_rfl) (by kernel_rfl) (by kernel_rfl) (fun _ _ _ h => h) (by rfl) ?y43 ?n43
          case y43 => intro W hW; go_simp; try with_reducible rfl
          try simp only [Act.put, List.setIfInBounds_toArray, List.set_cons_zero, List.set_cons_succ]
          refine step_read0 44 (some 10) (v := ?v44) HX40.out rfl (by rfl) (by kernel_rfl) (by kernel_rfl) (by kernel_rfl) (fun _ _ _ h => h) (by rfl) ?y44 ?n44
          case y44 => intro W hW; go_simp; try with_reducible rfl
          try simp only [Act.put, List.setIfInBounds_toArray, List.set_cons_zero, List.set_cons_succ]
          refine wpAnyH_done (by kernel_rfl) ?_ _
          go_wp2
          go_ret
          exact ⟨rfl, by rw [hN]; exact hBD.trans (HX40.out.mono hs1)⟩
end Go.Proofs.YtkbehdjaegomgaaDoor.K
