/- The statements' own small run of the package: known returns true. -/
import Derived.Test.YtkbehdjaegomgaaDoorCrc5
import Derived.Lib.SlBytesConst
namespace Go.Proofs.YtkbehdjaegomgaaDoor.K
open Go.ChangeShapes Go.WideShapes Go.ChangeAt Go.RowKit
set_option linter.unusedVariables false

theorem IsLists.lit (w : World) (us : List Value) (ls : List (List Int)) (N : Nat) (T : TypeId) (n c : Nat) (hN : N = w.heap.size) (hn : n = us.length) (hl : us.length = ls.length) (h : ∀ j, j < us.length → IsNums .u8 w (us.getD j default) (ls.getD j [])) :
    IsLists (w.alloc (.cells us.toArray T)) (.slice (some ⟨N, 0, none⟩) n c) ls := by
  subst hN; subst hn
  refine ⟨_, c, by rw [hl], .inr ⟨_, 0, rfl, by simp, fun j hj => ?_⟩⟩
  refine ⟨us.getD j default, ?_, (h j (by omega)).alloc _⟩
  unfold World.cell? World.alloc
  simp [List.getD, show j < us.length by omega]
theorem IsLists.nil (w : World) (a : Option Addr) (c : Nat) : IsLists w (.slice a 0 c) [] := ⟨a, c, rfl, .inl rfl⟩

theorem IsNums.litF (k : IntKind) (w : World) (zs : List Int) (N : Nat) (e : TypeId) (fr : Nat × Nat) (n c : Nat) (hN : N = w.heap.size) (hn : n = zs.length) : IsNums k (w.alloc (.cells (zs.map (Value.int k)).toArray e fr)) (.slice (some ⟨N, 0, none⟩) n c) zs := by
  subst hN; subst hn
  refine ⟨_, c, rfl, .inr ⟨_, 0, rfl, by simp, fun j hj => ?_⟩⟩
  unfold World.cell? World.alloc
  simp [hj, List.getD]

/-- A list of slices of bytes, each of bytes and short. -/
def Small (ls : List (List Int)) : Prop := ∀ j, j < ls.length → Bytes (ls.getD j []) ∧ (ls.getD j []).length ≤ 1000000

theorem seal_is (v : Value) (bs : List Int) (w : World) (hT : TabOk w) (h1 : 1 ≤ w.heap.size) (hv : IsNums .u8 w v bs) (hb : Bytes bs) (hl : bs.length ≤ 10000) (S : List Int) (n : Nat) (hS : sealC bs = S) (hn : S.length = n) :
    Calls Tryd.prog 14 #[v] w fun e w' => ∃ p c, e = .returned (.slice p n c) ∧ n ≤ c ∧ IsNums .u8 w' (.slice p n c) S ∧ Below w.heap.size w w' := by
  subst hS; subst hn
  refine (seal_any v bs w hT h1 hv hb hl).mono fun e w' h => ?_
  obtain ⟨u, rfl, hown, hbel⟩ := h
  have hN := IsNums.ofOwn hown
  have hlen := sealC_len bs
  rcases hown.2 with ⟨-, h0⟩ | ⟨g, cap, cur, rfl, _, _, hle, _, _, _⟩
  · omega
  · exact ⟨_, cap, rfl, by omega, hN, hbel⟩

theorem four_is (c : Int) (w : World) (hc : 0 ≤ c ∧ c < 4294967296) (S : List Int) (hS : fourC c = S) :
    Calls Tryd.prog 15 #[.int .u32 c] w fun e w' => ∃ p k, e = .returned (.slice p 4 k) ∧ IsNums .u8 w' (.slice p 4 k) S ∧ Below w.heap.size w w' := by
  subst hS
  refine (four_any c w hc).mono fun e w' h => ?_
  obtain ⟨u, rfl, hown, hbel⟩ := h
  have hN := IsNums.ofOwn hown
  obtain ⟨p, k, rfl, -⟩ := id hN
  exact ⟨p, k, rfl, hN, hbel⟩

theorem open_is (p : Option Addr) (n m cc : Nat) (bs : List Int) (w : World) (hT : TabOk w) (h1 : 1 ≤ w.heap.size) (hv : IsNums .u8 w (.slice p m cc) bs) (hl : bs.length = n + 4) (hm : m = n + 4) (hcc : n + 4 ≤ cc) (hb : Bytes bs) (hn : n ≤ 10000) (S : List Int) (k : Nat) (o : Bool) (hS : openC bs = S) (hk : S.length = k) (ho : openB bs = o) :
    Calls Tryd.prog 8 #[.slice p m cc] w fun e w' => ∃ q c, e = .returned (.tuple #[.slice q k c, .bool o]) ∧ IsNums .u8 w' (.slice q k c) S ∧ Below w.heap.size w w' := by
  subst hS; subst hk; subst ho; subst hm
  refine (open_long p n cc bs w hT h1 hv hl hcc hb hn).mono fun e w' h => ?_
  obtain ⟨u, rfl, hN, hbel⟩ := h
  obtain ⟨q, c, rfl, -⟩ := id hN
  exact ⟨q, c, rfl, hN, hbel⟩

theorem sum_is (v : Value) (ls : List (List Int)) (w : World) (hT : TabOk w) (hv : IsLists w v ls) (hb : Small ls) (hl : ls.length ≤ 1000) (S : Int) (hS : sumC ls = S) :
    Calls Tryd.prog 10 #[v] w fun e w' => e = .returned (.int .u32 S) ∧ Below w.heap.size w w' := by
  subst hS
  refine (sum_any v ls w hT hv hb hl).mono fun e w' h => ?_
  obtain ⟨rfl, rfl⟩ := h
  exact ⟨rfl, Below.refl _ _⟩

theorem ab_bytes : Bytes [97, 98] := by intro j hj; match j, hj with | 0, _ => simp | 1, _ => simp

def bytesB (l : List Int) : Bool := l.all fun x => decide (0 ≤ x ∧ x ≤ 255)
theorem bytesB_ok {l : List Int} (h : bytesB l = true) : Bytes l := by
  intro j hj
  have := List.all_eq_true.1 h (l.getD j 0) (by simp [List.getD, hj])
  simpa using this

def ABS : List Int := [97, 98] ++ fourC (sumC [[97, 98]])

set_option maxRecDepth 100000 in
set_option maxHeartbeats 4000000 in
theorem known_true (w : World) (hT : TabOk w) (h1 : 1 ≤ w.heap.size) :
    Calls Tryd.prog 6 #[] w fun e w' => e = .returned (.bool true) ∧ Below w.heap.size w w' := by
  have HT := Lib.hid hT
  clear hT
  have kc := fun (w : World) (C : Array Value) (n c : Nat) => Lib.run_convert_bytes_const (P := Tryd.prog) w 22 5 C n c Tryd.underlying22 Tryd.underlying5
  have kd := fun (w : World) (o : Obj) (C : Array Value) (n c : Nat) => (show (convert 22 22 (.slice (some ⟨w.heap.size + 1, 0, none⟩) n c)).run Tryd.prog ((w.alloc o).alloc (.cells C 5)) = .ok (.slice (some ⟨w.heap.size + 1, 0, none⟩) n c) ((w.alloc o).alloc (.cells C 5 (C.size, C.size + 1))) by
    have h := kc (w.alloc o) C n c
    rw [show (w.alloc o).heap.size = w.heap.size + 1 by simp] at h
    exact h)
  go_enter Tryd.func6, Tryd.ntmps6
  go_wp2_with fail
  refine (seal_is _ [97, 98] _ (HT.out.alloc h1 _) (by simp) (IsNums.litF .u8 w [97, 98] _ _ (2, 3) _ _ rfl rfl) (bytesB_ok (by decide)) (by simp) ABS 6 rfl (by decide +kernel)).mono ?_
  rintro e w2 ⟨p2, c2, rfl, hc2, hN2, hb2⟩
  have hB2 : Below w.heap.size w w2 := ((Below.refl _ w).alloc (Nat.le_refl _) _).trans (hb2.mono (by simp))
  have hs2 := hB2.size
  clear hb2
  go_wp2_with fail
  refine (open_is p2 2 6 c2 ABS w2 (HT.out.below hB2 h1) (by omega) hN2 (by decide +kernel) rfl hc2 (bytesB_ok (by decide +kernel)) (by omega) [97, 98] 2 true (by decide +kernel) rfl (by decide +kernel)).mono ?_
  rintro e w3 ⟨p3, c3, rfl, hN3, hb3⟩
  have hB3 := hB2.trans (hb3.mono hs2)
  have hs3 := hB3.size
  clear hb3 hN2 hB2
  go_wp2_with fail
  refine (open_is _ 0 4 _ [97, 98, 99, 100] _ ((HT.out.below hB3 h1).alloc (by omega) _) (by simp) (IsNums.litF .u8 w3 [97, 98, 99, 100] _ _ (4, 5) _ _ rfl rfl) rfl rfl (by omega) (bytesB_ok (by decide)) (by omega) [] 0 false (by decide +kernel) rfl (by decide +kernel)).mono ?_
  rintro e w4 ⟨p4, c4, rfl, -, hb4⟩
  have hb4' : Below w3.heap.size w3 w4 := ((Below.refl _ w3).alloc (Nat.le_refl _) _).trans (hb4.mono (by simp))
  have HN3 := Lib.hid (hN3.below hb4' (Nat.le_refl _))
  have hB4 := hB3.trans (hb4'.mono hs3)
  have hs4 := hB4.size
  clear hb4 hb4' hN3 hB3
  go_wp2_with fail
  refine (sum_is _ [[49, 50, 51, 52], [53, 54, 55, 56, 57]] _ ((((HT.out.below hB4 h1).alloc (by omega) _).alloc (by simp) _).alloc (by simp) _) (IsLists.lit _ [.slice (some ⟨w4.heap.size, 0, none⟩) 4 4, .slice (some ⟨w4.heap.size + 1, 0, none⟩) 5 5] [[49, 50, 51, 52], [53, 54, 55, 56, 57]] _ _ _ _ (by simp) rfl rfl ?_) ?_ (by simp) 3808858755 (by decide +kernel)).mono ?_
  · intro j hj
    match j, hj with
    | 0, _ => exact (IsNums.litF .u8 w4 [49, 50, 51, 52] _ _ (4, 5) _ _ rfl rfl).alloc _
    | 1, _ => exact IsNums.litF .u8 _ [53, 54, 55, 56, 57] _ _ (5, 6) _ _ (by simp) rfl
  · intro j hj
    match j, hj with
    | 0, _ => exact ⟨bytesB_ok (by decide), by simp⟩
    | 1, _ => exact ⟨bytesB_ok (by decide), by simp⟩
  rintro e w5 ⟨rfl, hb5⟩
  have hb5' : Below w4.heap.size w4 w5 := ((((Below.refl _ w4).alloc (Nat.le_refl _) _).alloc (by simp) _).alloc (by simp; omega) _).trans (hb5.mono (by simp; omega))
  have e3 := conv_at (HN3.out.below hb5' (Nat.le_refl _)) (Below.refl _ w5)
  replace e3 : (convert 22 9 (.slice p3 2 c3)).run Tryd.prog w5 = .ok (.string ⟨#[97, 98]⟩) w5 := e3
  have hB5 := hB4.trans (hb5'.mono hs4)
  have hs5 := hB5.size
  clear hb5 hb5' HN3 hB4
  go_wp2_with fail
  refine (four_is 16909060 _ (by omega) [4, 3, 2, 1] (by decide)).mono ?_
  rintro e w6 ⟨p6, c6, rfl, hN6, hb6⟩
  have e6 := conv_at hN6 (Below.refl _ w6)
  replace e6 : (convert 22 9 (.slice p6 4 c6)).run Tryd.prog w6 = .ok (.string ⟨#[4, 3, 2, 1]⟩) w6 := e6
  have hB6 := hB5.trans (hb6.mono hs5)
  have hs6 := hB6.size
  clear hb6 hB5 e3
  go_wp2_with fail
  refine (sum_is _ [] _ (HT.out.below hB6 h1) (IsLists.nil _ _ _) (fun j hj => by simp at hj) (by simp) 0 rfl).mono ?_
  rintro e w7 ⟨rfl, hb7⟩
  have hB7 := hB6.trans (hb7.mono hs6)
  clear hb7 hB6 e6
  go_wp2
  go_ret
  exact ⟨rfl, hB7⟩
end Go.Proofs.YtkbehdjaegomgaaDoor.K
