/- stream: crc and pack as walks in the frame take them. -/
import Derived.Test.YtogjhjiapinmcaaDoorG3
import Derived.Test.YtogjhjiapinmcaaDoorG2
namespace Go.Proofs.YtogjhjiapinmcaaDoor.K
open Go.ChangeShapes Go.WideShapes Go.ChangeAt Go.RowKit
set_option linter.unusedVariables false
set_option linter.unusedSimpArgs false


theorem bytesLB {bs : List Int} (h : BytesL bs) : Bytes bs := fun j hj => by
 rw [List.getD, List.getElem?_eq_getElem hj]; exact h _ (List.getElem_mem hj)
theorem lists_rd {S : Nat → Prop} {w : World} {v : Value} {ls : List (List Int)} (h : Rd S w v (.l 1 (ls.map bD))) : IsLists w v ls := by
 rcases h.l_out with h0 | ⟨b, off, c, f, rfl, h1, h2, h3, h4, h5⟩
 · have e : ls = [] := List.map_eq_nil_iff.1 h0
   subst e
   obtain ⟨p, c, rfl, -⟩ := h.l_shape
   exact ⟨p, c, rfl, .inl rfl⟩
 · refine ⟨_, c, by rw [List.length_map], .inr ⟨b, off, rfl, h2, fun j hj => ?_⟩⟩
   have hj' : j < (ls.map bD).length := by rw [List.length_map]; exact hj
   have h6 := (h4 j 0 hj' (by decide)).1
   refine ⟨_, by rw [show off + j = off + j * 1 + 0 by omega]; exact h6, ?_⟩
   have h7 := h5 j 0 (bD (ls.getD j [])) (.ns .u8 (ls.getD j [])) (by rw [List.getElem?_map, List.getD, List.getElem?_eq_getElem hj]; rfl) rfl
   exact h7.ns_out.nums
theorem pput_x (v : Value) (xs : List Int) (w0 : World) (h : Rd (fun _ => True) w0 v (.ns .u64 xs)) (hl : xs.length ≤ 1000) (hxb : ∀ k, k < xs.length → 0 ≤ xs.getD k 0 ∧ xs.getD k 0 ≤ 9223372036854775807) :
   Calls Tryd.prog 30 #[v] w0 fun e w' => ∃ p c, e = .returned (.slice p (encs xs).length c) ∧ w'.ownsRow w0.heap.size 5 1 (.slice p (encs xs).length c) (encs xs).length ((encs xs).map (Value.int .u8)) ∧ Below w0.heap.size w0 w' := by
 refine (put_any v xs w0 h.ns_out.nums (fun j hj => ⟨(hxb j hj).1, by have := (hxb j hj).2; omega⟩) hl).mono fun e w' h => ?_
 obtain ⟨u, rfl, hown, hbel⟩ := h
 obtain ⟨p, c, rfl⟩ := ownsRow_shape hown
 exact ⟨p, c, rfl, hown, hbel⟩
theorem pjoin_x (v : Value) (ls : List (List Int)) (w0 : World) (h : Rd (fun _ => True) w0 v (.l 1 (ls.map bD))) (hl : ls.length ≤ 1000) (hs : sumLen ls ≤ 1000000) :
   Calls Tryd.prog 27 #[v] w0 fun e w' => ∃ p c, e = .returned (.slice p (ls.flatten).length c) ∧ w'.ownsRow w0.heap.size 5 1 (.slice p (ls.flatten).length c) (ls.flatten).length ((ls.flatten).map (Value.int .u8)) ∧ Below w0.heap.size w0 w' := by
 refine (join_any v ls w0 (lists_rd h) hl hs).mono fun e w' h => ?_
 obtain ⟨u, rfl, hown, hbel⟩ := h
 obtain ⟨p, c, rfl⟩ := ownsRow_shape hown
 exact ⟨p, c, rfl, hown, hbel⟩
theorem pseal_x (v : Value) (bs : List Int) (w0 : World) (hT : TabOk w0) (h1 : 1 ≤ w0.heap.size) (h : Rd (fun _ => True) w0 v (.ns .u8 bs)) (hb : BytesL bs) (hl : bs.length ≤ 10000) :
   Calls Tryd.prog 25 #[v] w0 fun e w' => ∃ p c, e = .returned (.slice p (sealC bs).length c) ∧ w'.ownsRow w0.heap.size 5 1 (.slice p (sealC bs).length c) (sealC bs).length ((sealC bs).map (Value.int .u8)) ∧ Below w0.heap.size w0 w' := by
 refine (seal_any v bs w0 hT h1 h.ns_out.nums (bytesLB hb) hl).mono fun e w' h => ?_
 obtain ⟨u, rfl, hown, hbel⟩ := h
 obtain ⟨p, c, rfl⟩ := ownsRow_shape hown
 exact ⟨p, c, rfl, hown, hbel⟩
theorem rseal_x (v : Value) (bs : List Int) (w0 : World) (h : Rd (fun _ => True) w0 v (.ns .u8 bs)) (hb : BytesL bs) (hl : bs.length ≤ 10000) :
   Calls Tryd.prog 40 #[v] w0 fun e w' => ∃ p c, e = .returned (.slice p (sealC bs).length c) ∧ w'.ownsRow w0.heap.size 5 1 (.slice p (sealC bs).length c) (sealC bs).length ((sealC bs).map (Value.int .u8)) ∧ Below w0.heap.size w0 w' := by
 refine (seal_ref v bs w0 h.ns_out.nums (bytesLB hb) hl).mono fun e w' h => ?_
 obtain ⟨u, rfl, hown, hbel⟩ := h
 obtain ⟨p, c, rfl⟩ := ownsRow_shape hown
 exact ⟨p, c, rfl, hown, hbel⟩
end Go.Proofs.YtogjhjiapinmcaaDoor.K
