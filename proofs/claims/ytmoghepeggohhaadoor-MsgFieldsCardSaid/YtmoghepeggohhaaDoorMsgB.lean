/- msg: a message's bytes. -/
import Derived.Test.YtmoghepeggohhaaDoorMsg2
namespace Go.Proofs.YtmoghepeggohhaaDoor.K
open Go.ChangeShapes Go.WideShapes Go.ChangeAt Go.RowKit
set_option linter.unusedVariables false
set_option linter.unusedSimpArgs false

def numsL (m : MV) : List Int := [m.k, m.g, m.f, m.t, m.n.te, m.n.ix, m.n.lt, m.n.co, bitI m.n.ok, 0]
def baseM (m : MV) : List Int := if m.k = 7 then baseP m.bi m.bt m.cf m.bd else []
def tailL (m : MV) : List Int := [m.n.vo, m.n.ch, m.n.ma, m.n.fl]
def preM (m : MV) : List Int := encs (numsL m) ++ encs [bitI (decide (m.k = 7))] ++ baseM m
def bodyM (m : MV) : List Int := preM m ++ ((enc (m.da.length : Int) ++ m.da) ++ encs (tailL m))
def msgB (m : MV) : List Int := sealC (bodyM m)
theorem inB_out {n e : Int} (h : inB n e = true) : 0 ≤ n ∧ n < e := by
 unfold inB at h; simpa using h
theorem bitI_out (b : Bool) : 0 ≤ bitI b ∧ bitI b ≤ 1 := by cases b <;> decide
structure MsgOk (m : MV) : Prop where
 k0 : 1 ≤ m.k
 k1 : m.k ≤ 9
 nm : namedV m.k m.n = m.n
 te : 0 ≤ m.n.te ∧ m.n.te < 1099511627777
 ix : 0 ≤ m.n.ix ∧ m.n.ix < 1099511627777
 lt : 0 ≤ m.n.lt ∧ m.n.lt < 1099511627777
 co : 0 ≤ m.n.co ∧ m.n.co < 1099511627777
 ma : 0 ≤ m.n.ma ∧ m.n.ma < 1099511627777
 fl : 0 ≤ m.n.fl ∧ m.n.fl < 1099511627777
 vo : 0 ≤ m.n.vo ∧ m.n.vo < 8
 ch : 0 ≤ m.n.ch ∧ m.n.ch < 256
 ls : listsB m = true
 g : 0 ≤ m.g ∧ m.g < 8
 f : 0 ≤ m.f ∧ m.f < 7
 t : 0 ≤ m.t ∧ m.t < 7
theorem msgR_out {m : MV} (h : msgR m = true) : MsgOk m := by
 unfold msgR namedB numsB timesN at h
 simp only [Bool.and_eq_true, decide_eq_true_eq, List.all_cons, List.all_nil, and_true] at h
 obtain ⟨⟨h1, h2⟩, h3, ⟨⟨h4, h5, h6, h7, h8, h9⟩, h10, h11⟩, h12, h13, h14, h15⟩ := h
 exact ⟨h1, h2, h3, inB_out h4, inB_out h5, inB_out h6, inB_out h7, inB_out h8, inB_out h9, inB_out h10, inB_out h11, h12, inB_out h13, inB_out h14, inB_out h15⟩
theorem MsgOk.base7 {m : MV} (h : MsgOk m) (hk : m.k = 7) : baseOk m.bi m.bt m.cf m.bd = true := by
 have h1 := h.ls
 unfold listsB at h1
 rw [if_pos hk, Bool.and_eq_true] at h1
 exact h1.1
theorem MsgOk.base0 {m : MV} (h : MsgOk m) (hk : ¬ m.k = 7) : m.bi = 0 ∧ m.bt = 0 ∧ m.cf = [] ∧ m.bd = [] := by
 have h1 := h.ls
 unfold listsB at h1
 rw [if_neg hk, Bool.and_eq_true, decide_eq_true_eq] at h1
 simpa using h1.1
theorem MsgOk.cf {m : MV} (h : MsgOk m) : m.cf.length ≤ 7 := by
 by_cases hk : m.k = 7
 · exact (right_bd (baseOk_bd (h.base7 hk)).2.2.1).1
 · rw [(h.base0 hk).2.2.1]; exact Nat.zero_le _
theorem numsL_63 {m : MV} (h : MsgOk m) : ∀ x ∈ numsL m, 0 ≤ x ∧ x ≤ 9223372036854775807 := by
 have := h.k0; have := h.k1; have := h.te; have := h.ix; have := h.lt; have := h.co; have := h.g; have := h.f; have := h.t; have := bitI_out m.n.ok
 intro x hx
 simp only [numsL, List.mem_cons, List.not_mem_nil, or_false] at hx
 omega
theorem tailL_63 {m : MV} (h : MsgOk m) : ∀ x ∈ tailL m, 0 ≤ x ∧ x ≤ 9223372036854775807 := by
 have := h.vo; have := h.ch; have := h.ma; have := h.fl
 intro x hx
 simp only [tailL, List.mem_cons, List.not_mem_nil, or_false] at hx
 omega
theorem encs63 {l : List Int} (h : ∀ x ∈ l, 0 ≤ x ∧ x ≤ 9223372036854775807) : BytesL (encs l) := encsBytes (fun x hx => by have := (h x hx).2; omega)
theorem baseB_63 {i t : Int} {cf d : List Int} (h : baseOk i t cf d = true) (hd : BytesL d) : BytesL (baseB i t cf d) := by
 obtain ⟨h1, h2, h3, h4⟩ := baseOk_bd h
 obtain ⟨h5, h6⟩ := right_bd h3
 unfold baseB
 refine bytesApp (encs63 ?_) (bytesApp (encs63 ?_) (bytesApp (encBytes (by omega)) hd))
 · intro x hx
   simp only [List.mem_cons, List.not_mem_nil, or_false] at hx
   omega
 · intro x hx
   obtain ⟨j, hj, rfl⟩ := List.getElem_of_mem hx
   have := h6 j hj
   rw [List.getD, List.getElem?_eq_getElem hj] at this
   dsimp only [Option.getD] at this
   omega
theorem baseM_bytes {m : MV} (h : MsgOk m) (hd : BytesL m.bd) : BytesL (baseM m) := by
 unfold baseM
 by_cases hk : m.k = 7
 · rw [if_pos hk, baseP, if_pos (h.base7 hk)]; exact baseB_63 (h.base7 hk) hd
 · rw [if_neg hk]; intro x hx; cases hx
theorem baseM_len {m : MV} (h : MsgOk m) : (baseM m).length ≤ 120 + m.bd.length := by
 unfold baseM
 by_cases hk : m.k = 7
 · rw [if_pos hk, baseP, if_pos (h.base7 hk), baseB]
   have h1 := encs_len [m.bi, m.bt, (m.cf.length : Int)]
   have h2 := encs_len m.cf
   have h3 := h.cf
   have h4 := (enc_len (m.bd.length : Int)).1
   simp only [List.length_append, List.length_cons, List.length_nil] at *
   omega
 · rw [if_neg hk]; exact Nat.zero_le _
theorem preM_len {m : MV} (h : MsgOk m) : (preM m).length ≤ 230 + m.bd.length := by
 have h1 := encs_len (numsL m)
 have h2 := encs_len [bitI (decide (m.k = 7))]
 have h3 := baseM_len h
 unfold preM numsL at *
 simp only [List.length_append, List.length_cons, List.length_nil] at *
 omega
theorem preM_bytes {m : MV} (h : MsgOk m) (hd : BytesL m.bd) : BytesL (preM m) := by
 unfold preM
 refine bytesApp (bytesApp (encs63 (numsL_63 h)) (encs63 ?_)) (baseM_bytes h hd)
 intro x hx
 have := bitI_out (decide (m.k = 7))
 simp only [List.mem_cons, List.not_mem_nil, or_false] at hx
 omega
theorem bodyM_len {m : MV} (h : MsgOk m) : (bodyM m).length ≤ 280 + m.bd.length + m.da.length := by
 have h1 := preM_len h
 have h2 := encs_len (tailL m)
 have h3 := (enc_len (m.da.length : Int)).1
 unfold bodyM tailL at *
 simp only [List.length_append, List.length_cons, List.length_nil] at *
 omega
theorem bodyM_bytes {m : MV} (h : MsgOk m) (hd : BytesL m.bd) (ha : BytesL m.da) (hl : m.da.length ≤ 100000) : BytesL (bodyM m) :=
 bytesApp (preM_bytes h hd) (bytesApp (bytesApp (encBytes (by omega)) ha) (encs63 (tailL_63 h)))
theorem basePut_x (i t : Int) (vc v : Value) (cf d : List Int) (w : World) (hc : IsNums .i64 w vc cf) (hv : IsNums .u8 w v d) (hl : cf.length ≤ 900) :
   Calls Tryd.prog 12 #[baseV i t vc v] w fun e w' => ∃ p c, e = .returned (.slice p (baseP i t cf d).length c) ∧ w'.ownsRow w.heap.size 5 1 (.slice p (baseP i t cf d).length c) (baseP i t cf d).length ((baseP i t cf d).map (Value.int .u8)) ∧ Below w.heap.size w w' := by
 refine (basePut_any i t vc v cf d w hc hv hl).mono fun e w' h => ?_
 obtain ⟨u, rfl, hown, hbel⟩ := h
 obtain ⟨p, c, rfl⟩ := ownsRow_shape hown
 exact ⟨p, c, rfl, hown, hbel⟩
end Go.Proofs.YtmoghepeggohhaaDoor.K
