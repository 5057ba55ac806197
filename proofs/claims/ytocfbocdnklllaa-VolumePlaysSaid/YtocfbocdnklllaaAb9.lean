/- A constant string's bytes; a block that a call made. For any program. -/
import Derived.Test.YtocfbocdnklllaaAb8
import Derived.Lib.SlBytesConst
namespace Go.Proofs.Ytocfbocdnklllaa.K
open Go.ChangeShapes Go.WideShapes Go.ChangeAt Go.RowKit
set_option linter.unusedVariables false
set_option linter.unusedSimpArgs false

section
variable {P : Program} {n : Nat} {T : List (Nat × Value)} {a : Act} {w w0 : World} {X : Cx} {M : Mm} {tt tt' : TypeId} {pos pos' : String} {af af' : Array Edge} {ops : Array Oper} {rest : List Oper} {Q : Exit → Act → World → Prop}
theorem st_const (ha : Has n T a) (m : MemOk X w0 M w) (i : Nat) {d1 d2 : Tmp} {t e : TypeId} {len : Nat} {parts : Array (Nat × Operand)} {vs : List Value} {zs : List Int} (hp : evLit T 0 parts.toList = some vs) (hz : intsOf .u8 vs = some zs) (hu : P.underlying t = some (.slice e)) (he : P.underlying e = some (.int .u8)) {z : Value} {bytes : Nat} (hinf : (P.info? e).map (fun i => (i.zero, i.size, i.bytes)) = some (some z, 1, bytes)) (hl : zs.length = len) (h0 : Nat.blt 0 len = true) (h1 : Nat.ble len 1000 = true) (ht : Nat.blt d1 n = true) (ht2 : Nat.blt d2 n = true)
   (h : ∀ g a' w', Has n ((d2, .slice (some ⟨g, 0, none⟩) zs.length len) :: (d1, .slice (some ⟨g, 0, none⟩) len len) :: T) a' → MemOk X w0 ((i, .dat (.slice (some ⟨g, 0, none⟩) zs.length len) (.ns .u8 zs)) :: M) w' → wpList P ops Q rest a' w') : wpList P ops Q (⟨some d1, .buildSlice t len parts, tt, pos, af, none⟩ :: ⟨some d2, .convert t t (.tmp d1), tt', pos', af', none⟩ :: rest) a w := by
 obtain ⟨ie, hie, hzz, hsz, -⟩ := info_parts hinf
 have h0' : 0 < len := by simpa using h0
 have h1' : len ≤ 1000 := by simpa using h1
 have hvs := intsOf_map hz
 have hpl := ha.evLit hp
 have hf : Instr.fill (fun i => some (i * ie.size, ie.size)) ((Array.range (len * ie.size)).map (z.cells[· % z.cells.size]!)) (parts.map fun (i, x) => (i, a.eval x)).toList = some (zs.map (Value.int .u8)).toArray := by
   rw [Array.toList_map, hsz, hvs] at *
   have := Great.fill_flat (zs.map (Value.int .u8)) ((Array.range (len * 1)).map (z.cells[· % z.cells.size]!)) (fun v hv => by obtain ⟨x, _, rfl⟩ := List.mem_map.1 hv; rfl) (by simp [hl])
   rw [← this]
   congr 1
 have hr := run_buildSlice (P := P) w t e len _ _ ie z hu hie hzz (by rw [hsz]; omega) (by rw [hsz]; omega) hf
 have hrun : (execOp a.eval ⟨some d1, .buildSlice t len parts, tt, pos, af, none⟩).run P w = .ok (.value (.slice (some ⟨w.heap.size, 0, none⟩) len len)) (w.alloc (.cells (zs.map (Value.int .u8)).toArray e)) := by
   simp only [execOp, Sem.run_bind, hr, Result.andThen_ok, Sem.run_pure]
 refine wpList_plain rfl (fun K hK => ?_)
 show Oper.upon P _ a K Q _
 rw [hrun]
 refine hK _ _ (wpList_plain rfl (fun K2 hK2 => ?_))
 have ha1 := ha.put ht (.slice (some ⟨w.heap.size, 0, none⟩) len len)
 have hev := ha1.ev (x := .tmp d1) (v := .slice (some ⟨w.heap.size, 0, none⟩) len len) (by show lk _ d1 = _; rw [lk_cons, if_pos rfl])
 have hc := Lib.run_convert_bytes_const (P := P) w t e (zs.map (Value.int .u8)).toArray len len hu he
 have hrun2 : (execOp (a.put (some d1) (.slice (some ⟨w.heap.size, 0, none⟩) len len)).eval ⟨some d2, .convert t t (.tmp d1), tt', pos', af', none⟩).run P (w.alloc (.cells (zs.map (Value.int .u8)).toArray e)) = .ok (.value (.slice (some ⟨w.heap.size, 0, none⟩) len len)) (w.alloc (.cells (zs.map (Value.int .u8)).toArray e ((zs.map (Value.int .u8)).toArray.size, (zs.map (Value.int .u8)).toArray.size + 1))) := by
   simp only [execOp, hev, Sem.run_bind, hc, Result.andThen_ok, Sem.run_pure]
 show Oper.upon P _ _ K2 Q _
 rw [hrun2]
 refine hK2 _ _ (h w.heap.size _ _ ?_ ?_)
 · rw [hl]; exact ha1.put ht2 _
 · refine m.upd i _ (Keep.alloc _ _ _) (fun b hb => by cases hb) (fun hf _ => .ns ⟨_, len, rfl, ⟨by omega, by unfold maxLen; omega⟩, .inr ⟨w.heap.size, 0, rfl, free_add rfl (m.free_out (.inr (Nat.le_refl _))), by simp, fun j hj => ?_⟩⟩)
   unfold World.cell? World.alloc
   simp [hj, List.getD]
end
end Go.Proofs.Ytocfbocdnklllaa.K
