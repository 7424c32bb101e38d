/-
  Slices of arrays of thirty-two bytes that are written out, and appended to. No statement of the seat is proved here.
-/
import Derived.Test.YtmibjgkakolhiaaDoorPk27
import Derived.Great.BuildSlice
namespace Go.Proofs.YtmibjgkakolhiaaDoor
open Go.RowKit

set_option maxRecDepth 8000 in
theorem fold_set (off : Nat) : ∀ (vs : List Value) (k : Nat) (cs : Array Value), off + k + vs.length ≤ cs.size → ((vs.zipIdx k).foldl (fun cs (x : Value × Nat) => cs.setIfInBounds (off + x.2) x.1) cs).toList = cs.toList.take (off + k) ++ (vs ++ cs.toList.drop (off + k + vs.length))
  | [], k, cs, _ => by simp
  | v :: vs, k, cs, h => by
    rw [List.length_cons] at h
    rw [List.zipIdx_cons, List.foldl_cons, fold_set off vs (k + 1) _ (by rw [Array.size_setIfInBounds]; omega), Array.toList_setIfInBounds, ← Nat.add_assoc, List.take_succ_eq_append_getElem (by simp; omega), List.getElem_set_self, List.take_set_of_le (Nat.le_refl _), List.drop_set_of_lt (by omega), List.append_assoc, List.length_cons, show off + k + 1 + vs.length = off + k + (vs.length + 1) by omega]
    rfl
set_option maxRecDepth 8000 in
theorem fill_one (Z : Array Value) (i : Nat) (vs : Array Value) (rest : List (Nat × Value)) (hv : vs.size = 32) (hi : i * 32 + 32 ≤ Z.size) :
    ∃ Z' : Array Value, Z'.toList = Z.toList.take (i * 32) ++ (vs.toList ++ Z.toList.drop (i * 32 + 32)) ∧ Instr.fill (fun i => some (i * 32, 32)) Z ((i, .agg vs) :: rest) = Instr.fill (fun i => some (i * 32, 32)) Z' rest := by
  refine ⟨(vs.toList.zipIdx 0).foldl (fun cs (x : Value × Nat) => cs.setIfInBounds (i * 32 + x.2) x.1) Z, ?_, ?_⟩
  · have := fold_set (i * 32) vs.toList 0 Z (by simp [hv]; omega)
    rw [this]
    simp [hv]
  · have e : (Value.agg vs).cells = vs := rfl
    have h2 : ¬ (vs.size ≠ 32 || decide (i * 32 + vs.size > Z.size)) = true := by simp [hv]; omega
    rw [Instr.fill]
    simp only [e]
    rw [if_neg (by simpa using h2)]
    congr 1
    rw [← Array.toList_zipIdx, Array.foldl_toList]
set_option maxRecDepth 8000 in
theorem arr_info : (Tryd.prog.info? 27).map (fun i => (i.zero.isSome, i.size)) = some (true, 32) := by kernel_rfl
set_option maxRecDepth 8000 in
theorem arr_parts : ∃ i z, Tryd.prog.info? 27 = some i ∧ i.zero = some z ∧ i.size = 32 := by
  have h := arr_info
  cases hi : Tryd.prog.info? 27 with
  | none => rw [hi] at h; cases h
  | some i =>
    rw [hi] at h
    simp only [Option.map_some, Option.some.injEq, Prod.mk.injEq] at h
    obtain ⟨z, hz⟩ := Option.isSome_iff_exists.1 h.1
    exact ⟨i, z, rfl, hz, h.2⟩
set_option maxRecDepth 8000 in
theorem run_b2 (A S : List Int) (hA : Bn 32 A) (hS : Bn 32 S) (w : World) :
    (Instr.buildSlice 59 2 #[(0, (.agg (List.map (Value.int .u8) A).toArray)), (1, (.agg (List.map (Value.int .u8) S).toArray))]).run Tryd.prog w = .ok (.slice (some ⟨w.heap.size, 0, none⟩) 2 2) (w.alloc (.cells (List.map (Value.int .u8) (A ++ S)).toArray 27)) := by
  obtain ⟨i, z, hi, hz, hs⟩ := arr_parts
  refine run_buildSlice w 59 27 2 _ _ i z Tryd.underlying59 hi hz (by rw [hs]; decide) (by rw [hs]; decide) ?_
  rw [hs]
  obtain ⟨Z1, h1, e1⟩ := fill_one ((Array.range (2 * 32)).map (z.cells[· % z.cells.size]!)) 0 (List.map (Value.int .u8) A).toArray [(1, (.agg (List.map (Value.int .u8) S).toArray))] (by simp [hA.len]) (by simp)
  have l1 : Z1.size = 64 := by rw [← Array.length_toList, h1]; simp [hA.len]
  obtain ⟨Z2, h2, e2⟩ := fill_one Z1 1 (List.map (Value.int .u8) S).toArray [] (by simp [hS.len]) (by omega)
  rw [e1, e2, Instr.fill]
  congr 1
  apply Array.toList_inj.1
  rw [h2, h1]
  simp [hA.len]
set_option maxRecDepth 8000 in
theorem run_b1 (A : List Int) (hA : Bn 32 A) (w : World) :
    (Instr.buildSlice 59 1 #[(0, (.agg (List.map (Value.int .u8) A).toArray))]).run Tryd.prog w = .ok (.slice (some ⟨w.heap.size, 0, none⟩) 1 1) (w.alloc (.cells (List.map (Value.int .u8) A).toArray 27)) := by
  obtain ⟨i, z, hi, hz, hs⟩ := arr_parts
  refine run_buildSlice w 59 27 1 _ _ i z Tryd.underlying59 hi hz (by rw [hs]; decide) (by rw [hs]; decide) ?_
  rw [hs]
  obtain ⟨Z1, h1, e1⟩ := fill_one ((Array.range (1 * 32)).map (z.cells[· % z.cells.size]!)) 0 (List.map (Value.int .u8) A).toArray [] (by simp [hA.len]) (by simp)
  rw [e1, Instr.fill]
  congr 1
  apply Array.toList_inj.1
  rw [h1]
  simp
set_option maxRecDepth 8000 in
theorem wpList_b2 {ops : Array Oper} {rest : List Oper} {o : Oper} {a : Act} {w : World} {Q : Exit → Act → World → Prop} (hgd : o.guard = none) (x y : Operand) (ho : o.op = Op.buildSlice 59 2 #[(0, x), (1, y)]) (A S : List Int) (hA : Bn 32 A) (hS : Bn 32 S) (hx : a.eval x = (.agg (List.map (Value.int .u8) A).toArray)) (hy : a.eval y = (.agg (List.map (Value.int .u8) S).toArray))
    (h : wpList Tryd.prog ops Q rest (a.put o.dst (.slice (some ⟨w.heap.size, 0, none⟩) 2 2)) (w.alloc (.cells (List.map (Value.int .u8) (A ++ S)).toArray 27))) : wpList Tryd.prog ops Q (o :: rest) a w := by
  refine wpList_plain hgd fun K hK => ?_
  have hr := run_b2 A S hA hS w
  unfold Oper.wp execOp
  simp only [ho, Sem.run_bind, List.map_toArray, List.map_cons, List.map_nil, hx, hy, hr]
  exact hK _ _ h
set_option maxRecDepth 8000 in
theorem step_b1 {ops : Array Oper} {o : Oper} {a : Act} {w : World} {K : Act → World → Prop} {Q : Exit → Act → World → Prop} {E : Prop} (hgd : o.guard = none) (x : Operand) (ho : o.op = Op.buildSlice 59 1 #[(0, x)]) (C : List Int) (hC : Bn 32 C) (hx : a.eval x = (.agg (List.map (Value.int .u8) C).toArray))
    (h : K (a.put o.dst (.slice (some ⟨w.heap.size, 0, none⟩) 1 1)) (w.alloc (.cells (List.map (Value.int .u8) C).toArray 27))) : if Region.wanted o (yielded ops a.tmps) = true then Oper.wp Tryd.prog o a w K Q else E := by
  have hw : Region.wanted o (yielded ops a.tmps) = true := by simp [Region.wanted, hgd]
  have hr := run_b1 C hC w
  rw [if_pos hw]
  unfold Oper.wp execOp
  simp only [ho, Sem.run_bind, List.map_toArray, List.map_cons, List.map_nil, hx, hr]
  exact h
end Go.Proofs.YtmibjgkakolhiaaDoor
