/-
  A Hash that holds the bytes written to it so far: how it goes on. No statement of the seat is proved here.
-/
import Derived.Test.YtmibjgkakolhiaaDoorBPress
namespace Go.Proofs.YtmibjgkakolhiaaDoor
open Go.RowKit

/-- The Hash in block b has taken k blocks of T, and holds the rest. -/
def Hp (u : World) (b : Nat) (T : List Int) (k : Nat) : Prop := Hs u b (hb7 T k) ((64 * k : Nat) : Int) (pad7 (T.drop (64 * k))) (T.length - 64 * k)
/-- The Hash in block b holds the bytes T. -/
structure Hx (u : World) (b : Nat) (T : List Int) : Prop where
  h : Hp u b T (kb7 T.length)
  byt : Byt T
set_option maxRecDepth 8000 in
theorem Hx.later {u u' : World} {b : Nat} {T : List Int} (h : Hx u b T) (hb : Below u.heap.size u u') : Hx u' b T := ⟨Hs.later h.h hb, h.byt⟩
set_option maxRecDepth 8000 in
theorem Hx.extb {u u' : World} {b bo : Nat} {T : List Int} (h : Hx u b T) (hb : ExtB bo u u') (hne : b ≠ bo) : Hx u' b T := ⟨Hs.extb h.h hb hne, h.byt⟩
set_option maxRecDepth 8000 in
theorem Hx.lt {u : World} {b : Nat} {T : List Int} (h : Hx u b T) : b < u.heap.size := Hs.lt h.h
set_option maxRecDepth 8000 in
theorem kb7_le (n : Nat) : 64 * kb7 n ≤ n := by unfold kb7; omega
set_option maxRecDepth 8000 in
theorem kb7_held (n : Nat) : n - 64 * kb7 n ≤ 64 := by unfold kb7; omega
set_option maxRecDepth 8000 in
theorem pad7_len {l : List Int} (h : l.length ≤ 64) : (pad7 l).length = 64 := by
  unfold pad7
  rw [List.length_append, List.length_replicate]
  omega
set_option maxRecDepth 8000 in
theorem pad7_full {l : List Int} (h : l.length = 64) : pad7 l = l := by
  unfold pad7
  rw [h]
  simp
set_option maxRecDepth 8000 in
theorem pad7_nil : pad7 [] = List.replicate 64 0 := rfl
set_option maxRecDepth 8000 in
/-- A full block is pressed in. -/
theorem hp_pressed {u : World} {b : Nat} {T : List Int} {k : Nat} (hl : T.length = 64 * k + 64) (h : Hs u b (pr7 (hb7 T k) (pad7 (T.drop (64 * k))) (((64 * k : Nat) : Int) + ((T.length - 64 * k : Nat) : Int)) false) (((64 * k : Nat) : Int) + ((T.length - 64 * k : Nat) : Int)) (List.replicate 64 0) 0) : Hp u b T (k + 1) := by
  have e1 : ((64 * k : Nat) : Int) + ((T.length - 64 * k : Nat) : Int) = ((64 * (k + 1) : Nat) : Int) := by omega
  have e2 : (T.drop (64 * k)).length = 64 := by rw [List.length_drop]; omega
  have e3 : (T.drop (64 * k)).take 64 = T.drop (64 * k) := List.take_of_length_le (by omega)
  have e4 : T.drop (64 * (k + 1)) = [] := List.drop_eq_nil_of_le (by omega)
  have e5 : T.length - 64 * (k + 1) = 0 := by omega
  rw [e1, pad7_full e2, ← e3] at h
  unfold Hp
  rw [e4, e5, pad7_nil, hb7]
  exact h
set_option maxRecDepth 8000 in
/-- Bytes are laid into the block that waits. -/
theorem pad7_part (Z y : List Int) (_h : Z.length + y.length ≤ 64) : (pad7 Z).take Z.length ++ (y ++ (pad7 Z).drop (Z.length + y.length)) = pad7 (Z ++ y) := by
  unfold pad7
  rw [List.take_append_of_le_length (Nat.le_refl _), List.take_of_length_le (Nat.le_refl _), ← List.drop_drop, List.drop_append_of_le_length (Nat.le_refl _), List.drop_of_length_le (Nat.le_refl _), List.nil_append, List.drop_replicate, List.append_assoc, List.length_append]
  congr 3
  omega
set_option maxRecDepth 8000 in
theorem hp_more {u : World} {b : Nat} {T : List Int} (y : List Int) (hT : Byt T) (hy : Byt y) (h0 : 0 < y.length) (h1 : T.length % 64 + y.length ≤ 64)
    (h : Hs u b (hb7 T (T.length / 64)) ((64 * (T.length / 64) : Nat) : Int) ((pad7 (T.drop (64 * (T.length / 64)))).take (T.length % 64) ++ (y ++ (pad7 (T.drop (64 * (T.length / 64)))).drop (T.length % 64 + y.length))) (T.length % 64 + y.length)) : Hx u b (T ++ y) := by
  have e1 : kb7 (T ++ y).length = T.length / 64 := by unfold kb7; rw [List.length_append]; omega
  have e2 : (T.drop (64 * (T.length / 64))).length = T.length % 64 := by rw [List.length_drop]; omega
  refine ⟨?_, hT.app hy⟩
  unfold Hp
  rw [e1, hb7_app T y _ (by omega), List.drop_append_of_le_length (by omega), ← pad7_part _ y (by omega), e2]
  have e3 : (T ++ y).length - 64 * (T.length / 64) = T.length % 64 + y.length := by rw [List.length_append]; omega
  rw [e3]
  exact h
set_option maxRecDepth 8000 in
theorem kb7_div {n : Nat} (h : n - 64 * kb7 n ≠ 64) : kb7 n = n / 64 := by unfold kb7 at h ⊢; omega
set_option maxRecDepth 8000 in
theorem kb7_full {n : Nat} (h : n - 64 * kb7 n = 64) : n = 64 * kb7 n + 64 ∧ n / 64 = kb7 n + 1 := by unfold kb7 at h ⊢; omega
set_option maxRecDepth 8000 in
theorem sum7_end {T : List Int} {t : Int} (ht : t = ((64 * kb7 T.length : Nat) : Int) + ((T.length - 64 * kb7 T.length : Nat) : Int)) : ou7 (pr7 (hb7 T (kb7 T.length)) (pad7 (T.drop (64 * kb7 T.length))) t true) 8 = sum7 T := by
  have h := kb7_le T.length
  have e : t = (T.length : Int) := by omega
  rw [sum7_eq, e]
  rfl
/-! ### New -/
def z64w : List Int := List.replicate 64 0
set_option maxRecDepth 8000 in
theorem z64w_bn : Bn 64 z64w := ⟨List.length_replicate, byt_zero7 64⟩
def hn7 : List Value := hc7 iv7 0 z64w 0
set_option maxRecDepth 8000 in
theorem build_iv (w : World) : Sem.run Tryd.prog (Instr.build 89 #[(0, .agg (List.map (Value.int .u32) iv7).toArray)]) w = .ok (.agg hn7.toArray) w := by kernel_rfl
set_option maxRecDepth 8000 in
theorem build_new (w : World) (ev : Operand → Value) (o : Oper) (ho : o.op = Op.build 89 #[(0, .tmp 2)]) (hs : ev (.tmp 2) = .agg (List.map (Value.int .u32) iv7).toArray) : (execOp ev o).run Tryd.prog w = .ok (.value (.agg hn7.toArray)) w := by
  unfold execOp
  rw [ho]
  have e : Array.map (fun x : Nat × Operand => match x with | (i, x) => (i, ev x)) #[(0, Operand.tmp 2)] = #[(0, .agg (List.map (Value.int .u32) iv7).toArray)] := by
    rw [← hs]
    simp
  show Sem.run Tryd.prog (do let r ← Instr.build 89 (Array.map (fun x : Nat × Operand => match x with | (i, x) => (i, ev x)) #[(0, Operand.tmp 2)]); pure (Next.value r)) w = _
  rw [e, Sem.run_bind, build_iv]
  rfl
set_option maxRecDepth 8000 in
theorem wpList_build {ops : Array Oper} {rest : List Oper} {o : Oper} {a : Act} {w : World} {Q : Exit → Act → World → Prop} (hgd : o.guard = none) (ho : o.op = Op.build 89 #[(0, .tmp 2)]) (hs : a.eval (.tmp 2) = .agg (List.map (Value.int .u32) iv7).toArray)
    (h : wpList Tryd.prog ops Q rest (a.put o.dst (.agg hn7.toArray)) w) : wpList Tryd.prog ops Q (o :: rest) a w := by
  refine wpList_plain hgd fun K hK => ?_
  unfold Oper.wp
  rw [build_new w a.eval o ho hs]
  exact hK _ _ h
end Go.Proofs.YtmibjgkakolhiaaDoor
