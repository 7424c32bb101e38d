/-
  What the law's own 'known' does: chapter 2's examples hold. No statement of the seat is proved here.
-/
import Derived.Test.YtdfmbknofdkffaaFLawA
import Derived.BigFrame
namespace Go.Proofs.Ytdfmbknofdkffaa
open Go.RowKit

/-- The load of a whole array where a guard says yes. -/
theorem wpList_load_want {P : Program} {ops : Array Oper} {rest : List Oper} {op : Oper} {a : Act} {w : World} {Q : Exit → Act → World → Prop} (hw : Region.wanted op (yielded ops a.tmps) = true) (ty : TypeId) (x : Operand) (ho : op.op = .load ty x)
    (b o : Nat) (hx : a.eval x = .pointer (some ⟨b, o, none⟩)) (cs : List Value) (d : TypeDesc) (hc : w.rangeAt b o cs)
    (hu : P.underlying ty = some d) (hd : d.isRow = true) (hi : (P.info? ty).map (·.size) = some cs.length)
    (h : wpList P ops Q rest (a.put op.dst (.agg cs.toArray)) w) : wpList P ops Q (op :: rest) a w :=
  Go.BigFrame.wpList_want hw fun _ hK => wp_load_mid ty x ho b o hx cs d hc hu hd hi (hK _ _ h)
/-- A variable that holds an array of bytes. -/
structure Arr (u : World) (b : Nat) (cs : List Value) : Prop where
  rng : u.rangeAt b 0 cs
  all : u.there b 0 32
theorem Arr.later {u u' : World} {b : Nat} {cs : List Value} (h : Arr u b cs) (hb : Below u.heap.size u u') : Arr u' b cs := ⟨range_later hb h.rng, there_later hb h.all⟩
theorem arr_new (u : World) (z : Array Value) (hz : z.size = 32) (cs : List Value) (hl : cs.length = 32) : Arr ((u.alloc (.cells z 22)).setCells u.heap.size 0 cs) u.heap.size cs :=
  ⟨World.rangeAt_setCells_same _ _ _ _ (by rw [hl]; exact there_new u 32 z hz _), World.there_setCells (there_new u 32 z hz _) _ _ _⟩
theorem bel_new (u : World) (z : Array Value) (cs : List Value) : Below u.heap.size u ((u.alloc (.cells z 22)).setCells u.heap.size 0 cs) := below_setCells _ (Nat.le_refl _) _ _ _ (bel1 _ _)
theorem Arr.lt {u : World} {b : Nat} {cs : List Value} (h : Arr u b cs) : b < u.heap.size := there_lt h.all (by decide)
theorem lay_by (x : Int) : By (lay 32 x) := ⟨lay_length 32 x, lay_byt 32 x⟩
theorem num_pl (q : Int) (h0 : 237 ≤ q) (h1 : q ≤ 255) : num (pl q) = q - 237 := by
  unfold num
  rw [leN_pl]
  omega
theorem zs_eq : (.agg #[.int .u8 0, .int .u8 0, .int .u8 0, .int .u8 0, .int .u8 0, .int .u8 0, .int .u8 0, .int .u8 0, .int .u8 0, .int .u8 0, .int .u8 0, .int .u8 0, .int .u8 0, .int .u8 0, .int .u8 0, .int .u8 0, .int .u8 0, .int .u8 0, .int .u8 0, .int .u8 0, .int .u8 0, .int .u8 0, .int .u8 0, .int .u8 0, .int .u8 0, .int .u8 0, .int .u8 0, .int .u8 0, .int .u8 0, .int .u8 0, .int .u8 0, .int .u8 0] : Value) = (.agg (List.map (Value.int .u8) (lay 32 0)).toArray) := by kernel_rfl
theorem z1_eq : (.agg #[.int .u8 1, .int .u8 0, .int .u8 0, .int .u8 0, .int .u8 0, .int .u8 0, .int .u8 0, .int .u8 0, .int .u8 0, .int .u8 0, .int .u8 0, .int .u8 0, .int .u8 0, .int .u8 0, .int .u8 0, .int .u8 0, .int .u8 0, .int .u8 0, .int .u8 0, .int .u8 0, .int .u8 0, .int .u8 0, .int .u8 0, .int .u8 0, .int .u8 0, .int .u8 0, .int .u8 0, .int .u8 0, .int .u8 0, .int .u8 0, .int .u8 0, .int .u8 0] : Value) = (.agg (List.map (Value.int .u8) (lay 32 1)).toArray) := by kernel_rfl
theorem eql_same (a b : List Int) (ha : By a) (hb : By b) (h : a = b) (w : World) : Sem.run Try.prog (binOp .eql 22 (.agg (List.map (Value.int .u8) a).toArray) (.agg (List.map (Value.int .u8) b).toArray)) w = .ok (.bool true) w := by
  rw [eql_arr a b ha hb]
  simp [alike, h]
/-- What a store of bytes wants. -/
theorem by_cells' {l : List Int} {cs : List Value} (h : By l) (hc : Hid ((List.map (Value.int .u8) l) = cs)) : cs.length = 32 ∧ (∀ v ∈ cs, v.oneCell' = true) ∧ (Try.prog.info? 22).map (·.size) = some cs.length := by
  rw [← hc.out]
  exact by_cells h

end Go.Proofs.Ytdfmbknofdkffaa
