/-
  Constant texts and arrays of bytes that are compared. No statement of the seat is proved here.
-/
import Derived.Test.YtjmdgmbkkkoamaaKOwn
import Derived.Lib.SlBytesConst
namespace Go.Proofs.Ytjmdgmbkkkoamaa
open Go.RowKit

theorem byt5 (l : List Int) (h : l.all (fun x => decide (0 ≤ x) && decide (x ≤ 255)) = true) : Byt l := by
  intro x hx
  have := List.all_eq_true.1 h x hx
  simp only [Bool.and_eq_true, decide_eq_true_eq] at this
  exact this
theorem rd_mark (w : World) (l : List Int) (hb : Byt l) (t : TypeId) (fz : Nat × Nat) (cap : Nat) (hc : l.length ≤ cap) (cs : Array Value) (hcs : ∀ i, i < l.length → cs[i]? = some (.int .u8 (l[i]?.getD 0))) : Rd (w.alloc (.cells cs t fz)) (some ⟨w.heap.size, 0, none⟩) l.length cap l :=
  ⟨rfl, hc, (fun h => by cases h), hb, fun _ => ⟨w.heap.size, 0, rfl, fun i hi => by
    rw [Nat.zero_add, cell_of_row _ _ _ _ _ _ (heap_alloc_new w _)]
    exact hcs i hi⟩⟩
theorem map_cells (l : List Int) : ∀ i, i < l.length → (List.map (Value.int .u8) l).toArray[i]? = some (.int .u8 (l[i]?.getD 0)) := fun i hi => by simp [List.getElem?_eq_getElem hi]
theorem pbytes_of : ∀ (l : List Int), Byt l → ∃ xs : List UInt8, xs.length = l.length ∧ l.map (Value.int .u8) = xs.map Extern.Stop.cell
  | [], _ => ⟨[], rfl, rfl⟩
  | x :: l, h => by
    obtain ⟨xs, h1, h2⟩ := pbytes_of l (fun y hy => h y (by simp [hy]))
    have hx := h x (by simp)
    have e : ((UInt8.ofNat x.toNat).toNat : Int) = x := by
      rw [UInt8.toNat_ofNat']
      omega
    refine ⟨UInt8.ofNat x.toNat :: xs, by simp [h1], ?_⟩
    rw [List.map_cons, List.map_cons, h2, Extern.Stop.cell]
    congr 2
    exact e.symm
theorem eql32 (a b : List Int) (ha : Bn 32 a) (hab : a = b) (w : World) : Sem.run Try.prog (binOp .eql 31 (.agg (List.map (Value.int .u8) a).toArray) (.agg (List.map (Value.int .u8) b).toArray)) w = .ok (.bool true) w := by
  subst hab
  obtain ⟨xs, x1, x2⟩ := pbytes_of a ha.byt
  rw [x2, run_eql_bytes (P := Try.prog) w 31 5 32 Try.underlying31 Try.underlying5 (fun _ => by kernel_rfl) xs xs (x1.trans ha.len) (x1.trans ha.len)]
  simp
theorem neq32 (a b : List Int) (ha : Bn 32 a) (hab : a = b) (w : World) : Sem.run Try.prog (binOp .neq 31 (.agg (List.map (Value.int .u8) a).toArray) (.agg (List.map (Value.int .u8) b).toArray)) w = .ok (.bool false) w := by
  subst hab
  obtain ⟨xs, x1, x2⟩ := pbytes_of a ha.byt
  rw [x2, run_neq_struct, run_equalIn_bytes w 9998 31 5 32 Try.underlying31 Try.underlying5 (fun _ => by kernel_rfl) xs xs (x1.trans ha.len) (x1.trans ha.len)]
  simp [Result.andThen]
end Go.Proofs.Ytjmdgmbkkkoamaa
