/-
  What portholehand's Pick and Bytes do: a number within bounds, so many bytes. No statement of the seat is proved here.
-/
import Derived.Test.YtifcdmiopanedaaDoorKGen
namespace Go.Proofs.YtifcdmiopanedaaDoor
open Go.RowKit

set_option maxHeartbeats 1000000 in
theorem pick_any (n m : Int) (hn : -9223372036854775808 ≤ n ∧ n ≤ 9223372036854775807) (hm : 1 ≤ m ∧ m ≤ 1000) (w : World) :
    Calls Tryd.prog 18 #[.int .i64 n, .int .i64 m] w fun e w' => ∃ k, e = .returned (.int .i64 k) ∧ 0 ≤ k ∧ k < m ∧ w' = w := by
  obtain ⟨n0, n1⟩ := hn
  obtain ⟨m0, m1⟩ := hm
  have hl : n.tmod m < m := Int.tmod_lt_of_pos n (by omega)
  have hg : -m < n.tmod m := by
    have := Int.lt_tmod_of_pos n (show 0 < m by omega)
    omega
  by_cases h : 0 ≤ n.tmod m
  · go_enter Tryd.func18, Tryd.ntmps18
    go_wp2
    go_ret
    exact ⟨_, rfl, h, hl, rfl⟩
  · go_enter Tryd.func18, Tryd.ntmps18
    go_wp2
    go_ret
    exact ⟨_, rfl, by omega, by omega, rfl⟩
/-- A make at a step of a region that draws its order, where what it makes is known. -/
theorem step_make_run {P : Program} {ops : Array Oper} {o : Oper} {a : Act} {w : World} {K : Act → World → Prop} {Q : Exit → Act → World → Prop} {E : Prop} (hgd : Region.wanted o (yielded ops a.tmps) = true) (l c : Operand) (t : TypeId)
    (ho : o.op = Op.makeSlice t l c) (v1 v2 : Value) (hs : a.eval l = v1) (hx : a.eval c = v2) (v : Value) (w' : World)
    (hr : (Instr.makeSlice t v1 v2).run P w = .ok v w') (h : K (a.put o.dst v) w') : if Region.wanted o (yielded ops a.tmps) = true then Oper.wp P o a w K Q else E := by
  rw [if_pos hgd]
  unfold Oper.wp
  simp [execOp, ho, hs, hx, hr, Result.andThen]
  exact h
theorem bytes_own {w : World} {base g n c : Nat} {e : TypeId} {l : List Int} (h : w.ownsRow base e 1 (.slice (some ⟨g, 0, none⟩) n c) n (List.map (Value.int .u8) l)) (k : Nat) (hk : k < n) : ∃ v, w.cell? ⟨g, k, none⟩ = some (.int .u8 v) ∧ l[k]? = some v := by
  have hl : l.length = n := by simpa using h.1
  refine ⟨l[k]'(by omega), ?_, List.getElem?_eq_getElem _⟩
  rw [World.ownsRow.cellAt h k (by omega), List.getElem?_map, List.getElem?_eq_getElem (by omega)]
  rfl
theorem byt_set {l : List Int} (h : Byt l) (k : Nat) {x : Int} (h0 : 0 ≤ x) (h1 : x ≤ 255) : Byt (l.set k x) := fun y hy => by
  rcases List.mem_or_eq_of_mem_set hy with hy | rfl
  · exact h y hy
  · exact ⟨h0, h1⟩
theorem byt_zero (n : Nat) : Byt (List.replicate n 0) := fun x hx => by rw [(List.mem_replicate.1 hx).2]; decide
theorem made_zero (n : Nat) : (madeCells (Value.int .u8 0).cells (n * 1)).toList = List.map (Value.int .u8) (List.replicate n 0) := by
  have := toList_madeCells_one (.int .u8 0) n
  rw [List.map_replicate, ← this]
  simp [Value.cells]

end Go.Proofs.YtifcdmiopanedaaDoor
