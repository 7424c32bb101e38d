/-
  Several texts of one's own, laid together. No statement of the seat is proved here.
-/
import Derived.Test.YtmibjgkakolhiaaDoorKBase
import Derived.Test.YtmibjgkakolhiaaDoorPk3
/-
  Texts of digits, two to a byte. No statement of the seat is proved here.
-/
namespace Go.Proofs.YtmibjgkakolhiaaDoor
open Go.RowKit

def sd (s : ByteArray) : List Int := s.data.toList.map (fun u => (u.toNat : Int))
set_option maxRecDepth 8000 in
theorem idx_str (s : ByteArray) (j : Nat) (h : j < s.size) (w : World) : Sem.run Tryd.prog (Instr.index 9 (.string s) (.int .i64 (j : Int))) w = .ok (.int .u8 (sd s)[j]!) w := by
  rw [run_index_string (P := Tryd.prog) _ _ s _ _ Tryd.underlying9, dif_pos ⟨by omega, by omega⟩]
  have e : (sd s)[j]? = some ((s.data[j]'h).toNat : Int) := by
    unfold sd
    rw [List.getElem?_map, Array.getElem?_toList, Array.getElem?_eq_getElem h]
    rfl
  have e2 : (sd s)[j]! = ((s.data[j]'h).toNat : Int) := by rw [List.getElem!_eq_getElem?_getD, e]; rfl
  rw [e2]
  rfl
/-- A digit. -/
def dv (c : Int) : Int := if 97 ≤ c then c - 87 else c - 48
def okd (c : Int) : Bool := (decide (48 ≤ c) && decide (c ≤ 57)) || (decide (97 ≤ c) && decide (c ≤ 102))
def hxl (d : List Int) : Nat → List Int
  | 0 => []
  | i + 1 => hxl d i ++ [16 * dv d[2 * i]! + dv d[2 * i + 1]!]
set_option maxRecDepth 8000 in
theorem hxl_len (d : List Int) : ∀ i, (hxl d i).length = i
  | 0 => rfl
  | i + 1 => by rw [hxl, List.length_append, hxl_len d i]; rfl
set_option maxRecDepth 8000 in
theorem okd_dv {c : Int} (h : okd c = true) : 0 ≤ dv c ∧ dv c ≤ 15 ∧ 48 ≤ c ∧ c ≤ 102 ∧ (97 ≤ c → dv c = c - 87) ∧ (¬ 97 ≤ c → dv c = c - 48) := by
  unfold okd at h
  simp only [Bool.or_eq_true, Bool.and_eq_true, decide_eq_true_eq] at h
  unfold dv
  split <;> omega
set_option maxRecDepth 8000 in
theorem okd_at {d : List Int} (h : d.all okd = true) {j : Nat} (hj : j < d.length) : okd d[j]! = true := by
  rw [getElem!_pos d j hj]
  exact List.all_eq_true.1 h _ (List.getElem_mem hj)
set_option maxRecDepth 8000 in
theorem hxl_byt {d : List Int} (h : d.all okd = true) : ∀ i, 2 * i ≤ d.length → Byt (hxl d i)
  | 0, _ => Byt.nil
  | i + 1, hi => by
    have h0 := okd_dv (okd_at h (j := 2 * i) (by omega))
    have h1 := okd_dv (okd_at h (j := 2 * i + 1) (by omega))
    rw [hxl]
    exact (hxl_byt h i (by omega)).app (Byt.cons (by omega) (by omega) Byt.nil)
end Go.Proofs.YtmibjgkakolhiaaDoor
/-
  What portholehand's Pick and Bytes do: a number within bounds, so many bytes. No statement of the seat is proved here.
-/
namespace Go.Proofs.YtmibjgkakolhiaaDoor
open Go.RowKit

set_option maxRecDepth 8000 in
set_option maxHeartbeats 1000000 in
theorem pick_any (n m : Int) (hn : -9223372036854775808 ≤ n ∧ n ≤ 9223372036854775807) (hm : 1 ≤ m ∧ m ≤ 1000) (w : World) :
    Calls Tryd.prog 20 #[.int .i64 n, .int .i64 m] w fun e w' => ∃ k, e = .returned (.int .i64 k) ∧ 0 ≤ k ∧ k < m ∧ w' = w := by
  obtain ⟨n0, n1⟩ := hn
  obtain ⟨m0, m1⟩ := hm
  have hl : n.tmod m < m := Int.tmod_lt_of_pos n (by omega)
  have hg : -m < n.tmod m := by
    have := Int.lt_tmod_of_pos n (show 0 < m by omega)
    omega
  by_cases h : 0 ≤ n.tmod m
  · go_enter Tryd.func20, Tryd.ntmps20
    go_wp2
    go_ret
    exact ⟨_, rfl, h, hl, rfl⟩
  · go_enter Tryd.func20, Tryd.ntmps20
    go_wp2
    go_ret
    exact ⟨_, rfl, by omega, by omega, rfl⟩
set_option maxRecDepth 8000 in
/-- A make at a step of a region that draws its order, where what it makes is known. -/
theorem step_make_run {P : Program} {ops : Array Oper} {o : Oper} {a : Act} {w : World} {K : Act → World → Prop} {Q : Exit → Act → World → Prop} {E : Prop} (hgd : Region.wanted o (yielded ops a.tmps) = true) (l c : Operand) (t : TypeId)
    (ho : o.op = Op.makeSlice t l c) (v1 v2 : Value) (hs : a.eval l = v1) (hx : a.eval c = v2) (v : Value) (w' : World)
    (hr : (Instr.makeSlice t v1 v2).run P w = .ok v w') (h : K (a.put o.dst v) w') : if Region.wanted o (yielded ops a.tmps) = true then Oper.wp P o a w K Q else E := by
  rw [if_pos hgd]
  unfold Oper.wp
  simp [execOp, ho, hs, hx, hr, Result.andThen]
  exact h
set_option maxRecDepth 8000 in
theorem bytes_own {w : World} {base g n c : Nat} {e : TypeId} {l : List Int} (h : w.ownsRow base e 1 (.slice (some ⟨g, 0, none⟩) n c) n (List.map (Value.int .u8) l)) (k : Nat) (hk : k < n) : ∃ v, w.cell? ⟨g, k, none⟩ = some (.int .u8 v) ∧ l[k]? = some v := by
  have hl : l.length = n := by simpa using h.1
  refine ⟨l[k]'(by omega), ?_, List.getElem?_eq_getElem _⟩
  rw [World.ownsRow.cellAt h k (by omega), List.getElem?_map, List.getElem?_eq_getElem (by omega)]
  rfl
set_option maxRecDepth 8000 in
theorem byt_set {l : List Int} (h : Byt l) (k : Nat) {x : Int} (h0 : 0 ≤ x) (h1 : x ≤ 255) : Byt (l.set k x) := fun y hy => by
  rcases List.mem_or_eq_of_mem_set hy with hy | rfl
  · exact h y hy
  · exact ⟨h0, h1⟩
set_option maxRecDepth 8000 in
theorem byt_zero (n : Nat) : Byt (List.replicate n 0) := fun x hx => by rw [(List.mem_replicate.1 hx).2]; decide
set_option maxRecDepth 8000 in
theorem made_zero (n : Nat) : (madeCells (Value.int .u8 0).cells (n * 1)).toList = List.map (Value.int .u8) (List.replicate n 0) := by
  have := toList_madeCells_one (.int .u8 0) n
  rw [List.map_replicate, ← this]
  simp [Value.cells]

set_option maxRecDepth 8000 in
set_option maxHeartbeats 1000000 in
theorem bytes_c (n : Nat) (seed : Int) (hn : n ≤ 100000) (w : World) :
    Calls Tryd.prog 23 #[.int .i64 n, .int .i64 seed] w fun e w' => ∃ g X, e = .returned (.slice (some ⟨g, 0, none⟩) n n) ∧ Hid (Byt X) ∧ Hid (w'.ownsRow w.heap.size 5 1 (.slice (some ⟨g, 0, none⟩) n n) n (List.map (Value.int .u8) X)) ∧ Below w.heap.size w w' := by
  obtain ⟨i0, hi, hz0, hz1, hz2⟩ := info_parts info5
  obtain ⟨x0, hw0⟩ : ∃ x, IntKind.u64.wrap seed = x := ⟨_, rfl⟩
  have hx0 : 0 ≤ x0 ∧ x0 < 18446744073709551616 := by rw [IntKind.wrap_u64] at hw0; omega
  go_enter Tryd.func23, Tryd.ntmps23
  go_wp2_with (at_make; refine wpList_make_full _ rfl _ _ 35 rfl w.heap.size 5 i0 (.int .u8 0) 1 Tryd.underlying35 hi hz0 hz1 _ _ _ _ n rfl rfl rfl rfl (by rw [hz2]; omega) (by unfold maxLen; omega) (Nat.le_refl _) ?_)
  intro W1 hown hgrow
  have hb1 : Below w.heap.size w W1 := (Below.refl _ _).grown hgrow (Nat.le_refl _) (fun k h => by cases h)
  have HO : Hid (W1.ownsRow w.heap.size 5 1 (.slice (some ⟨w.heap.size, 0, none⟩) n n) n (List.map (Value.int .u8) (List.replicate n 0))) := by unfold Hid; rw [← made_zero]; simpa [Value.cells] using hown
  have HB : Hid (Below w.heap.size w W1) := hb1
  clear hown hgrow hb1
  go_wp2
  clear hw0
  go_loopw [6, 7] (fun x i wr => ∃ (k : Nat) (v : Int) (X : List Int), k ≤ n ∧ i = .int .i64 k ∧ x = .int .u64 v ∧ 0 ≤ v ∧ v < 18446744073709551616 ∧ Hid (Byt X) ∧ Hid (wr.ownsRow w.heap.size 5 1 (.slice (some ⟨w.heap.size, 0, none⟩) n n) n (List.map (Value.int .u8) X)) ∧ Hid (Below w.heap.size w wr)) (fun _ i _ => n - (intOf i).toNat)
  case atStart => exact ⟨0, x0, _, Nat.zero_le _, rfl, rfl, hx0.1, hx0.2, byt_zero n, HO, HB⟩
  case round =>
    clear HO HB
    obtain ⟨k, v, X, hk, rfl, rfl, v0, v1, HX, HO, HB⟩ := hrel
    by_cases hlt : k < n
    · have g1 : (k : Int) < n := by omega
      obtain ⟨y, cy, -⟩ := bytes_own HO.out k hlt
      have cf := World.ownsRow.frozenAt HO.out k
      obtain ⟨v', hv'⟩ : ∃ v', IntKind.u64.wrap (IntKind.u64.wrap (v * 6364136223846793005) + 1442695040888963407) = v' := ⟨_, rfl⟩
      have hwd : 0 ≤ v' ∧ v' < 18446744073709551616 := by rw [IntKind.wrap_u64] at hv'; omega
      obtain ⟨bb, hbb⟩ : ∃ bb, IntKind.u8.wrap (v' / 1099511627776) = bb := ⟨_, rfl⟩
      have hbd : 0 ≤ bb ∧ bb ≤ 255 := by rw [IntKind.wrap_u8] at hbb; omega
      obtain ⟨hwd0, hwd1⟩ := hwd
      go_wp2
      clear hv' hbb
      go_roundw
      case rel => exact ⟨k + 1, v', X.set k bb, by omega, by go_num, rfl, hwd0, hwd1, byt_set HX.out k hbd.1 hbd.2, by
        unfold Hid
        rw [List.map_set]
        exact (HO.out.stored k _).1, HB.out.setCell (p := ⟨w.heap.size, k, none⟩) (Nat.le_refl _) _⟩
      case measure => simp [intOf]; omega
    · have e : k = n := by omega
      subst e
      go_wp2
      go_ret
      exact ⟨_, X, rfl, HX, HO, HB.out⟩
end Go.Proofs.YtmibjgkakolhiaaDoor
