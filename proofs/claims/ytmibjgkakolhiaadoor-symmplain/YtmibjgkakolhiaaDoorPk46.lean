/-
  Several texts of one's own, laid together. No statement of the seat is proved here.
-/
import Derived.Test.YtmibjgkakolhiaaDoorKRow
import Derived.Test.YtmibjgkakolhiaaDoorKOpen
import Derived.Deep.Matrix
import Derived.Deep.Grids
import Derived.Deep.Slices
/-
  Slices of slices of bytes, of truth values that came in, each within the form's own reach. No statement of the seat is proved here.
-/
namespace Go.Proofs.YtmibjgkakolhiaaDoor
open Go.ChangeShapes Go.WideShapes Go.ChangeAt Go.RowKit Go.Deep

set_option maxRecDepth 8000 in
theorem cellsS9 : Tryd.prog.cellsOf 35 = 1 := by kernel_rfl
set_option maxRecDepth 8000 in
theorem weights_all {H : Type} {P : Program} {e : TypeId} : ∀ {ds : List (DataW H)} {d : DataW H}, d ∈ ds → ∀ n ∈ d.weights P e, n ∈ DataW.weightsAll P e ds
  | d0 :: ds, d, hd, n, hn => by
    simp only [DataW.weightsAll, List.mem_append]
    rcases List.mem_cons.1 hd with rfl | h
    · exact .inl hn
    · exact .inr (weights_all h n hn)
  | [], _, hd, _, _ => by simp at hd
/-- Each text of a list that came in is within the form's own reach. -/
def Few9 (L : List (List Int)) : Prop := ∀ i : Nat, (L[i]?.getD []).length ≤ 140737488351232
set_option maxRecDepth 8000 in
theorem open_texts {H : Type} {enc : TypeId × Value → H} {W : World} {base : Nat} {held : Bool} {a : Option Addr} {len cap : Nat} {d : DataW H} {p : List MemPlace} {ts : List TypeId} {ds : List (DataW H)} (h : DataW.Trod enc Tryd.prog W base (fun _ => true) held 50 (.slice a len cap) d p)
    (hsz : (DataW.weightsEach Tryd.prog ts ds).all (· ≤ reachBytes) = true) (j : Nat) (ht : ts[j]? = some 50) (hd : ds[j]? = some d) :
    ∃ L, RdL W a len L ∧ Few9 L := by
  obtain ⟨fuel, hf⟩ := h
  rcases open_int_rows Tryd.underlying50 Tryd.underlying35 Tryd.underlying5 cellsS9 cells5 hf with ⟨hcs, hx⟩ | ⟨x, l, c, A, N, C, Z, hcs, _, hl, hm, hx, hrow⟩
  · simp [Value.cells] at hcs
    obtain ⟨rfl, rfl, rfl⟩ := hcs
    exact ⟨[], ⟨rfl, fun h => by omega⟩, fun i => by simp⟩
  · simp [Value.cells] at hcs
    obtain ⟨rfl, rfl, rfl⟩ := hcs
    simp only [Prod.mk.injEq] at hx
    obtain ⟨hdd, _⟩ := hx
    refine ⟨(List.range len).map fun r => if A r = none then [] else (Z r).take (N r), ⟨by simp, fun h0 => ?_⟩, fun i => ?_⟩
    · obtain ⟨b, off, spot⟩ := x
      have hspot : spot = none := by simpa [Addr.add] using World.cell?_spot (hrow 0 (by omega)).1
      subst hspot
      refine ⟨b, off, rfl, fun i hi => ?_⟩
      obtain ⟨hc, h1, h2, h3, h4, h5, h6⟩ := hrow i (by omega)
      refine ⟨A i, N i, C i, by rw [← Go.WideShapes.add_plain]; exact hc, ?_⟩
      rw [List.getElem?_map, List.getElem?_range hi]
      simp only [Option.map_some, Option.getD_some]
      cases hA : A i with
      | none =>
        have e1 := h5 hA
        have e2 : N i = 0 := by omega
        rw [if_pos rfl, e1, e2]
        exact Rd.nil _ _ _ (fun _ => rfl)
      | some y =>
        rw [if_neg (by simp)]
        obtain ⟨_, hcell⟩ := h6 y hA
        refine ⟨by rw [List.length_take]; omega, h1, (fun h => by cases h), fun m hm' => bounds_u8 (h4 m (List.mem_of_mem_take hm')), fun hpos => ?_⟩
        obtain ⟨b2, o2, rfl, hc2⟩ := ints_at (zs := Z i) (fun j hj => hcell j (by omega)) (by omega)
        refine ⟨b2, o2, rfl, fun j hj => ?_⟩
        rw [hc2 j (by omega), List.getD_eq_getElem?_getD, List.getElem?_take_of_lt hj]
    · by_cases hi : i < len
      · rw [List.getElem?_map, List.getElem?_range hi]
        simp only [Option.map_some, Option.getD_some]
        by_cases hA : A i = none
        · rw [if_pos hA]
          simp
        · rw [if_neg hA]
          obtain ⟨y, hy⟩ := Option.ne_none_iff_exists'.1 hA
          rw [hdd] at hd
          have hmem : intRow (H := H) .u8 (A i) (N i) (Z i) ∈ (List.range len).map fun r => intRow (H := H) .u8 (A r) (N r) (Z r) := List.mem_map.2 ⟨i, List.mem_range.2 hi, rfl⟩
          have hw : ((lits (H := H) .u8 ((Z i).take (N i))).length + (lits (H := H) .u8 ((Z i).drop (N i))).length) * Tryd.prog.bytesOf 5 ∈ DataW.weightsEach Tryd.prog ts ds := by
            refine DataW.weights_mem_each ht hd _ ?_
            simp only [DataW.weights, Tryd.underlying50]
            refine List.mem_cons_of_mem _ (List.mem_append_left _ (weights_all hmem _ ?_))
            simp only [intRow, hy, DataW.weights, Tryd.underlying35]
            exact List.mem_cons_self
          have := List.all_eq_true.1 hsz _ hw
          rw [bytes5] at this
          simp only [lits, List.length_map, List.length_take, List.length_drop, reachBytes, decide_eq_true_eq] at this ⊢
          omega
      · rw [List.getElem?_eq_none (by simp; omega)]
        simp
end Go.Proofs.YtmibjgkakolhiaaDoor
/-
  A slice of law 10's Steps that came in. No statement of the seat is proved here.
-/
namespace Go.Proofs.YtmibjgkakolhiaaDoor
open Go.ChangeShapes Go.WideShapes Go.ChangeAt Go.RowKit Go.Deep

/-- A Step in memory: its number, its bytes, no more than M. -/
structure St10 (M : Nat) (w : World) (b o : Nat) (what : Int) (a : Option Addr) (len cap : Nat) (x : List Int) : Prop where
  rng : w.rangeAt b o [.int .i64 what, .slice a len cap]
  rd : Rd w a len cap x
  bw : -9223372036854775808 ≤ what ∧ what ≤ 9223372036854775807
  le : len ≤ M
structure RdT (M : Nat) (w : World) (a : Option Addr) (len : Nat) : Prop where
  cell : 0 < len → ∃ b off, a = some ⟨b, off, none⟩ ∧ ∀ i, i < len → ∃ what ai li ci x, St10 M w b (off + i * 2) what ai li ci x
set_option maxRecDepth 8000 in
theorem trod_bytes10 {H : Type} {enc : TypeId × Value → H} {W : World} {base : Nat} {spare : Nat → Bool} {held : Bool} {fuel : Nat} {cs : List Value} {x : DataW H × List MemPlace} (h : DataW.trod enc Tryd.prog W base spare held fuel 35 cs = some x) :
    ∃ a len cap l, cs = [.slice a len cap] ∧ Rd W a len cap l ∧ ((x.1 = .nil ∧ len = 0) ∨ ∃ e s, x.1 = .slice e s ∧ len ≤ e.length + s.length) := by
  have hs : ∃ a len cap, cs = [.slice a len cap] := by
    rcases open_ints Tryd.underlying35 Tryd.underlying5 cells5 h with ⟨hcs, _⟩ | ⟨x, l, c, _, hcs, _⟩
    · exact ⟨none, 0, 0, hcs⟩
    · exact ⟨some x, l, c, hcs⟩
  obtain ⟨a, len, cap, rfl⟩ := hs
  obtain ⟨l, hl, hd⟩ := open_bytes (enc := enc) (W := W) (base := base) (spare := spare) (held := held) (a := a) (len := len) (cap := cap) (d := x.1) (p := x.2) ⟨fuel, h⟩
  exact ⟨a, len, cap, l, rfl, hl, hd⟩
set_option maxRecDepth 8000 in
theorem one_of10 {α : Type} {l : List α} {i : Nat} {x : α} (h : (l.drop i).take 1 = [x]) : l[i]? = some x := by
  have h2 : ((l.drop i).take 1)[0]? = some x := by rw [h]; rfl
  rwa [List.getElem?_take_of_lt (by decide), List.getElem?_drop, Nat.add_zero] at h2
set_option maxRecDepth 8000 in
theorem cellsT10 : Tryd.prog.cellsOf 41 = 2 := by kernel_rfl
set_option maxRecDepth 8000 in
theorem cellsI10 : Tryd.prog.cellsOf 3 = 1 := by kernel_rfl
set_option maxRecDepth 8000 in
theorem cellsB10 : Tryd.prog.cellsOf 35 = 1 := by kernel_rfl
set_option maxRecDepth 8000 in
theorem open_steps10 {H : Type} {enc : TypeId × Value → H} {W : World} {base : Nat} {spare : Nat → Bool} {held : Bool} {a : Option Addr} {len cap : Nat} {d : DataW H} {p : List MemPlace} (h : DataW.Trod enc Tryd.prog W base spare held 39 (.slice a len cap) d p) (M : Nat)
    (hM : ∀ (l s : List (DataW H)), d = .slice l s → ∀ y0 y1 : DataW H, (.agg [y0, y1]) ∈ l → ∀ n : Nat, ((y1 = .nil ∧ n = 0) ∨ ∃ e s', y1 = .slice e s' ∧ n ≤ e.length + s'.length) → n ≤ M) : RdT M W a len := by
  obtain ⟨fuel, hf⟩ := h
  rcases open_slice Tryd.underlying39 hf with ⟨hcs, _⟩ | ⟨x, l, c, m, n, D, Pl, hcs, _, hl, hm, hmm, hx, hall⟩
  · simp [Value.cells] at hcs
    obtain ⟨rfl, rfl, rfl⟩ := hcs
    exact ⟨fun h => by omega⟩
  · simp [Value.cells] at hcs
    obtain ⟨rfl, rfl, rfl⟩ := hcs
    simp only [Prod.mk.injEq] at hx
    refine ⟨fun h0 => ?_⟩
    have hlm : len ≤ m := by rw [hmm]; split <;> omega
    have hspot : x.spot = none := by
      obtain ⟨cs', h1, _⟩ := hall 0 (by omega)
      obtain ⟨_, hl36, hcell⟩ := World.cells?_some h1
      rw [cellsT10] at hl36 hcell
      have hc := hcell 0 (by decide)
      rw [List.getElem?_eq_getElem (by omega)] at hc
      simpa [Addr.add] using World.cell?_spot hc
    obtain ⟨b, off, spot⟩ := x
    dsimp only at hspot
    subst hspot
    refine ⟨b, off, rfl, fun i hi => ?_⟩
    obtain ⟨cs', h1, h2⟩ := hall i (by omega)
    obtain ⟨_, hl36, hcell⟩ := World.cells?_some h1
    rw [cellsT10] at hl36 hcell
    obtain ⟨xs, k, hk, hxy, _, hxl, hfd⟩ := DataW.trod_struct Tryd.underlying41 h2
    match xs, hxl with
    | [y0, y1], _ =>
      have g0 : DataW.trod enc Tryd.prog W base spare held k 3 ((cs'.drop 0).take (Tryd.prog.cellsOf 3)) = some y0 := hfd 0 _ rfl
      rw [cellsI10] at g0
      have g1 : DataW.trod enc Tryd.prog W base spare held k 35 ((cs'.drop 1).take (Tryd.prog.cellsOf 35)) = some y1 := hfd 1 _ rfl
      rw [cellsB10] at g1
      obtain ⟨what, e0, _, w0⟩ := DataW.trod_int Tryd.underlying3 g0
      obtain ⟨ai, li, ci, bt, e1, ra, hd1⟩ := trod_bytes10 g1
      have hD : D i = .agg [y0.1, y1.1] := by
        simp only [Prod.mk.injEq] at hxy
        simpa using hxy.1
      have hle : li ≤ M := by
        refine hM _ _ hx.1 y0.1 y1.1 ?_ li hd1
        rw [← hD]
        exact List.mem_map.2 ⟨i, List.mem_range.2 hi, rfl⟩
      have hcs' : cs' = [.int .i64 what, .slice ai li ci] := by
        apply List.ext_getElem?
        intro j
        by_cases hj : j < 2
        · match j, hj with
          | 0, _ => rw [one_of10 e0]; rfl
          | 1, _ => rw [one_of10 e1]; rfl
        · rw [List.getElem?_eq_none (by omega), List.getElem?_eq_none (by simp; omega)]
      refine ⟨what, ai, li, ci, bt, ⟨fun j v hv => ?_, ra, bounds_i64 w0, hle⟩⟩
      have hj : j < 2 := by
        have := (List.getElem?_eq_some_iff.1 hv).1
        simpa using this
      rw [← hcs', ← hcell j hj] at hv
      rw [← hv, add_add]
      congr 1
      rw [Go.WideShapes.add_plain, Nat.add_assoc]
set_option maxRecDepth 8000 in
/-- Each within the form's own reach. -/
theorem steps_reach {H : Type} {enc : TypeId × Value → H} {W : World} {base : Nat} {spare : Nat → Bool} {held : Bool} {a : Option Addr} {len cap : Nat} {d : DataW H} {p : List MemPlace} {ts : List TypeId} {ds : List (DataW H)} (h : DataW.Trod enc Tryd.prog W base spare held 39 (.slice a len cap) d p)
    (hsz : (DataW.weightsEach Tryd.prog ts ds).all (· ≤ reachBytes) = true) (j : Nat) (ht : ts[j]? = some 39) (hd : ds[j]? = some d) : RdT 140737488351232 W a len := by
  refine open_steps10 h _ (fun l s hds y0 y1 hmem n hn => ?_)
  rcases hn with ⟨_, rfl⟩ | ⟨e, s', rfl, hn⟩
  · omega
  · have hw : (e.length + s'.length) * Tryd.prog.bytesOf 5 ∈ DataW.weightsEach Tryd.prog ts ds := by
      refine DataW.weights_mem_each ht hd _ ?_
      subst hds
      simp only [DataW.weights, Tryd.underlying39]
      refine List.mem_cons_of_mem _ (List.mem_append_left _ (weights_all hmem _ ?_))
      simp only [DataW.weights, Tryd.underlying41, DataW.weightsEach, List.map_cons, List.map_nil, Tryd.underlying35]
      simp
    have := of_decide_eq_true (List.all_eq_true.1 hsz _ hw)
    rw [bytes5] at this
    unfold reachBytes at this
    omega
set_option maxRecDepth 8000 in
theorem bulk_one10 {H : Type} (d : DataW H) : 1 ≤ Rows.uptoBulk d := by
  cases d with
  | lit l => cases l <;> simp [Rows.uptoBulk]
  | _ => simp [Rows.uptoBulk]
set_option maxRecDepth 8000 in
theorem bulk_len10 {H : Type} (l : List (DataW H)) : l.length ≤ Rows.uptoBulkAll l := by
  induction l with
  | nil => simp [Rows.uptoBulkAll]
  | cons x r ih => have := bulk_one10 x; simp only [Rows.uptoBulkAll, List.length_cons]; omega
set_option maxRecDepth 8000 in
theorem bulk_mem10 {H : Type} : ∀ {l : List (DataW H)} {d : DataW H}, d ∈ l → Rows.uptoBulk d ≤ Rows.uptoBulkAll l
  | x :: r, d, h => by
    simp only [Rows.uptoBulkAll]
    rcases List.mem_cons.1 h with rfl | h
    · omega
    · have := bulk_mem10 h; omega
  | [], _, h => by simp at h
set_option maxRecDepth 8000 in
theorem steps_bulk {H : Type} {enc : TypeId × Value → H} {W : World} {base : Nat} {spare : Nat → Bool} {held : Bool} {a : Option Addr} {len cap : Nat} {d : DataW H} {p : List MemPlace} (h : DataW.Trod enc Tryd.prog W base spare held 39 (.slice a len cap) d p) (hbulk : Rows.uptoBulk d ≤ 1048576) : RdT 1048576 W a len := by
  refine open_steps10 h _ (fun l s hds y0 y1 hmem n hn => ?_)
  rcases hn with ⟨_, rfl⟩ | ⟨e, s', rfl, hn⟩
  · omega
  · subst hds
    have h1 := bulk_mem10 hmem
    have h2 := bulk_len10 e
    have h3 := bulk_len10 s'
    simp only [Rows.uptoBulk, Rows.uptoBulkAll] at hbulk h1
    omega
end Go.Proofs.YtmibjgkakolhiaaDoor
