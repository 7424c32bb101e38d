/-
  Several texts of one's own, laid together. No statement of the seat is proved here.
-/
import Derived.Test.YtjmdgmbkkkoamaaDoorPk3
import Derived.Test.YtjmdgmbkkkoamaaDoorRBlk
import Derived.Test.YtjmdgmbkkkoamaaDoorRows
import Derived.ChangeSame
import Derived.ChangeVars
import Derived.JoinedOf
import Derived.RowKit
import Derived.LaidLaws
import Derived.LaidHandle
/-
  What the condition on the package variable rows gives a walk, and a world that meets it. No statement of the seat is proved here.
-/
namespace Go.Proofs.YtjmdgmbkkkoamaaDoor
open Go.ChangeShapes Go.WideShapes Go.ChangeAt Go.RowKit

set_option maxRecDepth 8000 in
theorem gRows : Tryd.prog.globalNamed "porthole/portholeref4.rows" = some 0 := by kernel_rfl
set_option maxRecDepth 8000 in
theorem gRowsType : (Tryd.prog.globals[0]?).map (·.type) = some 74 := by kernel_rfl
set_option maxRecDepth 8000 in
theorem cellsInt : Tryd.prog.cellsOf 3 = 1 := by kernel_rfl
set_option maxRecDepth 8000 in
theorem cellsRow : Tryd.prog.cellsOf 73 = 4 := by kernel_rfl
def rowD : List (DataW Unit) := [.agg [.lit (.int .i64 0), .lit (.int .i64 4), .lit (.int .i64 8), .lit (.int .i64 12)], .agg [.lit (.int .i64 1), .lit (.int .i64 5), .lit (.int .i64 9), .lit (.int .i64 13)], .agg [.lit (.int .i64 2), .lit (.int .i64 6), .lit (.int .i64 10), .lit (.int .i64 14)], .agg [.lit (.int .i64 3), .lit (.int .i64 7), .lit (.int .i64 11), .lit (.int .i64 15)], .agg [.lit (.int .i64 0), .lit (.int .i64 5), .lit (.int .i64 10), .lit (.int .i64 15)], .agg [.lit (.int .i64 1), .lit (.int .i64 6), .lit (.int .i64 11), .lit (.int .i64 12)], .agg [.lit (.int .i64 2), .lit (.int .i64 7), .lit (.int .i64 8), .lit (.int .i64 13)], .agg [.lit (.int .i64 3), .lit (.int .i64 4), .lit (.int .i64 9), .lit (.int .i64 14)]]
set_option maxRecDepth 8000 in
theorem row_data (i r : Nat) (hi : i < 8) (hr : r < 4) : ∃ E, rowD[i]? = some (.agg E) ∧ E[r]? = some (.lit (.int .i64 (rowL[4 * i + r]?.getD 0))) := by
  match i, hi with
  | 0, _ => match r, hr with | 0, _ => exact ⟨_, rfl, rfl⟩ | 1, _ => exact ⟨_, rfl, rfl⟩ | 2, _ => exact ⟨_, rfl, rfl⟩ | 3, _ => exact ⟨_, rfl, rfl⟩
  | 1, _ => match r, hr with | 0, _ => exact ⟨_, rfl, rfl⟩ | 1, _ => exact ⟨_, rfl, rfl⟩ | 2, _ => exact ⟨_, rfl, rfl⟩ | 3, _ => exact ⟨_, rfl, rfl⟩
  | 2, _ => match r, hr with | 0, _ => exact ⟨_, rfl, rfl⟩ | 1, _ => exact ⟨_, rfl, rfl⟩ | 2, _ => exact ⟨_, rfl, rfl⟩ | 3, _ => exact ⟨_, rfl, rfl⟩
  | 3, _ => match r, hr with | 0, _ => exact ⟨_, rfl, rfl⟩ | 1, _ => exact ⟨_, rfl, rfl⟩ | 2, _ => exact ⟨_, rfl, rfl⟩ | 3, _ => exact ⟨_, rfl, rfl⟩
  | 4, _ => match r, hr with | 0, _ => exact ⟨_, rfl, rfl⟩ | 1, _ => exact ⟨_, rfl, rfl⟩ | 2, _ => exact ⟨_, rfl, rfl⟩ | 3, _ => exact ⟨_, rfl, rfl⟩
  | 5, _ => match r, hr with | 0, _ => exact ⟨_, rfl, rfl⟩ | 1, _ => exact ⟨_, rfl, rfl⟩ | 2, _ => exact ⟨_, rfl, rfl⟩ | 3, _ => exact ⟨_, rfl, rfl⟩
  | 6, _ => match r, hr with | 0, _ => exact ⟨_, rfl, rfl⟩ | 1, _ => exact ⟨_, rfl, rfl⟩ | 2, _ => exact ⟨_, rfl, rfl⟩ | 3, _ => exact ⟨_, rfl, rfl⟩
  | 7, _ => match r, hr with | 0, _ => exact ⟨_, rfl, rfl⟩ | 1, _ => exact ⟨_, rfl, rfl⟩ | 2, _ => exact ⟨_, rfl, rfl⟩ | 3, _ => exact ⟨_, rfl, rfl⟩
set_option maxRecDepth 8000 in
/-- The variable's cells hold the rows. -/
theorem gr_of_laid {W : World} (h : laidMetH Tryd.prog [("porthole/portholeref4.rows", Rows.laid_porthole_portholeref4_rows)] W) : Gr W := by
  have h' : laidMet Tryd.prog [("porthole/portholeref4.rows", Rows.laid_porthole_portholeref4_rows)] W := h
  obtain ⟨ps, ⟨g, t, cs, fuel, p, q, hg, ht, hvar, hd, _, _⟩, _⟩ := h'
  obtain rfl := Option.some.inj (gRows.symm.trans hg)
  obtain rfl := Option.some.inj (gRowsType.symm.trans ht)
  obtain ⟨xs, m, _, hx, hlen, hxl, hall⟩ := DataW.trod_array Tryd.underlying74 hd
  have hx1 : (DataW.agg rowD : DataW Unit) = .agg (xs.map (·.1)) := congrArg Prod.fst hx
  have hx2 := DataW.agg.inj hx1
  intro j v hv
  rw [Nat.zero_add, World.var?_cell gRows hvar j]
  have hj : j < 32 := (List.getElem?_eq_some_iff.1 hv).1
  obtain ⟨E, hE, hEr⟩ := row_data (j / 4) (j % 4) (by omega) (by omega)
  have hc := hall (j / 4) (by omega)
  rw [List.getElem?_eq_getElem (by omega), cellsRow] at hc
  obtain ⟨ys, m2, _, hy, _, hyl, hall2⟩ := DataW.trod_array Tryd.underlying73 hc
  have hc2 := hall2 (j % 4) (by omega)
  rw [List.getElem?_eq_getElem (by omega), cellsInt, Nat.mul_one] at hc2
  obtain ⟨n, h1, h2, _⟩ := DataW.trod_int Tryd.underlying3 hc2
  have h3 : ((((cs.toList.drop (j / 4 * 4)).take 4).drop (j % 4)).take 1)[0]? = some (.int .i64 n) := by rw [h1]; rfl
  rw [List.getElem?_take_of_lt (by decide), List.getElem?_drop, Nat.add_zero, List.getElem?_take_of_lt (by omega), List.getElem?_drop, Array.getElem?_toList, show j / 4 * 4 + j % 4 = j by omega] at h3
  have e1 : rowD[j / 4]? = some (xs[j / 4]'(by omega)).1 := by rw [hx2, List.getElem?_map, List.getElem?_eq_getElem (by omega)]; rfl
  rw [hE, hy] at e1
  have e2 := DataW.agg.inj (Option.some.inj e1)
  rw [e2, List.getElem?_map, List.getElem?_eq_getElem (by omega), h2, show 4 * (j / 4) + j % 4 = j by omega] at hEr
  simp only [Option.map_some, Option.some.injEq] at hEr
  injection hEr with h5
  injection h5 with _ h6
  rw [List.getElem?_map] at hv
  rw [h3]
  cases e : rowL[j]? with
  | none => rw [e] at hv; cases hv
  | some y =>
    rw [e] at hv h6
    simp only [Option.map_some, Option.some.injEq, Option.getD_some] at hv h6
    rw [← hv, h6]

/-- The variable's block, as the text lays it; a world with it meets the condition. -/
def laidObj : Obj → Obj
  | .cells _ t frozen => .cells (rowL.map (Value.int .i64)).toArray t frozen
  | o => o
set_option maxRecDepth 8000 in
theorem laidWorld_met (os : Os) (args : Array Value) : laidMetH Tryd.prog [("porthole/portholeref4.rows", Rows.laid_porthole_portholeref4_rows)] (({ World.holding Tryd.prog os ⟨#[], #[], []⟩ with heap := (World.holding Tryd.prog os ⟨#[], #[], []⟩).heap.modify 0 laidObj } : World).forCall (fun _ _ => 0) ⟨#[], args, []⟩).memory :=
  laidMetH_of_parts (laidMet_of_run' 8 (by kernel_rfl) (by kernel_rfl)) (by kernel_rfl)
end Go.Proofs.YtjmdgmbkkkoamaaDoor
/-
  Copies into a part of an array; a part of it as a slice. No statement of the seat is proved here.
-/
namespace Go.Proofs.YtjmdgmbkkkoamaaDoor
open Go.RowKit

set_option maxRecDepth 8000 in
/-- 'copy' of bytes into a part of an array. -/
theorem copy_c (u : World) (b o dl dc : Nat) (x : Addr) (sl sc : Nat) (l : List Int) (hr : Rd u (some x) sl sc l) (n : Nat) (hn : n = min sl dl) (ht : u.there b o n) (ty : TypeId) :
    Sem.run Tryd.prog (Builtin.copy_ #[31, 31] ty #[.slice (some ⟨b, o, none⟩) dl dc, .slice (some x) sl sc]) u = .ok (goInt n) (u.setCells b o ((l.take n).map (Value.int .u8))) := by
  have hl : ((l.take n).map (Value.int .u8)).length = n := by rw [List.length_map, List.length_take, hr.hlen]; omega
  have := run_copy_cells (P := Tryd.prog) u 31 31 ty 5 b o dl dc x sl sc ((l.take n).map (Value.int .u8)) Tryd.underlying31 (by kernel_rfl) (by rw [hl]; exact hn)
    (hr.news n) (fun j hj => (ht j (by rw [hl] at hj; exact hj)).1) (fun j hj => (ht j (by rw [hl] at hj; exact hj)).2) (bytes_oneCell _)
  rw [hl] at this
  exact this
set_option maxRecDepth 8000 in
/-- A part of an array is written anew. -/
theorem Ar.part {u : World} {b n : Nat} {ds : List Value} (h : Ar u b n ds) (o : Nat) (vs : List Value) (hv : o + vs.length ≤ n) : Ar (u.setCells b o vs) b n (ds.take o ++ (vs ++ ds.drop (o + vs.length))) := by
  have hl := h.len
  refine ⟨?_, World.there_setCells h.all _ _ _, by simp; omega⟩
  have h1 : (ds.take o).length = o := by rw [List.length_take]; omega
  refine range_app ?_ ?_
  · have := World.rangeAt_setCells_apart (range_sub h.rng 0 o) b o vs (.inr (.inl (by simp; omega)))
    simpa using this
  · rw [h1, Nat.zero_add]
    refine range_app (World.rangeAt_setCells_same _ _ _ _ (there_part h.all o _ hv)) ?_
    have := World.rangeAt_setCells_apart (range_sub h.rng (o + vs.length) (n - (o + vs.length))) b o vs (.inr (.inr (by simp)))
    rw [List.take_of_length_le (by simp; omega), Nat.zero_add] at this
    exact this
set_option maxRecDepth 8000 in
theorem Ar.rdFrom {u : World} {b n : Nat} {l : List Int} (h : Ar u b n (l.map (Value.int .u8))) (hb : Byt l) (off : Nat) (ho : off ≤ n) : Rd u (some ⟨b, off, none⟩) (n - off) (n - off) (l.drop off) := by
  have := h.rd hb off (n - off) (n - off) (by omega) (Nat.le_refl _)
  have hl := h.len
  rw [List.length_map] at hl
  rwa [List.take_of_length_le (by rw [List.length_drop]; omega)] at this
set_option maxRecDepth 8000 in
theorem Rd.rest {u : World} {b off r c : Nat} {l : List Int} (h : Rd u (some ⟨b, off, none⟩) r c l) (m : Nat) (hm : m ≤ r) : Rd u (if c = m then some ⟨b, off, none⟩ else some ⟨b, off + m, none⟩) (r - m) (c - m) (l.drop m) := by
  have hle := h.hle
  by_cases e : c = m
  · rw [if_pos e]
    have hr : r - m = 0 := by omega
    rw [hr, List.drop_eq_nil_of_le (by rw [h.hlen]; omega)]
    exact Rd.nil _ _ _ (fun h => by cases h)
  · rw [if_neg e]
    exact h.from m hm _ _ rfl (by omega)
end Go.Proofs.YtjmdgmbkkkoamaaDoor
/-
  A cipher's State in memory: its key, whether it has one, the nonce of the next box. No statement of the seat is proved here.
-/
namespace Go.Proofs.YtjmdgmbkkkoamaaDoor
open Go.RowKit

/-- A State's cells. -/
def sc9 (k : List Int) (h : Bool) (n : Int) : List Value := List.map (Value.int .u8) k ++ [.bool h, .int .u64 n]
set_option maxRecDepth 8000 in
theorem sc9_len {k : List Int} {h : Bool} {n : Int} (hk : k.length = 32) : (sc9 k h n).length = 34 := by
  unfold sc9
  simp [hk]
set_option maxRecDepth 8000 in
theorem sc9_take {k : List Int} {h : Bool} {n : Int} (hk : k.length = 32) : ((sc9 k h n).drop 0).take 32 = List.map (Value.int .u8) k := by
  unfold sc9
  rw [List.drop_zero, List.take_append_of_le_length (by rw [List.length_map]; omega), List.take_of_length_le (by rw [List.length_map]; omega)]
set_option maxRecDepth 8000 in
theorem sc9_key {k k' : List Int} {h : Bool} {n : Int} (hk : k.length = 32) (hk' : k'.length = 32) : (sc9 k h n).take 0 ++ (List.map (Value.int .u8) k' ++ (sc9 k h n).drop (0 + (List.map (Value.int .u8) k').length)) = sc9 k' h n := by
  unfold sc9
  rw [List.take_zero, List.nil_append, List.length_map, hk', Nat.zero_add, List.drop_append, List.drop_eq_nil_of_le (by rw [List.length_map]; omega), List.nil_append, List.length_map, hk]
  rfl
set_option maxRecDepth 8000 in
theorem sc9_has {k : List Int} {h : Bool} {n : Int} (hk : k.length = 32) (h' : Bool) : (sc9 k h n).set 32 (.bool h') = sc9 k h' n := by
  unfold sc9
  rw [List.set_append_right _ _ (by rw [List.length_map]; omega), List.length_map, hk]
  rfl
set_option maxRecDepth 8000 in
theorem sc9_nonce {k : List Int} {h : Bool} {n : Int} (hk : k.length = 32) (n' : Int) : (sc9 k h n).set 33 (.int .u64 n') = sc9 k h n' := by
  unfold sc9
  rw [List.set_append_right _ _ (by rw [List.length_map]; omega), List.length_map, hk]
  rfl
/-- The State in block b has the key k (h: whether it has one), and n is the nonce of the next box. -/
structure Sx (u : World) (b : Nat) (k : List Int) (h : Bool) (n : Int) : Prop where
  ar : Ar u b 34 (sc9 k h n)
  bk : Bn 32 k
  wn : 0 ≤ n ∧ n < 18446744073709551616
section
variable {u u' : World} {b : Nat} {k : List Int} {h : Bool} {n : Int}
set_option maxRecDepth 8000 in
theorem Sx.later (s : Sx u b k h n) (hb : Below u.heap.size u u') : Sx u' b k h n := ⟨s.ar.later hb, s.bk, s.wn⟩
set_option maxRecDepth 8000 in
theorem Sx.extb {bo : Nat} (s : Sx u b k h n) (hb : ExtB bo u u') (hne : b ≠ bo) : Sx u' b k h n := ⟨s.ar.extb hb hne, s.bk, s.wn⟩
set_option maxRecDepth 8000 in
theorem Sx.drew (s : Sx u b k h n) : Sx u.drew b k h n := ⟨s.ar.drew, s.bk, s.wn⟩
set_option maxRecDepth 8000 in
theorem Sx.else (s : Sx u b k h n) (c i : Nat) (hc : b ≠ c) (v : Value) : Sx (u.setCell ⟨c, i, none⟩ v) b k h n := ⟨s.ar.else c i hc v, s.bk, s.wn⟩
set_option maxRecDepth 8000 in
theorem Sx.else_cells (s : Sx u b k h n) (c o : Nat) (hc : b ≠ c) (vs : List Value) : Sx (u.setCells c o vs) b k h n := ⟨Ar.else_cells hc vs o s.ar, s.bk, s.wn⟩
set_option maxRecDepth 8000 in
theorem Sx.lt (s : Sx u b k h n) : b < u.heap.size := s.ar.lt (by decide)
set_option maxRecDepth 8000 in
theorem Sx.key (s : Sx u b k h n) : u.rangeAt b 0 (List.map (Value.int .u8) k) := by
  have := range_sub s.ar.rng 0 32
  rwa [sc9_take s.bk.len] at this
set_option maxRecDepth 8000 in
theorem Sx.keyThere (s : Sx u b k h n) : u.there b 0 32 := there_part s.ar.all 0 32 (by decide)
set_option maxRecDepth 8000 in
theorem Sx.has (s : Sx u b k h n) : u.cell? ⟨b, 32, none⟩ = some (.bool h) ∧ u.frozen? ⟨b, 32, none⟩ = false := by
  obtain ⟨h1, h2⟩ := s.ar.cell 32 (by decide)
  refine ⟨?_, h2⟩
  have e : (sc9 k h n)[32]? = some (.bool h) := by
    unfold sc9
    rw [List.getElem?_append_right (by rw [List.length_map, s.bk.len]; exact Nat.le_refl _), List.length_map, s.bk.len]
    rfl
  rw [h1, ← e, List.getElem?_eq_getElem]
set_option maxRecDepth 8000 in
theorem Sx.nonce (s : Sx u b k h n) : u.cell? ⟨b, 33, none⟩ = some (.int .u64 n) ∧ u.frozen? ⟨b, 33, none⟩ = false := by
  obtain ⟨h1, h2⟩ := s.ar.cell 33 (by decide)
  refine ⟨?_, h2⟩
  have e : (sc9 k h n)[33]? = some (.int .u64 n) := by
    unfold sc9
    rw [List.getElem?_append_right (by rw [List.length_map, s.bk.len]; decide), List.length_map, s.bk.len]
    rfl
  rw [h1, ← e, List.getElem?_eq_getElem]
set_option maxRecDepth 8000 in
theorem Sx.setN (s : Sx u b k h n) {n' : Int} (hn : 0 ≤ n' ∧ n' < 18446744073709551616) : Sx (u.setCell ⟨b, 33, none⟩ (.int .u64 n')) b k h n' :=
  ⟨by rw [← sc9_nonce s.bk.len n']; exact s.ar.set 33 (by decide) _, s.bk, hn⟩
set_option maxRecDepth 8000 in
theorem Sx.setHas (s : Sx u b k h n) (h' : Bool) : Sx (u.setCell ⟨b, 32, none⟩ (.bool h')) b k h' n :=
  ⟨by rw [← sc9_has s.bk.len h']; exact s.ar.set 32 (by decide) _, s.bk, s.wn⟩
set_option maxRecDepth 8000 in
theorem Sx.setKey (s : Sx u b k h n) {k' : List Int} (hk : Bn 32 k') : Sx (u.setCells b 0 (List.map (Value.int .u8) k')) b k' h n :=
  ⟨by rw [← sc9_key s.bk.len hk.len (k := k)]; exact s.ar.part 0 _ (by rw [hk.map_len]; decide), hk, s.wn⟩
set_option maxRecDepth 8000 in
theorem Sx.setAll (s : Sx u b k h n) {k' : List Int} (hk : Bn 32 k') (h' : Bool) {n' : Int} (hn : 0 ≤ n' ∧ n' < 18446744073709551616) : Sx (u.setCells b 0 (sc9 k' h' n')) b k' h' n' :=
  ⟨Ar.all_set s.ar.all (sc9_len hk.len), hk, hn⟩
end
set_option maxRecDepth 8000 in
theorem sx_new (u : World) (k : List Int) (h : Bool) (n : Int) (hk : Bn 32 k) (hn : 0 ≤ n ∧ n < 18446744073709551616) (t : TypeId) : Sx (u.alloc (.cells (sc9 k h n).toArray t)) u.heap.size k h n := ⟨ar_box u _ 34 (sc9_len hk.len) t, hk, hn⟩
def z9l : List Int := List.replicate 32 0
set_option maxRecDepth 8000 in
theorem z9l_bn : Bn 32 z9l := ⟨List.length_replicate, fun x hx => by rw [(List.mem_replicate.1 hx).2]; decide⟩
set_option maxRecDepth 8000 in
theorem sc9_oneCell (k : List Int) (h : Bool) (n : Int) : ∀ v ∈ sc9 k h n, v.oneCell' = true := fun v hv => by
  unfold sc9 at hv
  rcases List.mem_append.1 hv with hv | hv
  · exact bytes_oneCell k v hv
  · simp at hv
    rcases hv with rfl | rfl <;> rfl
set_option maxRecDepth 8000 in
/-- A store where no byte stands turns no bytes. -/
theorem Rd.not_here {u : World} {a : Option Addr} {len cap : Nat} {l : List Int} (h : Rd u a len cap l) {b o : Nat} {x : Value} (hc : u.cell? ⟨b, o, none⟩ = some x) (hx : ∀ n, x ≠ .int .u8 n) (v : Value) : Rd (u.setCell ⟨b, o, none⟩ v) a len cap l :=
  ⟨h.hlen, h.hle, h.hnil, h.byt, fun h0 => by
    obtain ⟨bx, ox, rfl, hcell⟩ := h.cell h0
    refine ⟨bx, ox, rfl, fun i hi => ?_⟩
    have hy := hcell i hi
    rw [World.cell?_setCell_other _ _ _ _ (fun e => by
      rw [← e, hc] at hy
      exact hx _ (Option.some.inj hy))]
    exact hy⟩
/-- All bytes that could be read can be read as before. -/
def Kp (w w' : World) : Prop := ∀ (a : Option Addr) (len cap : Nat) (l : List Int), Rd w a len cap l → Rd w' a len cap l
set_option maxRecDepth 8000 in
theorem Kp.refl (w : World) : Kp w w := fun _ _ _ _ h => h
set_option maxRecDepth 8000 in
theorem Kp.below {w w' : World} (h : Below w.heap.size w w') : Kp w w' := fun _ _ _ _ hr => hr.below h
set_option maxRecDepth 8000 in
theorem sc9_cells {k : List Int} (h : Bool) (n : Int) (hk : Bn 32 k) : (sc9 k h n).length = 34 ∧ (∀ v ∈ sc9 k h n, v.oneCell' = true) ∧ (Tryd.prog.info? 46).map (·.size) = some (sc9 k h n).length :=
  ⟨sc9_len hk.len, sc9_oneCell k h n, by rw [sc9_len hk.len]; kernel_rfl⟩
end Go.Proofs.YtjmdgmbkkkoamaaDoor
