/-
  Several texts of one's own, laid together. No statement of the seat is proved here.
-/
import Derived.Test.YtmibjgkakolhiaaGreatDoorPk3
import Derived.Test.YtmibjgkakolhiaaGreatDoorPk6
/-
 Copies into a part of an array; a part of it as a slice. No statement of the seat is proved here.
-/
namespace Go.Proofs.YtmibjgkakolhiaaGreatDoor
open Go.RowKit

set_option maxRecDepth 8000 in
/-- 'copy' of bytes into a part of an array. -/
theorem copy_c (u : World) (b o dl dc : Nat) (x : Addr) (sl sc : Nat) (l : List Int) (hr : Rd u (some x) sl sc l) (n : Nat) (hn : n = min sl dl) (ht : u.there b o n) (ty : TypeId) :
  Sem.run Tryz.prog (Builtin.copy_ #[28, 28] ty #[.slice (some ⟨b, o, none⟩) dl dc, .slice (some x) sl sc]) u = .ok (goInt n) (u.setCells b o ((l.take n).map (Value.int .u8))) := by
 have hl : ((l.take n).map (Value.int .u8)).length = n := by rw [List.length_map, List.length_take, hr.hlen]; omega
 have := run_copy_cells (P := Tryz.prog) u 28 28 ty 5 b o dl dc x sl sc ((l.take n).map (Value.int .u8)) Tryz.underlying28 (by kernel_rfl) (by rw [hl]; exact hn)
  (hr.news n) (fun j hj => (ht j (by rw [hl] at hj; exact hj)).1) (fun j hj => (ht j (by rw [hl] at hj; exact hj)).2) (bytes_oneCell _)
 rw [hl] at this
 exact this
set_option maxRecDepth 8000 in
/-- A part of an array is written anew. -/
theorem Ar.part {u : World} {b n : Nat} {ds : List Value} (h : Ar u b n ds) (o : Nat) (vs : List Value) (hv : o + vs.length ≤ n) : Ar (u.setCells b o vs) b n (ds.take o ++ (vs ++ ds.drop (o + vs.length))) := by
 have hl := h.len
 refine ⟨?_, World.there_setCells h.all _ _ _, by simp; omega⟩
 have h1 : (ds.take o).length = o := by rw [List.length_take]; omega
 refine range_app ?_ ?_
 ·have := World.rangeAt_setCells_apart (range_sub h.rng 0 o) b o vs (.inr (.inl (by simp; omega)))
  simpa using this
 ·rw [h1, Nat.zero_add]
  refine range_app (World.rangeAt_setCells_same _ _ _ _ (there_part h.all o _ hv)) ?_
  have := World.rangeAt_setCells_apart (range_sub h.rng (o + vs.length) (n - (o + vs.length))) b o vs (.inr (.inr (by simp)))
  rw [List.take_of_length_le (by simp; omega), Nat.zero_add] at this
  exact this
set_option maxRecDepth 8000 in
theorem Ar.rdFrom {u : World} {b n : Nat} {l : List Int} (h : Ar u b n (l.map (Value.int .u8))) (hb : Byt l) (off : Nat) (ho : off ≤ n) : Rd u (some ⟨b, off, none⟩) (n - off) (n - off) (l.drop off) := by
 have := h.rd hb off (n - off) (n - off) (by omega) (Nat.le_refl _)
 have hl := h.len
 rw [List.length_map] at hl
 rwa [List.take_of_length_le (by rw [List.length_drop]; omega)] at this
set_option maxRecDepth 8000 in
theorem Rd.rest {u : World} {b off r c : Nat} {l : List Int} (h : Rd u (some ⟨b, off, none⟩) r c l) (m : Nat) (hm : m ≤ r) : Rd u (if c = m then some ⟨b, off, none⟩ else some ⟨b, off + m, none⟩) (r - m) (c - m) (l.drop m) := by
 have hle := h.hle
 by_cases e : c = m
 ·rw [if_pos e]
  have hr : r - m = 0 := by omega
  rw [hr, List.drop_eq_nil_of_le (by rw [h.hlen]; omega)]
  exact Rd.nil _ _ _ (fun h => by cases h)
 ·rw [if_neg e]
  exact h.from m hm _ _ rfl (by omega)
end Go.Proofs.YtmibjgkakolhiaaGreatDoor
/-
  A Hash in memory: its state, how much it took, the block that waits, how much of it is held. No statement of the seat is proved here.
-/
namespace Go.Proofs.YtmibjgkakolhiaaGreatDoor
open Go.RowKit

/-- A Hash's cells. -/
def hc7 (st : List Int) (t : Int) (bl : List Int) (k : Nat) : List Value := List.map (Value.int .u32) st ++ (.int .u64 t :: (List.map (Value.int .u8) bl ++ [.int .i64 k]))
set_option maxRecDepth 8000 in
theorem hc7_len {st : List Int} {t : Int} {bl : List Int} {k : Nat} (h1 : st.length = 8) (h2 : bl.length = 64) : (hc7 st t bl k).length = 74 := by
  unfold hc7
  simp [h1, h2]
set_option maxRecDepth 8000 in
theorem hc7_st {st : List Int} {t : Int} {bl : List Int} {k : Nat} (h1 : st.length = 8) (i : Nat) (hi : i < 8) (x : Int) : (hc7 st t bl k).set i (.int .u32 x) = hc7 (st.set i x) t bl k := by
  unfold hc7
  rw [List.set_append_left _ _ (by rw [List.length_map]; omega), List.map_set]
set_option maxRecDepth 8000 in
theorem hc7_t {st : List Int} {t : Int} {bl : List Int} {k : Nat} (h1 : st.length = 8) (t' : Int) : (hc7 st t bl k).set 8 (.int .u64 t') = hc7 st t' bl k := by
  unfold hc7
  rw [List.set_append_right _ _ (by rw [List.length_map]; omega), List.length_map, h1]
  rfl
set_option maxRecDepth 8000 in
theorem hc7_k {st : List Int} {t : Int} {bl : List Int} {k : Nat} (h1 : st.length = 8) (h2 : bl.length = 64) (k' : Nat) : (hc7 st t bl k).set 73 (.int .i64 k') = hc7 st t bl k' := by
  unfold hc7
  rw [List.set_append_right _ _ (by rw [List.length_map]; omega), List.length_map, h1, show 73 - 8 = 64 + 1 from rfl, List.set_cons_succ, List.set_append_right _ _ (by rw [List.length_map]; omega), List.length_map, h2]
  rfl
set_option maxRecDepth 8000 in
theorem hc7_take8 {st : List Int} {t : Int} {bl : List Int} {k : Nat} (h1 : st.length = 8) : (hc7 st t bl k).take 8 = List.map (Value.int .u32) st := by
  unfold hc7
  rw [List.take_append_of_le_length (by rw [List.length_map]; omega), List.take_of_length_le (by rw [List.length_map]; omega)]
set_option maxRecDepth 8000 in
theorem hc7_drop9 {st : List Int} {t : Int} {bl : List Int} {k : Nat} (h1 : st.length = 8) : (hc7 st t bl k).drop 9 = List.map (Value.int .u8) bl ++ [.int .i64 k] := by
  unfold hc7
  rw [List.drop_append, List.drop_eq_nil_of_le (by rw [List.length_map]; omega), List.nil_append, List.length_map, h1]
  rfl
set_option maxRecDepth 8000 in
theorem hc7_blk {st : List Int} {t : Int} {bl : List Int} {k : Nat} (h1 : st.length = 8) (h2 : bl.length = 64) : ((hc7 st t bl k).drop 9).take 64 = List.map (Value.int .u8) bl := by
  rw [hc7_drop9 h1, List.take_append_of_le_length (by rw [List.length_map]; omega), List.take_of_length_le (by rw [List.length_map]; omega)]
set_option maxRecDepth 8000 in
/-- What a part of the block turns. -/
theorem hc7_part {st : List Int} {t : Int} {bl : List Int} {k : Nat} (h1 : st.length = 8) (h2 : bl.length = 64) (o : Nat) (l : List Int) (ho : o + l.length ≤ 64) :
    (hc7 st t bl k).take (9 + o) ++ (List.map (Value.int .u8) l ++ (hc7 st t bl k).drop (9 + o + (List.map (Value.int .u8) l).length)) = hc7 st t (bl.take o ++ (l ++ bl.drop (o + l.length))) k := by
  have e1 : (hc7 st t bl k).take (9 + o) = List.map (Value.int .u32) st ++ (.int .u64 t :: List.map (Value.int .u8) (bl.take o)) := by
    unfold hc7
    rw [List.take_append, List.take_of_length_le (by rw [List.length_map]; omega), List.length_map, h1, show 9 + o - 8 = o + 1 by omega, List.take_succ_cons, List.take_append_of_le_length (by rw [List.length_map]; omega), List.map_take]
  have e2 : (hc7 st t bl k).drop (9 + o + (List.map (Value.int .u8) l).length) = List.map (Value.int .u8) (bl.drop (o + l.length)) ++ [.int .i64 k] := by
    rw [List.length_map, Nat.add_assoc, ← List.drop_drop, hc7_drop9 h1, List.drop_append_of_le_length (by rw [List.length_map]; omega), List.map_drop]
  rw [e1, e2]
  unfold hc7
  simp only [List.map_append, List.append_assoc, List.cons_append]
structure Hs (u : World) (b : Nat) (st : List Int) (t : Int) (bl : List Int) (k : Nat) : Prop where
  ar : Ar u b 74 (hc7 st t bl k)
  wst : Wn 8 st
  wt : 0 ≤ t ∧ t < 18446744073709551616
  wbl : Bn 64 bl
  wk : k ≤ 64
section
variable {u u' : World} {b : Nat} {st : List Int} {t : Int} {bl : List Int} {k : Nat}
set_option maxRecDepth 8000 in
theorem Hs.later (h : Hs u b st t bl k) (hb : Below u.heap.size u u') : Hs u' b st t bl k := ⟨h.ar.later hb, h.wst, h.wt, h.wbl, h.wk⟩
set_option maxRecDepth 8000 in
theorem Hs.extb {bo : Nat} (h : Hs u b st t bl k) (hb : ExtB bo u u') (hne : b ≠ bo) : Hs u' b st t bl k := ⟨h.ar.extb hb hne, h.wst, h.wt, h.wbl, h.wk⟩
set_option maxRecDepth 8000 in
theorem Hs.drew (h : Hs u b st t bl k) : Hs u.drew b st t bl k := ⟨h.ar.drew, h.wst, h.wt, h.wbl, h.wk⟩
set_option maxRecDepth 8000 in
theorem Hs.else (h : Hs u b st t bl k) (c i : Nat) (hc : b ≠ c) (v : Value) : Hs (u.setCell ⟨c, i, none⟩ v) b st t bl k := ⟨h.ar.else c i hc v, h.wst, h.wt, h.wbl, h.wk⟩
set_option maxRecDepth 8000 in
theorem Hs.else_cells (h : Hs u b st t bl k) (c o : Nat) (hc : b ≠ c) (vs : List Value) : Hs (u.setCells c o vs) b st t bl k := ⟨Ar.else_cells hc vs o h.ar, h.wst, h.wt, h.wbl, h.wk⟩
set_option maxRecDepth 8000 in
theorem Hs.lt (h : Hs u b st t bl k) : b < u.heap.size := h.ar.lt (by decide)
set_option maxRecDepth 8000 in
theorem Hs.state (h : Hs u b st t bl k) : u.rangeAt b 0 (List.map (Value.int .u32) st) := by
  have := range_sub h.ar.rng 0 8
  rwa [List.drop_zero, hc7_take8 h.wst.len] at this
set_option maxRecDepth 8000 in
theorem Hs.stateAr (h : Hs u b st t bl k) : Ar u b 8 (List.map (Value.int .u32) st) := ⟨h.state, there_part h.ar.all 0 8 (by decide), h.wst.map_len⟩
set_option maxRecDepth 8000 in
theorem Hs.block (h : Hs u b st t bl k) : u.rangeAt b 9 (List.map (Value.int .u8) bl) := by
  have := range_sub h.ar.rng 9 64
  rwa [hc7_blk h.wst.len h.wbl.len] at this
set_option maxRecDepth 8000 in
theorem Hs.blockThere (h : Hs u b st t bl k) : u.there b 9 64 := there_part h.ar.all 9 64 (by decide)
set_option maxRecDepth 8000 in
theorem Hs.word (h : Hs u b st t bl k) (i : Nat) (hi : i < 8) : ∃ x, u.cell? ⟨b, i, none⟩ = some (.int .u32 x) ∧ u.frozen? ⟨b, i, none⟩ = false ∧ W7 x ∧ Hid (x = st[i]!) := wn_word h.stateAr h.wst i hi
set_option maxRecDepth 8000 in
theorem Hs.taken (h : Hs u b st t bl k) : u.cell? ⟨b, 8, none⟩ = some (.int .u64 t) ∧ u.frozen? ⟨b, 8, none⟩ = false := by
  obtain ⟨h1, h2⟩ := h.ar.cell 8 (by decide)
  refine ⟨?_, h2⟩
  have e : (hc7 st t bl k)[8]? = some (.int .u64 t) := by
    unfold hc7
    rw [List.getElem?_append_right (by rw [List.length_map, h.wst.len]; exact Nat.le_refl _), List.length_map, h.wst.len]
    rfl
  rw [h1, ← e, List.getElem?_eq_getElem]
set_option maxRecDepth 8000 in
theorem Hs.held (h : Hs u b st t bl k) : u.cell? ⟨b, 73, none⟩ = some (.int .i64 k) ∧ u.frozen? ⟨b, 73, none⟩ = false := by
  obtain ⟨h1, h2⟩ := h.ar.cell 73 (by decide)
  refine ⟨?_, h2⟩
  have e : (hc7 st t bl k)[73]? = some (.int .i64 k) := by
    unfold hc7
    rw [List.getElem?_append_right (by rw [List.length_map, h.wst.len]; decide), List.length_map, h.wst.len, show 73 - 8 = 64 + 1 from rfl, List.getElem?_cons_succ, List.getElem?_append_right (by rw [List.length_map, h.wbl.len]; exact Nat.le_refl _), List.length_map, h.wbl.len]
    rfl
  rw [h1, ← e, List.getElem?_eq_getElem]
set_option maxRecDepth 8000 in
theorem Hs.setSt (h : Hs u b st t bl k) (i : Nat) (hi : i < 8) {x : Int} (hx : W7 x) : Hs (u.setCell ⟨b, i, none⟩ (.int .u32 x)) b (st.set i x) t bl k :=
  ⟨by rw [← hc7_st h.wst.len i hi]; exact h.ar.set i (by omega) _, h.wst.set i hx, h.wt, h.wbl, h.wk⟩
set_option maxRecDepth 8000 in
theorem Hs.setT (h : Hs u b st t bl k) {t' : Int} (ht : 0 ≤ t' ∧ t' < 18446744073709551616) : Hs (u.setCell ⟨b, 8, none⟩ (.int .u64 t')) b st t' bl k :=
  ⟨by rw [← hc7_t h.wst.len t']; exact h.ar.set 8 (by decide) _, h.wst, ht, h.wbl, h.wk⟩
set_option maxRecDepth 8000 in
theorem Hs.setK (h : Hs u b st t bl k) {k' : Nat} (hk : k' ≤ 64) : Hs (u.setCell ⟨b, 73, none⟩ (.int .i64 k')) b st t bl k' :=
  ⟨by rw [← hc7_k h.wst.len h.wbl.len k']; exact h.ar.set 73 (by decide) _, h.wst, h.wt, h.wbl, hk⟩
set_option maxRecDepth 8000 in
theorem Hs.part (h : Hs u b st t bl k) (o : Nat) (l : List Int) (ho : o + l.length ≤ 64) (hl : Byt l) : Hs (u.setCells b (9 + o) (List.map (Value.int .u8) l)) b st t (bl.take o ++ (l ++ bl.drop (o + l.length))) k :=
  ⟨by rw [← hc7_part h.wst.len h.wbl.len o l ho]; exact h.ar.part (9 + o) _ (by rw [List.length_map]; omega), h.wst, h.wt,
   ⟨by simp [h.wbl.len]; omega, (h.wbl.byt.take o).app (hl.app (h.wbl.byt.drop _))⟩, h.wk⟩
set_option maxRecDepth 8000 in
theorem Hs.setBl (h : Hs u b st t bl k) (l : List Int) (hl : Bn 64 l) : Hs (u.setCells b 9 (List.map (Value.int .u8) l)) b st t l k := by
  have := h.part 0 l (by rw [hl.len]; decide) hl.byt
  rwa [List.take_zero, List.nil_append, hl.len, List.drop_eq_nil_of_le (by rw [h.wbl.len]; decide), List.append_nil] at this
end
set_option maxRecDepth 8000 in
theorem bn64_cells7 {l : List Int} (h : Bn 64 l) : (List.map (Value.int .u8) l).length = 64 ∧ (∀ v ∈ (List.map (Value.int .u8) l), v.oneCell' = true) ∧ (Tryz.prog.info? 90).map (·.size) = some (List.map (Value.int .u8) l).length :=
  ⟨h.map_len, bytes_oneCell _, by rw [h.map_len]; kernel_rfl⟩
set_option maxRecDepth 8000 in
theorem so_cells {s : List Nat} (h : So s) : (List.map nb8 s).length = 16 ∧ (∀ v ∈ (List.map nb8 s), v.oneCell' = true) ∧ (Tryz.prog.info? 99).map (·.size) = some (List.map nb8 s).length := by
  have e : (List.map nb8 s).length = 16 := by rw [List.length_map, h.len]
  exact ⟨e, fun v hv => by obtain ⟨n, _, rfl⟩ := List.mem_map.1 hv; rfl, by rw [e]; kernel_rfl⟩
def sgL : List Value := List.map nb8 sg7.flatten
set_option maxRecDepth 8000 in
theorem sg_cells : sgL.length = 160 ∧ (Tryz.prog.info? 105).map (·.size) = some sgL.length := by
  have e : sgL.length = 160 := rfl
  exact ⟨e, by rw [e]; kernel_rfl⟩
set_option maxRecDepth 8000 in
theorem sg_row0 (w : World) : Sem.run Tryz.prog (Instr.index 105 (.agg sgL.toArray) (.int .i64 ((0 : Nat) : Int))) w = .ok (.agg (List.map nb8 sg7[0]!).toArray) w := by kernel_rfl
set_option maxRecDepth 8000 in
theorem sg_row1 (w : World) : Sem.run Tryz.prog (Instr.index 105 (.agg sgL.toArray) (.int .i64 ((1 : Nat) : Int))) w = .ok (.agg (List.map nb8 sg7[1]!).toArray) w := by kernel_rfl
set_option maxRecDepth 8000 in
theorem sg_row2 (w : World) : Sem.run Tryz.prog (Instr.index 105 (.agg sgL.toArray) (.int .i64 ((2 : Nat) : Int))) w = .ok (.agg (List.map nb8 sg7[2]!).toArray) w := by kernel_rfl
set_option maxRecDepth 8000 in
theorem sg_row3 (w : World) : Sem.run Tryz.prog (Instr.index 105 (.agg sgL.toArray) (.int .i64 ((3 : Nat) : Int))) w = .ok (.agg (List.map nb8 sg7[3]!).toArray) w := by kernel_rfl
set_option maxRecDepth 8000 in
theorem sg_row4 (w : World) : Sem.run Tryz.prog (Instr.index 105 (.agg sgL.toArray) (.int .i64 ((4 : Nat) : Int))) w = .ok (.agg (List.map nb8 sg7[4]!).toArray) w := by kernel_rfl
set_option maxRecDepth 8000 in
theorem sg_row5 (w : World) : Sem.run Tryz.prog (Instr.index 105 (.agg sgL.toArray) (.int .i64 ((5 : Nat) : Int))) w = .ok (.agg (List.map nb8 sg7[5]!).toArray) w := by kernel_rfl
set_option maxRecDepth 8000 in
theorem sg_row6 (w : World) : Sem.run Tryz.prog (Instr.index 105 (.agg sgL.toArray) (.int .i64 ((6 : Nat) : Int))) w = .ok (.agg (List.map nb8 sg7[6]!).toArray) w := by kernel_rfl
set_option maxRecDepth 8000 in
theorem sg_row7 (w : World) : Sem.run Tryz.prog (Instr.index 105 (.agg sgL.toArray) (.int .i64 ((7 : Nat) : Int))) w = .ok (.agg (List.map nb8 sg7[7]!).toArray) w := by kernel_rfl
set_option maxRecDepth 8000 in
theorem sg_row8 (w : World) : Sem.run Tryz.prog (Instr.index 105 (.agg sgL.toArray) (.int .i64 ((8 : Nat) : Int))) w = .ok (.agg (List.map nb8 sg7[8]!).toArray) w := by kernel_rfl
set_option maxRecDepth 8000 in
theorem sg_row9 (w : World) : Sem.run Tryz.prog (Instr.index 105 (.agg sgL.toArray) (.int .i64 ((9 : Nat) : Int))) w = .ok (.agg (List.map nb8 sg7[9]!).toArray) w := by kernel_rfl
set_option maxRecDepth 8000 in
theorem sg_row (k : Nat) (hk : k < 10) (w : World) : Sem.run Tryz.prog (Instr.index 105 (.agg sgL.toArray) (.int .i64 (k : Int))) w = .ok (.agg (List.map nb8 sg7[k]!).toArray) w := by
  match k, hk with
  | 0, _ => exact sg_row0 w
  | 1, _ => exact sg_row1 w
  | 2, _ => exact sg_row2 w
  | 3, _ => exact sg_row3 w
  | 4, _ => exact sg_row4 w
  | 5, _ => exact sg_row5 w
  | 6, _ => exact sg_row6 w
  | 7, _ => exact sg_row7 w
  | 8, _ => exact sg_row8 w
  | 9, _ => exact sg_row9 w
end Go.Proofs.YtmibjgkakolhiaaGreatDoor
