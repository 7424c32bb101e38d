/-
  Copies into a part of an array; a part of it as a slice. No statement of the seat is proved here.
-/
import Derived.Test.YtmibjgkakolhiaaDoorKGen
namespace Go.Proofs.YtmibjgkakolhiaaDoor
open Go.RowKit

set_option maxRecDepth 8000 in
/-- 'copy' of bytes into a part of an array. -/
theorem copy_c (u : World) (b o dl dc : Nat) (x : Addr) (sl sc : Nat) (l : List Int) (hr : Rd u (some x) sl sc l) (n : Nat) (hn : n = min sl dl) (ht : u.there b o n) (ty : TypeId) :
    Sem.run Tryd.prog (Builtin.copy_ #[35, 35] ty #[.slice (some ⟨b, o, none⟩) dl dc, .slice (some x) sl sc]) u = .ok (goInt n) (u.setCells b o ((l.take n).map (Value.int .u8))) := by
  have hl : ((l.take n).map (Value.int .u8)).length = n := by rw [List.length_map, List.length_take, hr.hlen]; omega
  have := run_copy_cells (P := Tryd.prog) u 35 35 ty 5 b o dl dc x sl sc ((l.take n).map (Value.int .u8)) Tryd.underlying35 (by kernel_rfl) (by rw [hl]; exact hn)
    (hr.news n) (fun j hj => (ht j (by rw [hl] at hj; exact hj)).1) (fun j hj => (ht j (by rw [hl] at hj; exact hj)).2) (bytes_oneCell _)
  rw [hl] at this
  exact this
set_option maxRecDepth 8000 in
/-- A part of an array is written anew. -/
theorem Ar.part {u : World} {b n : Nat} {ds : List Value} (h : Ar u b n ds) (o : Nat) (vs : List Value) (hv : o + vs.length ≤ n) : Ar (u.setCells b o vs) b n (ds.take o ++ (vs ++ ds.drop (o + vs.length))) := by
  have hl := h.len
  refine ⟨?_, World.there_setCells h.all _ _ _, by simp; omega⟩
  have h1 : (ds.take o).length = o := by rw [List.length_take]; omega
  refine range_app ?_ ?_
  · have := World.rangeAt_setCells_apart (range_sub h.rng 0 o) b o vs (.inr (.inl (by simp; omega)))
    simpa using this
  · rw [h1, Nat.zero_add]
    refine range_app (World.rangeAt_setCells_same _ _ _ _ (there_part h.all o _ hv)) ?_
    have := World.rangeAt_setCells_apart (range_sub h.rng (o + vs.length) (n - (o + vs.length))) b o vs (.inr (.inr (by simp)))
    rw [List.take_of_length_le (by simp; omega), Nat.zero_add] at this
    exact this
set_option maxRecDepth 8000 in
theorem Ar.rdFrom {u : World} {b n : Nat} {l : List Int} (h : Ar u b n (l.map (Value.int .u8))) (hb : Byt l) (off : Nat) (ho : off ≤ n) : Rd u (some ⟨b, off, none⟩) (n - off) (n - off) (l.drop off) := by
  have := h.rd hb off (n - off) (n - off) (by omega) (Nat.le_refl _)
  have hl := h.len
  rw [List.length_map] at hl
  rwa [List.take_of_length_le (by rw [List.length_drop]; omega)] at this
set_option maxRecDepth 8000 in
theorem Rd.rest {u : World} {b off r c : Nat} {l : List Int} (h : Rd u (some ⟨b, off, none⟩) r c l) (m : Nat) (hm : m ≤ r) : Rd u (if c = m then some ⟨b, off, none⟩ else some ⟨b, off + m, none⟩) (r - m) (c - m) (l.drop m) := by
  have hle := h.hle
  by_cases e : c = m
  · rw [if_pos e]
    have hr : r - m = 0 := by omega
    rw [hr, List.drop_eq_nil_of_le (by rw [h.hlen]; omega)]
    exact Rd.nil _ _ _ (fun h => by cases h)
  · rw [if_neg e]
    exact h.from m hm _ _ rfl (by omega)
end Go.Proofs.YtmibjgkakolhiaaDoor
