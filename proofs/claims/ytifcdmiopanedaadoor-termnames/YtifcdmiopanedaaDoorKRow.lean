/-
  Slices of slices of bytes. No statement of the seat is proved here.
-/
import Derived.Test.YtifcdmiopanedaaDoorKGen
namespace Go.Proofs.YtifcdmiopanedaaDoor
open Go.RowKit

/-- The slice (a, len, _) reads in w as the lists L. -/
structure RdL (w : World) (a : Option Addr) (len : Nat) (L : List (List Int)) : Prop where
  hlen : L.length = len
  cell : 0 < len → ∃ b off, a = some ⟨b, off, none⟩ ∧ ∀ i, i < len → ∃ ai ni ci, w.cell? ⟨b, off + i, none⟩ = some (.slice ai ni ci) ∧ Rd w ai ni ci (L[i]?.getD [])
def flen (L : List (List Int)) (k : Nat) : Nat := (L.take k).flatten.length
theorem flen_zero (L : List (List Int)) : flen L 0 = 0 := by simp [flen]
theorem flen_succ (L : List (List Int)) (k : Nat) (h : k < L.length) : flen L (k + 1) = flen L k + (L[k]?.getD []).length := by
  unfold flen
  rw [List.take_succ_eq_append_getElem h, List.flatten_append, List.length_append, List.getElem?_eq_getElem h]
  simp
theorem flat_succ (L : List (List Int)) (k : Nat) (h : k < L.length) : (L.take (k + 1)).flatten = (L.take k).flatten ++ L[k]?.getD [] := by
  rw [List.take_succ_eq_append_getElem h, List.flatten_append, List.getElem?_eq_getElem h]
  simp
theorem flen_all (L : List (List Int)) : flen L L.length = L.flatten.length := by simp [flen]
theorem flen_le (L : List (List Int)) (k : Nat) : flen L k ≤ L.flatten.length := by
  have h : L.flatten = (L.take k).flatten ++ (L.drop k).flatten := by rw [← List.flatten_append, List.take_append_drop]
  unfold flen
  rw [h, List.length_append]
  omega
theorem RdL.below {w w' : World} {a : Option Addr} {len : Nat} {L : List (List Int)} (h : RdL w a len L) (hb : Below w.heap.size w w') : RdL w' a len L := ⟨h.hlen, fun h0 => by
  obtain ⟨b, off, ha, hc⟩ := h.cell h0
  exact ⟨b, off, ha, fun i hi => by
    obtain ⟨ai, ni, ci, h1, h2⟩ := hc i hi
    exact ⟨ai, ni, ci, cell_later hb h1, h2.below hb⟩⟩⟩
theorem RdL.nil (w : World) (a : Option Addr) : RdL w a 0 [] := ⟨rfl, fun h => absurd h (by decide)⟩
theorem RdL.one (w : World) (a : Option Addr) (n c : Nat) (l : List Int) (t : TypeId) (h : Rd w a n c l) : RdL (w.alloc (.cells #[.slice a n c] t)) (some ⟨w.heap.size, 0, none⟩) 1 [l] :=
  ⟨rfl, fun _ => ⟨w.heap.size, 0, rfl, fun i hi => by
    match i, hi with
    | 0, _ => exact ⟨a, n, c, by rw [cell_of_row _ _ _ _ _ _ (heap_alloc_new w _)]; rfl, h.alloc _⟩⟩⟩
theorem RdL.two (w : World) (a : Option Addr) (n c : Nat) (l : List Int) (a' : Option Addr) (n' c' : Nat) (l' : List Int) (t : TypeId) (h : Rd w a n c l) (h' : Rd w a' n' c' l') : RdL (w.alloc (.cells #[.slice a n c, .slice a' n' c'] t)) (some ⟨w.heap.size, 0, none⟩) 2 [l, l'] :=
  ⟨rfl, fun _ => ⟨w.heap.size, 0, rfl, fun i hi => by
    match i, hi with
    | 0, _ => exact ⟨a, n, c, by rw [cell_of_row _ _ _ _ _ _ (heap_alloc_new w _)]; rfl, h.alloc _⟩
    | 1, _ => exact ⟨a', n', c', by rw [cell_of_row _ _ _ _ _ _ (heap_alloc_new w _)]; rfl, h'.alloc _⟩⟩⟩
theorem RdL.three (w : World) (a : Option Addr) (n c : Nat) (l : List Int) (a' : Option Addr) (n' c' : Nat) (l' : List Int) (a2 : Option Addr) (n2 c2 : Nat) (l2 : List Int) (t : TypeId) (h : Rd w a n c l) (h' : Rd w a' n' c' l') (h2 : Rd w a2 n2 c2 l2) : RdL (w.alloc (.cells #[.slice a n c, .slice a' n' c', .slice a2 n2 c2] t)) (some ⟨w.heap.size, 0, none⟩) 3 [l, l', l2] :=
  ⟨rfl, fun _ => ⟨w.heap.size, 0, rfl, fun i hi => by
    match i, hi with
    | 0, _ => exact ⟨a, n, c, by rw [cell_of_row _ _ _ _ _ _ (heap_alloc_new w _)]; rfl, h.alloc _⟩
    | 1, _ => exact ⟨a', n', c', by rw [cell_of_row _ _ _ _ _ _ (heap_alloc_new w _)]; rfl, h'.alloc _⟩
    | 2, _ => exact ⟨a2, n2, c2, by rw [cell_of_row _ _ _ _ _ _ (heap_alloc_new w _)]; rfl, h2.alloc _⟩⟩⟩
end Go.Proofs.YtifcdmiopanedaaDoor
