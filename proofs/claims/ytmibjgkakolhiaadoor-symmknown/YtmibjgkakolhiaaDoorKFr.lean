/-
  Worlds in which nothing has turned but a part of one block. No statement of the seat is proved here.
-/
import Derived.Test.YtmibjgkakolhiaaDoorKGen
namespace Go.Proofs.YtmibjgkakolhiaaDoor
open Go.RowKit

/-- Nothing that was there has turned, but for the cells o .. o + n of the block b. -/
structure ExtR (b o n : Nat) (w w' : World) : Prop where
  ext : ExtB b w w'
  cell : ∀ i, i < o ∨ o + n ≤ i → w'.cell? ⟨b, i, none⟩ = w.cell? ⟨b, i, none⟩
  froz : ∀ i, i < o ∨ o + n ≤ i → w'.frozen? ⟨b, i, none⟩ = w.frozen? ⟨b, i, none⟩
section
variable {b o n : Nat} {a u v : World}
set_option maxRecDepth 8000 in
theorem ExtR.refl (b o n : Nat) (w : World) : ExtR b o n w w := ⟨ExtB.refl b w, fun _ _ => rfl, fun _ _ => rfl⟩
set_option maxRecDepth 8000 in
theorem ExtR.trans (h : ExtR b o n a u) (hb : b < u.heap.size) (k : Below u.heap.size u v) : ExtR b o n a v :=
  ⟨h.ext.trans k, fun i hi => (World.cell?_of_block (k.block b hb)).trans (h.cell i hi), fun i hi => (World.frozen?_of_block (k.block b hb)).trans (h.froz i hi)⟩
set_option maxRecDepth 8000 in
theorem ExtR.of (k : Below a.heap.size a u) (hb : b < a.heap.size) : ExtR b o n a u := (ExtR.refl b o n a).trans hb k
set_option maxRecDepth 8000 in
theorem ExtR.comp (h : ExtR b o n a u) (k : ExtR b o n u v) : ExtR b o n a v :=
  ⟨h.ext.comp k.ext, fun i hi => (k.cell i hi).trans (h.cell i hi), fun i hi => (k.froz i hi).trans (h.froz i hi)⟩
set_option maxRecDepth 8000 in
theorem ExtR.set (h : ExtR b o n a u) (i : Nat) (h1 : o ≤ i) (h2 : i < o + n) (x : Value) : ExtR b o n a (u.setCell ⟨b, i, none⟩ x) :=
  ⟨h.ext.set i x, fun j hj => by rw [World.cell?_setCell_other _ _ _ _ (by simp <;> omega)]; exact h.cell j hj, fun j hj => by rw [← h.froz j hj]; simp⟩
set_option maxRecDepth 8000 in
theorem ExtR.cells : ∀ (vs : List Value) (i : Nat) {u : World}, ExtR b o n a u → o ≤ i → i + vs.length ≤ o + n → ExtR b o n a (u.setCells b i vs)
  | [], _, _, h, _, _ => h
  | x :: vs, i, _, h, h1, h2 => by
    rw [List.length_cons] at h2
    exact ExtR.cells vs (i + 1) (h.set i h1 (by omega) x) (by omega) (by omega)
set_option maxRecDepth 8000 in
theorem ExtR.drew (h : ExtR b o n a u) : ExtR b o n a u.drew := ⟨h.ext.drew, h.cell, h.froz⟩
set_option maxRecDepth 8000 in
theorem ExtR.range (h : ExtR b o n a u) {p : Nat} {cs : List Value} (hr : a.rangeAt b p cs) (hp : p + cs.length ≤ o ∨ o + n ≤ p) : u.rangeAt b p cs := fun j x hx => by
  have hj := (List.getElem?_eq_some_iff.1 hx).1
  rw [h.cell (p + j) (by omega)]
  exact hr j x hx
set_option maxRecDepth 8000 in
theorem ExtR.there (h : ExtR b o n a u) {p m : Nat} (hr : a.there b p m) (hp : p + m ≤ o ∨ o + n ≤ p) : u.there b p m := fun j hj => by
  rw [h.cell (p + j) (by omega), h.froz (p + j) (by omega)]
  exact hr j hj
set_option maxRecDepth 8000 in
theorem ExtR.wider (h : ExtR b o n a u) {p m : Nat} (h1 : p ≤ o) (h2 : o + n ≤ p + m) : ExtR b p m a u := ⟨h.ext, fun i hi => h.cell i (by omega), fun i hi => h.froz i (by omega)⟩
end
/-- An array at a place in a block: its cells, and that they are there. -/
structure Ao (u : World) (b o n : Nat) (cs : List Value) : Prop where
  rng : u.rangeAt b o cs
  all : u.there b o n
  len : cs.length = n
section
variable {u u' : World} {b o n : Nat} {cs : List Value}
set_option maxRecDepth 8000 in
theorem Ao.later (h : Ao u b o n cs) (hb : Below u.heap.size u u') : Ao u' b o n cs := ⟨range_later hb h.rng, there_later hb h.all, h.len⟩
set_option maxRecDepth 8000 in
theorem Ao.extb {c : Nat} (h : Ao u b o n cs) (hb : ExtB c u u') (hne : b ≠ c) : Ao u' b o n cs := ⟨fun j v hv => hb.cell hne (h.rng j v hv), there_extb hb hne h.all, h.len⟩
set_option maxRecDepth 8000 in
theorem Ao.drew (h : Ao u b o n cs) : Ao u.drew b o n cs := ⟨h.rng, h.all, h.len⟩
set_option maxRecDepth 8000 in
theorem Ao.cell (h : Ao u b o n cs) (i : Nat) (hi : i < n) : u.cell? ⟨b, o + i, none⟩ = some (cs[i]'(by rw [h.len]; exact hi)) ∧ u.frozen? ⟨b, o + i, none⟩ = false :=
  ⟨h.rng i _ (List.getElem?_eq_getElem (by rw [h.len]; exact hi)), (h.all i hi).2⟩
set_option maxRecDepth 8000 in
theorem Ao.lt (h : Ao u b o n cs) (hn : 0 < n) : b < u.heap.size := World.block_lt_of_cell? u _ (h.cell 0 hn).1
set_option maxRecDepth 8000 in
theorem Ao.set (h : Ao u b o n cs) (i : Nat) (hi : i < n) (v : Value) : Ao (u.setCell ⟨b, o + i, none⟩ v) b o n (cs.set i v) :=
  ⟨fun j x hx => by
    by_cases hj : j = i
    · subst hj
      rw [List.getElem?_set_self (by rw [h.len]; exact hi)] at hx
      rw [World.cell?_setCell_same _ _ _ (h.cell j hi).1]
      exact hx
    · rw [List.getElem?_set_ne (fun e => hj e.symm)] at hx
      rw [World.cell?_setCell_other _ _ _ _ (by simp <;> omega)]
      exact h.rng j x hx, there_set h.all _ _ _, by rw [List.length_set, h.len]⟩
set_option maxRecDepth 8000 in
theorem Ao.else (h : Ao u b o n cs) (c i : Nat) (hc : b ≠ c) (v : Value) : Ao (u.setCell ⟨c, i, none⟩ v) b o n cs := ⟨range_else h.rng hc v, there_set h.all _ _ _, h.len⟩
set_option maxRecDepth 8000 in
theorem Ao.all_set (ht : u.there b o n) (hl : cs.length = n) : Ao (u.setCells b o cs) b o n cs :=
  ⟨World.rangeAt_setCells_same _ _ _ _ (by rw [hl]; exact ht), World.there_setCells ht _ _ _, hl⟩
set_option maxRecDepth 8000 in
theorem Ao.extr {p m : Nat} (h : Ao u b o n cs) (hb : ExtR b p m u u') (hp : o + n ≤ p ∨ p + m ≤ o) : Ao u' b o n cs :=
  ⟨hb.range h.rng (by rw [h.len]; exact hp), hb.there h.all hp, h.len⟩
set_option maxRecDepth 8000 in
/-- A part of it. -/
theorem Ao.sub (h : Ao u b o n cs) (i m : Nat) (hi : i + m ≤ n) : Ao u b (o + i) m ((cs.drop i).take m) :=
  ⟨range_sub h.rng i m, fun j hj => by have := h.all (i + j) (by omega); rwa [← Nat.add_assoc] at this, by rw [List.length_take, List.length_drop, h.len]; omega⟩
set_option maxRecDepth 8000 in
theorem Ao.part (h : Ao u b o n cs) (i : Nat) (vs : List Value) (hv : i + vs.length ≤ n) : Ao (u.setCells b (o + i) vs) b o n (cs.take i ++ (vs ++ cs.drop (i + vs.length))) := by
  have hl := h.len
  refine ⟨?_, World.there_setCells h.all _ _ _, by simp; omega⟩
  have h1 : (cs.take i).length = i := by rw [List.length_take]; omega
  refine range_app ?_ ?_
  · have := World.rangeAt_setCells_apart (range_sub h.rng 0 i) b (o + i) vs (.inr (.inl (by simp; omega)))
    simpa using this
  · rw [h1]
    refine range_app (World.rangeAt_setCells_same _ _ _ _ (fun j hj => by have := h.all (i + j) (by omega); rwa [← Nat.add_assoc] at this)) ?_
    have := World.rangeAt_setCells_apart (range_sub h.rng (i + vs.length) (n - (i + vs.length))) b (o + i) vs (.inr (.inr (by omega)))
    rw [List.take_of_length_le (by simp; omega), ← Nat.add_assoc] at this
    exact this
end
set_option maxRecDepth 8000 in
theorem Ar.ao {u : World} {b n : Nat} {cs : List Value} (h : Ar u b n cs) : Ao u b 0 n cs := ⟨h.rng, h.all, h.len⟩
set_option maxRecDepth 8000 in
theorem Ao.ar {u : World} {b n : Nat} {cs : List Value} (h : Ao u b 0 n cs) : Ar u b n cs := ⟨h.rng, h.all, h.len⟩
end Go.Proofs.YtmibjgkakolhiaaDoor
