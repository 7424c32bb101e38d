/-
  Rows of constant texts, in whatever world: what the mark that such a row gets leaves as it is. No statement of the seat is proved here.
-/
import Derived.Test.YtifcdmiopanedaaDoorKOwn
import Derived.Lib.SlBytesConst
namespace Go.Proofs.YtifcdmiopanedaaDoor
open Go.RowKit

theorem frz_cell (u : World) (p : Addr) (n : Nat) (a : Addr) : (u.freeze p n).cell? a = u.cell? a := by
  unfold World.freeze
  split
  · rfl
  · unfold World.cell?
    simp only [Array.getElem?_modify]
    by_cases h : p.block = a.block
    · rw [if_pos h]
      cases hc : u.heap[a.block]? with
      | none => rfl
      | some o => cases o <;> rfl
    · rw [if_neg h]
theorem Rd.frz {u : World} {a : Option Addr} {len cap : Nat} {l : List Int} (h : Rd u a len cap l) (p : Addr) (n : Nat) : Rd (u.freeze p n) a len cap l :=
  ⟨h.hlen, h.hle, h.hnil, h.byt, fun h0 => by
    obtain ⟨b, off, ha, hc⟩ := h.cell h0
    exact ⟨b, off, ha, fun i hi => by rw [frz_cell]; exact hc i hi⟩⟩
theorem ext_frz {W u : World} (h : Ext W u) (b k : Nat) (hb : W.heap.size ≤ b) : Ext W (u.freeze ⟨b, k, none⟩ 1) := by
  refine Below.trans h ?_
  unfold World.freeze
  rw [if_neg (by decide)]
  exact ⟨rfl, rfl, rfl, by simp, fun i hi => by
    simp only [Array.getElem?_modify]
    rw [if_neg (by omega)]⟩
/-- A literal's row that bears no mark yet. -/
def Lt (u : World) (b : Nat) (l : List Int) : Prop := u.heap[b]? = some (.cells (List.map (Value.int .u8) l).toArray 5)
theorem Lt.lt {u : World} {b : Nat} {l : List Int} (h : Lt u b l) : b < u.heap.size := by
  unfold Lt at h
  exact (Array.getElem?_eq_some_iff.1 h).1
theorem Lt.later {u v : World} {b : Nat} {l : List Int} (h : Lt u b l) (hb : Below u.heap.size u v) : Lt v b l := by
  unfold Lt
  rw [hb.block b h.lt]
  exact h
theorem Lt.frz {u : World} {b : Nat} {l : List Int} (h : Lt u b l) (c k n : Nat) (hne : b ≠ c) : Lt (u.freeze ⟨c, k, none⟩ n) b l := by
  unfold Lt World.freeze
  split
  · exact h
  · simp only [Array.getElem?_modify]
    rw [if_neg (fun e => hne e.symm)]
    exact h
theorem lt_new (u : World) (l : List Int) : Lt (u.alloc (.cells (List.map (Value.int .u8) l).toArray 5)) u.heap.size l := heap_alloc_new u _
theorem Lt.rd {u : World} {b : Nat} {l : List Int} (h : Lt u b l) (hb : Byt l) (cap : Nat) (hc : l.length ≤ cap) : Rd u (some ⟨b, 0, none⟩) l.length cap l :=
  ⟨rfl, hc, (fun h => by cases h), hb, fun _ => ⟨b, 0, rfl, fun i hi => by
    rw [Nat.zero_add, cell_of_row _ _ _ _ _ _ h]
    simp [List.getElem?_eq_getElem hi]⟩⟩
theorem conv_mark (u : World) (b : Nat) (l : List Int) (n c : Nat) (h : Lt u b l) : (convert 69 69 (.slice (some ⟨b, 0, none⟩) n c)).run Tryd.prog u = .ok (.slice (some ⟨b, 0, none⟩) n c) (u.freeze ⟨b, l.length, none⟩ 1) := by
  have hsh : u.shape? b = some (5, l.length) := by
    unfold World.shape?
    rw [h]
    simp
  simp [convert, run_underlying (P := Tryd.prog) Tryd.underlying69, run_underlying (P := Tryd.prog) Tryd.underlying5, markStringish, hsh]
/-- A step that several ways come to, in several worlds. -/
theorem cut2 {F G : World → Nat → List Int → Prop} {β : Prop} (h : (∀ u x N, F u x N → G u x N) → β) (hr : ∀ u x N, F u x N → G u x N) : β := h hr
theorem cut3 {F G : World → Nat → Nat → List Int → Prop} {β : Prop} (h : (∀ u x y N, F u x y N → G u x y N) → β) (hr : ∀ u x y N, F u x y N → G u x y N) : β := h hr
/-- 'make' of so many bytes, in whatever world. -/
theorem make_l (u : World) (k : Nat) (hk : k ≤ 281474976710656) : ∃ V, (Instr.makeSlice 69 (.int .i64 (k : Int)) (.int .i64 (k : Int))).run Tryd.prog u = .ok (.slice (some ⟨u.heap.size, 0, none⟩) k k) V ∧ Ow V u.heap.size k (List.replicate k 0) ∧ Below u.heap.size u V := by
  obtain ⟨i0, hi, hz0, hz1, hz2⟩ := info_parts info5
  obtain ⟨V, hr, ho, hg⟩ := run_make_full (P := Tryd.prog) u u.heap.size 69 5 i0 (.int .u8 0) 1 Tryd.underlying69 hi hz0 hz1 .i64 .i64 k (by rw [hz2]; omega) (by unfold maxLen; omega) (Nat.le_refl _)
  rw [made_zero] at ho
  exact ⟨V, hr, ⟨⟨_, ho⟩, byt_zero k⟩, (Below.refl _ _).grown hg (Nat.le_refl _) (fun k h => by cases h)⟩
end Go.Proofs.YtifcdmiopanedaaDoor
