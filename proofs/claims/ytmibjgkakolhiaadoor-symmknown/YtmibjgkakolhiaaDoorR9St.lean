/-
  The reference's Cipher in memory: whether it has a key, the key, the nonce. No statement of the seat is proved here.
-/
import Derived.Test.YtmibjgkakolhiaaDoorPk19
namespace Go.Proofs.YtmibjgkakolhiaaDoor
open Go.RowKit

/-- A Cipher's cells. -/
def rc9 (k : List Int) (h : Bool) (n : Int) : List Value := .bool h :: (List.map (Value.int .u8) k ++ [.int .u64 n])
set_option maxRecDepth 8000 in
theorem rc9_len {k : List Int} {h : Bool} {n : Int} (hk : k.length = 32) : (rc9 k h n).length = 34 := by
  unfold rc9
  simp [hk]
set_option maxRecDepth 8000 in
theorem rc9_take {k : List Int} {h : Bool} {n : Int} (hk : k.length = 32) : ((rc9 k h n).drop 1).take 32 = List.map (Value.int .u8) k := by
  unfold rc9
  rw [List.drop_succ_cons, List.drop_zero, List.take_append_of_le_length (by rw [List.length_map]; omega), List.take_of_length_le (by rw [List.length_map]; omega)]
set_option maxRecDepth 8000 in
theorem rc9_key {k k' : List Int} {h : Bool} {n : Int} (hk : k.length = 32) (hk' : k'.length = 32) : (rc9 k h n).take 1 ++ (List.map (Value.int .u8) k' ++ (rc9 k h n).drop (1 + (List.map (Value.int .u8) k').length)) = rc9 k' h n := by
  have e : (rc9 k h n).drop (1 + 32) = [.int .u64 n] := by
    unfold rc9
    rw [Nat.add_comm, List.drop_succ_cons, List.drop_append, List.drop_eq_nil_of_le (by rw [List.length_map]; omega), List.nil_append, List.length_map, hk]
    rfl
  rw [List.length_map, hk', e]
  rfl
set_option maxRecDepth 8000 in
theorem rc9_one {k : List Int} {h : Bool} {n : Int} (i : Nat) (hi : i < k.length) (x : Int) : (rc9 k h n).set (1 + i) (.int .u8 x) = rc9 (k.set i x) h n := by
  unfold rc9
  rw [Nat.add_comm, List.set_cons_succ, List.set_append_left _ _ (by rw [List.length_map]; exact hi), List.map_set]
set_option maxRecDepth 8000 in
theorem rc9_has {k : List Int} {h : Bool} {n : Int} (h' : Bool) : (rc9 k h n).set 0 (.bool h') = rc9 k h' n := rfl
set_option maxRecDepth 8000 in
theorem rc9_nonce {k : List Int} {h : Bool} {n : Int} (hk : k.length = 32) (n' : Int) : (rc9 k h n).set 33 (.int .u64 n') = rc9 k h n' := by
  unfold rc9
  rw [List.set_cons_succ, List.set_append_right _ _ (by rw [List.length_map]; omega), List.length_map, hk]
  rfl
/-- The Cipher in block b has the key k (h: whether it has one), and n is the nonce of the next box. -/
structure Cx (u : World) (b : Nat) (k : List Int) (h : Bool) (n : Int) : Prop where
  ar : Ar u b 34 (rc9 k h n)
  bk : Bn 32 k
  wn : 0 ≤ n ∧ n < 18446744073709551616
section
variable {u u' : World} {b : Nat} {k : List Int} {h : Bool} {n : Int}
set_option maxRecDepth 8000 in
theorem Cx.later (s : Cx u b k h n) (hb : Below u.heap.size u u') : Cx u' b k h n := ⟨s.ar.later hb, s.bk, s.wn⟩
set_option maxRecDepth 8000 in
theorem Cx.extb {bo : Nat} (s : Cx u b k h n) (hb : ExtB bo u u') (hne : b ≠ bo) : Cx u' b k h n := ⟨s.ar.extb hb hne, s.bk, s.wn⟩
set_option maxRecDepth 8000 in
theorem Cx.drew (s : Cx u b k h n) : Cx u.drew b k h n := ⟨s.ar.drew, s.bk, s.wn⟩
set_option maxRecDepth 8000 in
theorem Cx.lt (s : Cx u b k h n) : b < u.heap.size := s.ar.lt (by decide)
set_option maxRecDepth 8000 in
theorem Cx.key (s : Cx u b k h n) : u.rangeAt b 1 (List.map (Value.int .u8) k) := by
  have := range_sub s.ar.rng 1 32
  rwa [rc9_take s.bk.len] at this
set_option maxRecDepth 8000 in
theorem Cx.keyThere (s : Cx u b k h n) : u.there b 1 32 := there_part s.ar.all 1 32 (by decide)
set_option maxRecDepth 8000 in
theorem Cx.has (s : Cx u b k h n) : u.cell? ⟨b, 0, none⟩ = some (.bool h) ∧ u.frozen? ⟨b, 0, none⟩ = false := by
  obtain ⟨h1, h2⟩ := s.ar.cell 0 (by decide)
  exact ⟨h1, h2⟩
set_option maxRecDepth 8000 in
theorem Cx.nonce (s : Cx u b k h n) : u.cell? ⟨b, 33, none⟩ = some (.int .u64 n) ∧ u.frozen? ⟨b, 33, none⟩ = false := by
  obtain ⟨h1, h2⟩ := s.ar.cell 33 (by decide)
  refine ⟨?_, h2⟩
  have e : (rc9 k h n)[33]? = some (.int .u64 n) := by
    unfold rc9
    rw [List.getElem?_cons_succ, List.getElem?_append_right (by rw [List.length_map, s.bk.len]; decide), List.length_map, s.bk.len]
    rfl
  rw [h1, ← e, List.getElem?_eq_getElem]
set_option maxRecDepth 8000 in
theorem Cx.byte (s : Cx u b k h n) (i : Nat) (hi : i < 32) : ∃ x, u.cell? ⟨b, 1 + i, none⟩ = some (.int .u8 x) ∧ u.frozen? ⟨b, 1 + i, none⟩ = false := by
  obtain ⟨h1, h2⟩ := s.ar.cell (1 + i) (by omega)
  have hx : i < k.length := by rw [s.bk.len]; exact hi
  refine ⟨k[i], ?_, h2⟩
  have e : (rc9 k h n)[1 + i]? = some (.int .u8 k[i]) := by
    unfold rc9
    rw [Nat.add_comm, List.getElem?_cons_succ, List.getElem?_append_left (by rw [List.length_map]; exact hx), List.getElem?_map, List.getElem?_eq_getElem hx]
    rfl
  rw [h1, ← e, List.getElem?_eq_getElem]
set_option maxRecDepth 8000 in
theorem Cx.setN (s : Cx u b k h n) {n' : Int} (hn : 0 ≤ n' ∧ n' < 18446744073709551616) : Cx (u.setCell ⟨b, 33, none⟩ (.int .u64 n')) b k h n' :=
  ⟨by rw [← rc9_nonce s.bk.len n']; exact s.ar.set 33 (by decide) _, s.bk, hn⟩
set_option maxRecDepth 8000 in
theorem Cx.setHas (s : Cx u b k h n) (h' : Bool) : Cx (u.setCell ⟨b, 0, none⟩ (.bool h')) b k h' n :=
  ⟨by rw [← rc9_has (h := h) h']; exact s.ar.set 0 (by decide) _, s.bk, s.wn⟩
set_option maxRecDepth 8000 in
theorem Cx.setKey (s : Cx u b k h n) {k' : List Int} (hk : Bn 32 k') : Cx (u.setCells b 1 (List.map (Value.int .u8) k')) b k' h n :=
  ⟨by rw [← rc9_key s.bk.len hk.len (k := k)]; exact s.ar.part 1 _ (by rw [hk.map_len]; decide), hk, s.wn⟩
set_option maxRecDepth 8000 in
theorem Cx.setOne (s : Cx u b k h n) (i : Nat) (hi : i < 32) {x : Int} (hx : 0 ≤ x ∧ x ≤ 255) : Cx (u.setCell ⟨b, 1 + i, none⟩ (.int .u8 x)) b (k.set i x) h n :=
  ⟨by rw [← rc9_one i (by rw [s.bk.len]; exact hi) x]; exact s.ar.set (1 + i) (by omega) _, ⟨by rw [List.length_set, s.bk.len], fun y hy => by
    rcases List.mem_or_eq_of_mem_set hy with h | h
    · exact s.bk.byt y h
    · rw [h]; exact hx⟩, s.wn⟩
end
set_option maxRecDepth 8000 in
theorem rc9_oneCell (k : List Int) (h : Bool) (n : Int) : ∀ v ∈ rc9 k h n, v.oneCell' = true := fun v hv => by
  unfold rc9 at hv
  rcases List.mem_cons.1 hv with rfl | hv
  · rfl
  · rcases List.mem_append.1 hv with hv | hv
    · exact bytes_oneCell k v hv
    · rw [List.mem_singleton.1 hv]; rfl
set_option maxRecDepth 8000 in
theorem rc9_cells {k : List Int} (h : Bool) (n : Int) (hk : Bn 32 k) : (rc9 k h n).length = 34 ∧ (∀ v ∈ rc9 k h n, v.oneCell' = true) ∧ (Tryd.prog.info? 31).map (·.size) = some (rc9 k h n).length :=
  ⟨rc9_len hk.len, rc9_oneCell k h n, by rw [rc9_len hk.len]; kernel_rfl⟩
set_option maxRecDepth 8000 in
theorem cx_new (u : World) (k : List Int) (h : Bool) (n : Int) (hk : Bn 32 k) (hn : 0 ≤ n ∧ n < 18446744073709551616) (t : TypeId) : Cx (u.alloc (.cells (rc9 k h n).toArray t)) u.heap.size k h n := ⟨ar_box u _ 34 (rc9_len hk.len) t, hk, hn⟩
end Go.Proofs.YtmibjgkakolhiaaDoor
