/-
  Several texts of one's own, laid together. No statement of the seat is proved here.
-/
import Derived.Test.YtmibjgkakolhiaaGreatDoorPk12
import Derived.Test.YtmibjgkakolhiaaGreatDoorPk13
/-
 The reference's Cipher in memory: whether it has a key, the key, the nonce. No statement of the seat is proved here.
-/
namespace Go.Proofs.YtmibjgkakolhiaaGreatDoor
open Go.RowKit

/-- A Cipher's cells. -/
def rc9 (k : List Int) (h : Bool) (n : Int) : List Value := .bool h :: (List.map (Value.int .u8) k ++ [.int .u64 n])
set_option maxRecDepth 8000 in
theorem rc9_len {k : List Int} {h : Bool} {n : Int} (hk : k.length = 32) : (rc9 k h n).length = 34 := by
 unfold rc9
 simp [hk]
set_option maxRecDepth 8000 in
theorem rc9_take {k : List Int} {h : Bool} {n : Int} (hk : k.length = 32) : ((rc9 k h n).drop 1).take 32 = List.map (Value.int .u8) k := by
 unfold rc9
 rw [List.drop_succ_cons, List.drop_zero, List.take_append_of_le_length (by rw [List.length_map]; omega), List.take_of_length_le (by rw [List.length_map]; omega)]
set_option maxRecDepth 8000 in
theorem rc9_key {k k' : List Int} {h : Bool} {n : Int} (hk : k.length = 32) (hk' : k'.length = 32) : (rc9 k h n).take 1 ++ (List.map (Value.int .u8) k' ++ (rc9 k h n).drop (1 + (List.map (Value.int .u8) k').length)) = rc9 k' h n := by
 have e : (rc9 k h n).drop (1 + 32) = [.int .u64 n] := by
  unfold rc9
  rw [Nat.add_comm, List.drop_succ_cons, List.drop_append, List.drop_eq_nil_of_le (by rw [List.length_map]; omega), List.nil_append, List.length_map, hk]
  rfl
 rw [List.length_map, hk', e]
 rfl
set_option maxRecDepth 8000 in
theorem rc9_one {k : List Int} {h : Bool} {n : Int} (i : Nat) (hi : i < k.length) (x : Int) : (rc9 k h n).set (1 + i) (.int .u8 x) = rc9 (k.set i x) h n := by
 unfold rc9
 rw [Nat.add_comm, List.set_cons_succ, List.set_append_left _ _ (by rw [List.length_map]; exact hi), List.map_set]
set_option maxRecDepth 8000 in
theorem rc9_has {k : List Int} {h : Bool} {n : Int} (h' : Bool) : (rc9 k h n).set 0 (.bool h') = rc9 k h' n := rfl
set_option maxRecDepth 8000 in
theorem rc9_nonce {k : List Int} {h : Bool} {n : Int} (hk : k.length = 32) (n' : Int) : (rc9 k h n).set 33 (.int .u64 n') = rc9 k h n' := by
 unfold rc9
 rw [List.set_cons_succ, List.set_append_right _ _ (by rw [List.length_map]; omega), List.length_map, hk]
 rfl
/-- The Cipher in block b has the key k (h: whether it has one), and n is the nonce of the next box. -/
structure Cx (u : World) (b : Nat) (k : List Int) (h : Bool) (n : Int) : Prop where
 ar : Ar u b 34 (rc9 k h n)
 bk : Bn 32 k
 wn : 0 ≤ n ∧ n < 18446744073709551616
section
variable {u u' : World} {b : Nat} {k : List Int} {h : Bool} {n : Int}
set_option maxRecDepth 8000 in
theorem Cx.later (s : Cx u b k h n) (hb : Below u.heap.size u u') : Cx u' b k h n := ⟨s.ar.later hb, s.bk, s.wn⟩
set_option maxRecDepth 8000 in
theorem Cx.extb {bo : Nat} (s : Cx u b k h n) (hb : ExtB bo u u') (hne : b ≠ bo) : Cx u' b k h n := ⟨s.ar.extb hb hne, s.bk, s.wn⟩
set_option maxRecDepth 8000 in
theorem Cx.drew (s : Cx u b k h n) : Cx u.drew b k h n := ⟨s.ar.drew, s.bk, s.wn⟩
set_option maxRecDepth 8000 in
theorem Cx.lt (s : Cx u b k h n) : b < u.heap.size := s.ar.lt (by decide)
set_option maxRecDepth 8000 in
theorem Cx.key (s : Cx u b k h n) : u.rangeAt b 1 (List.map (Value.int .u8) k) := by
 have := range_sub s.ar.rng 1 32
 rwa [rc9_take s.bk.len] at this
set_option maxRecDepth 8000 in
theorem Cx.keyThere (s : Cx u b k h n) : u.there b 1 32 := there_part s.ar.all 1 32 (by decide)
set_option maxRecDepth 8000 in
theorem Cx.has (s : Cx u b k h n) : u.cell? ⟨b, 0, none⟩ = some (.bool h) ∧ u.frozen? ⟨b, 0, none⟩ = false := by
 obtain ⟨h1, h2⟩ := s.ar.cell 0 (by decide)
 exact ⟨h1, h2⟩
set_option maxRecDepth 8000 in
theorem Cx.nonce (s : Cx u b k h n) : u.cell? ⟨b, 33, none⟩ = some (.int .u64 n) ∧ u.frozen? ⟨b, 33, none⟩ = false := by
 obtain ⟨h1, h2⟩ := s.ar.cell 33 (by decide)
 refine ⟨?_, h2⟩
 have e : (rc9 k h n)[33]? = some (.int .u64 n) := by
  unfold rc9
  rw [List.getElem?_cons_succ, List.getElem?_append_right (by rw [List.length_map, s.bk.len]; decide), List.length_map, s.bk.len]
  rfl
 rw [h1, ← e, List.getElem?_eq_getElem]
set_option maxRecDepth 8000 in
theorem Cx.byte (s : Cx u b k h n) (i : Nat) (hi : i < 32) : ∃ x, u.cell? ⟨b, 1 + i, none⟩ = some (.int .u8 x) ∧ u.frozen? ⟨b, 1 + i, none⟩ = false := by
 obtain ⟨h1, h2⟩ := s.ar.cell (1 + i) (by omega)
 have hx : i < k.length := by rw [s.bk.len]; exact hi
 refine ⟨k[i], ?_, h2⟩
 have e : (rc9 k h n)[1 + i]? = some (.int .u8 k[i]) := by
  unfold rc9
  rw [Nat.add_comm, List.getElem?_cons_succ, List.getElem?_append_left (by rw [List.length_map]; exact hx), List.getElem?_map, List.getElem?_eq_getElem hx]
  rfl
 rw [h1, ← e, List.getElem?_eq_getElem]
set_option maxRecDepth 8000 in
theorem Cx.setN (s : Cx u b k h n) {n' : Int} (hn : 0 ≤ n' ∧ n' < 18446744073709551616) : Cx (u.setCell ⟨b, 33, none⟩ (.int .u64 n')) b k h n' :=
 ⟨by rw [← rc9_nonce s.bk.len n']; exact s.ar.set 33 (by decide) _, s.bk, hn⟩
set_option maxRecDepth 8000 in
theorem Cx.setHas (s : Cx u b k h n) (h' : Bool) : Cx (u.setCell ⟨b, 0, none⟩ (.bool h')) b k h' n :=
 ⟨by rw [← rc9_has (h := h) h']; exact s.ar.set 0 (by decide) _, s.bk, s.wn⟩
set_option maxRecDepth 8000 in
theorem Cx.setKey (s : Cx u b k h n) {k' : List Int} (hk : Bn 32 k') : Cx (u.setCells b 1 (List.map (Value.int .u8) k')) b k' h n :=
 ⟨by rw [← rc9_key s.bk.len hk.len (k := k)]; exact s.ar.part 1 _ (by rw [hk.map_len]; decide), hk, s.wn⟩
set_option maxRecDepth 8000 in
theorem Cx.setOne (s : Cx u b k h n) (i : Nat) (hi : i < 32) {x : Int} (hx : 0 ≤ x ∧ x ≤ 255) : Cx (u.setCell ⟨b, 1 + i, none⟩ (.int .u8 x)) b (k.set i x) h n :=
 ⟨by rw [← rc9_one i (by rw [s.bk.len]; exact hi) x]; exact s.ar.set (1 + i) (by omega) _, ⟨by rw [List.length_set, s.bk.len], fun y hy => by
  rcases List.mem_or_eq_of_mem_set hy with h | h
  ·exact s.bk.byt y h
  ·rw [h]; exact hx⟩, s.wn⟩
end
set_option maxRecDepth 8000 in
theorem rc9_oneCell (k : List Int) (h : Bool) (n : Int) : ∀ v ∈ rc9 k h n, v.oneCell' = true := fun v hv => by
 unfold rc9 at hv
 rcases List.mem_cons.1 hv with rfl | hv
 ·rfl
 ·rcases List.mem_append.1 hv with hv | hv
  ·exact bytes_oneCell k v hv
  ·rw [List.mem_singleton.1 hv]; rfl
set_option maxRecDepth 8000 in
theorem rc9_cells {k : List Int} (h : Bool) (n : Int) (hk : Bn 32 k) : (rc9 k h n).length = 34 ∧ (∀ v ∈ rc9 k h n, v.oneCell' = true) ∧ (Tryz.prog.info? 36).map (·.size) = some (rc9 k h n).length :=
 ⟨rc9_len hk.len, rc9_oneCell k h n, by rw [rc9_len hk.len]; kernel_rfl⟩
set_option maxRecDepth 8000 in
theorem cx_new (u : World) (k : List Int) (h : Bool) (n : Int) (hk : Bn 32 k) (hn : 0 ≤ n ∧ n < 18446744073709551616) (t : TypeId) : Cx (u.alloc (.cells (rc9 k h n).toArray t)) u.heap.size k h n := ⟨ar_box u _ 34 (rc9_len hk.len) t, hk, hn⟩
end Go.Proofs.YtmibjgkakolhiaaGreatDoor
/-
 The reference's Cipher at a place in a greater block (where it is embedded). No statement of the seat is proved here.
-/
namespace Go.Proofs.YtmibjgkakolhiaaGreatDoor
open Go.RowKit

/-- The Cipher at o in block b has the key k (h: whether it has one), and n is the nonce of the next box. -/
structure Cy (u : World) (b o : Nat) (k : List Int) (h : Bool) (n : Int) : Prop where
 ao : Ao u b o 34 (rc9 k h n)
 bk : Bn 32 k
 wn : 0 ≤ n ∧ n < 18446744073709551616
set_option maxRecDepth 8000 in
theorem Cx.cy {u : World} {b : Nat} {k : List Int} {h : Bool} {n : Int} (s : Cx u b k h n) : Cy u b 0 k h n := ⟨s.ar.ao, s.bk, s.wn⟩
set_option maxRecDepth 8000 in
theorem Cy.cx {u : World} {b : Nat} {k : List Int} {h : Bool} {n : Int} (s : Cy u b 0 k h n) : Cx u b k h n := ⟨s.ao.ar, s.bk, s.wn⟩
section
variable {u u' : World} {b o : Nat} {k : List Int} {h : Bool} {n : Int}
set_option maxRecDepth 8000 in
theorem Cy.later (s : Cy u b o k h n) (hb : Below u.heap.size u u') : Cy u' b o k h n := ⟨s.ao.later hb, s.bk, s.wn⟩
set_option maxRecDepth 8000 in
theorem Cy.extb {bo : Nat} (s : Cy u b o k h n) (hb : ExtB bo u u') (hne : b ≠ bo) : Cy u' b o k h n := ⟨s.ao.extb hb hne, s.bk, s.wn⟩
set_option maxRecDepth 8000 in
theorem Cy.extr {p m : Nat} (s : Cy u b o k h n) (hb : ExtR b p m u u') (hp : o + 34 ≤ p ∨ p + m ≤ o) : Cy u' b o k h n := ⟨s.ao.extr hb hp, s.bk, s.wn⟩
set_option maxRecDepth 8000 in
theorem Cy.drew (s : Cy u b o k h n) : Cy u.drew b o k h n := ⟨s.ao.drew, s.bk, s.wn⟩
set_option maxRecDepth 8000 in
theorem Cy.lt (s : Cy u b o k h n) : b < u.heap.size := s.ao.lt (by decide)
set_option maxRecDepth 8000 in
theorem Cy.key (s : Cy u b o k h n) : u.rangeAt b (o + 1) (List.map (Value.int .u8) k) := by
 have := (s.ao.sub 1 32 (by decide)).rng
 rwa [rc9_take s.bk.len] at this
set_option maxRecDepth 8000 in
theorem Cy.keyThere (s : Cy u b o k h n) : u.there b (o + 1) 32 := (s.ao.sub 1 32 (by decide)).all
set_option maxRecDepth 8000 in
theorem Cy.has (s : Cy u b o k h n) : u.cell? ⟨b, o, none⟩ = some (.bool h) ∧ u.frozen? ⟨b, o, none⟩ = false := by
 obtain ⟨h1, h2⟩ := s.ao.cell 0 (by decide)
 rw [Nat.add_zero] at h1 h2
 exact ⟨h1, h2⟩
set_option maxRecDepth 8000 in
theorem Cy.nonce (s : Cy u b o k h n) : u.cell? ⟨b, o + 33, none⟩ = some (.int .u64 n) ∧ u.frozen? ⟨b, o + 33, none⟩ = false := by
 obtain ⟨h1, h2⟩ := s.ao.cell 33 (by decide)
 refine ⟨?_, h2⟩
 have e : (rc9 k h n)[33]? = some (.int .u64 n) := by
  unfold rc9
  rw [List.getElem?_cons_succ, List.getElem?_append_right (by rw [List.length_map, s.bk.len]; decide), List.length_map, s.bk.len]
  rfl
 rw [h1, ← e, List.getElem?_eq_getElem]
set_option maxRecDepth 8000 in
theorem Cy.byte (s : Cy u b o k h n) (i : Nat) (hi : i < 32) : ∃ x, u.cell? ⟨b, o + 1 + i, none⟩ = some (.int .u8 x) ∧ u.frozen? ⟨b, o + 1 + i, none⟩ = false := by
 obtain ⟨h1, h2⟩ := s.ao.cell (1 + i) (by omega)
 have hx : i < k.length := by rw [s.bk.len]; exact hi
 rw [← Nat.add_assoc] at h1 h2
 refine ⟨k[i], ?_, h2⟩
 have e : (rc9 k h n)[1 + i]? = some (.int .u8 k[i]) := by
  unfold rc9
  rw [Nat.add_comm, List.getElem?_cons_succ, List.getElem?_append_left (by rw [List.length_map]; exact hx), List.getElem?_map, List.getElem?_eq_getElem hx]
  rfl
 rw [h1, ← e, List.getElem?_eq_getElem]
set_option maxRecDepth 8000 in
theorem Cy.setN (s : Cy u b o k h n) {n' : Int} (hn : 0 ≤ n' ∧ n' < 18446744073709551616) : Cy (u.setCell ⟨b, o + 33, none⟩ (.int .u64 n')) b o k h n' :=
 ⟨by rw [← rc9_nonce s.bk.len n']; exact s.ao.set 33 (by decide) _, s.bk, hn⟩
set_option maxRecDepth 8000 in
theorem Cy.setHas (s : Cy u b o k h n) (h' : Bool) : Cy (u.setCell ⟨b, o, none⟩ (.bool h')) b o k h' n :=
 ⟨by rw [← rc9_has (h := h) h']; exact s.ao.set 0 (by decide) _, s.bk, s.wn⟩
set_option maxRecDepth 8000 in
theorem Cy.setKey (s : Cy u b o k h n) {k' : List Int} (hk : Bn 32 k') : Cy (u.setCells b (o + 1) (List.map (Value.int .u8) k')) b o k' h n :=
 ⟨by rw [← rc9_key s.bk.len hk.len (k := k)]; exact s.ao.part 1 _ (by rw [hk.map_len]; decide), hk, s.wn⟩
set_option maxRecDepth 8000 in
theorem Cy.setOne (s : Cy u b o k h n) (i : Nat) (hi : i < 32) {x : Int} (hx : 0 ≤ x ∧ x ≤ 255) : Cy (u.setCell ⟨b, o + 1 + i, none⟩ (.int .u8 x)) b o (k.set i x) h n :=
 ⟨by rw [← rc9_one i (by rw [s.bk.len]; exact hi) x, Nat.add_assoc]; exact s.ao.set (1 + i) (by omega) _, ⟨by rw [List.length_set, s.bk.len], fun y hy => by
  rcases List.mem_or_eq_of_mem_set hy with h | h
  ·exact s.bk.byt y h
  ·rw [h]; exact hx⟩, s.wn⟩
end
end Go.Proofs.YtmibjgkakolhiaaGreatDoor
/-
 The reference's Symm in memory: the cipher, the hash, the chain key. No statement of the seat is proved here.
-/
namespace Go.Proofs.YtmibjgkakolhiaaGreatDoor
open Go.RowKit

/-- The Symm in block b: the cipher's key k (h: whether it has one) and nonce n, the hash H, the chain key C. -/
structure Ny (u : World) (b : Nat) (k : List Int) (h : Bool) (n : Int) (H C : List Int) : Prop where
 cy : Cy u b 0 k h n
 ho : Ao u b 34 32 (List.map (Value.int .u8) H)
 co : Ao u b 66 32 (List.map (Value.int .u8) C)
 bh : Bn 32 H
 bc : Bn 32 C
section
variable {u u' : World} {b : Nat} {k : List Int} {h : Bool} {n : Int} {H C : List Int}
set_option maxRecDepth 8000 in
theorem Ny.later (s : Ny u b k h n H C) (hb : Below u.heap.size u u') : Ny u' b k h n H C := ⟨s.cy.later hb, s.ho.later hb, s.co.later hb, s.bh, s.bc⟩
set_option maxRecDepth 8000 in
theorem Ny.extb {bo : Nat} (s : Ny u b k h n H C) (hb : ExtB bo u u') (hne : b ≠ bo) : Ny u' b k h n H C := ⟨s.cy.extb hb hne, s.ho.extb hb hne, s.co.extb hb hne, s.bh, s.bc⟩
set_option maxRecDepth 8000 in
theorem Ny.drew (s : Ny u b k h n H C) : Ny u.drew b k h n H C := ⟨s.cy.drew, s.ho.drew, s.co.drew, s.bh, s.bc⟩
set_option maxRecDepth 8000 in
theorem Ny.lt (s : Ny u b k h n H C) : b < u.heap.size := s.cy.lt
set_option maxRecDepth 8000 in
theorem Ny.rdH (s : Ny u b k h n H C) : Rd u (some ⟨b, 34, none⟩) 32 32 H := s.ho.rd32 s.bh
set_option maxRecDepth 8000 in
theorem Ny.cip (s : Ny u b k h n H C) {k' : List Int} {h' : Bool} {n' : Int} (t : Cy u' b 0 k' h' n') (hb : ExtR b 0 34 u u') : Ny u' b k' h' n' H C :=
 ⟨t, s.ho.extr hb (by omega), s.co.extr hb (by omega), s.bh, s.bc⟩
set_option maxRecDepth 8000 in
theorem Ny.setH (s : Ny u b k h n H C) {H' : List Int} (hh : Bn 32 H') : Ny (u.setCells b 34 (List.map (Value.int .u8) H')) b k h n H' C := by
 have hx : ExtR b 34 32 u (u.setCells b 34 (List.map (Value.int .u8) H')) := ExtR.cells _ _ (ExtR.refl _ _ _ _) (Nat.le_refl _) (by rw [hh.map_len]; omega)
 exact ⟨s.cy.extr hx (by omega), Ao.all_set s.ho.all hh.map_len, s.co.extr hx (by omega), hh, s.bc⟩
set_option maxRecDepth 8000 in
theorem Ny.setC (s : Ny u b k h n H C) {C' : List Int} (hc : Bn 32 C') : Ny (u.setCells b 66 (List.map (Value.int .u8) C')) b k h n H C' := by
 have hx : ExtR b 66 32 u (u.setCells b 66 (List.map (Value.int .u8) C')) := ExtR.cells _ _ (ExtR.refl _ _ _ _) (Nat.le_refl _) (by rw [hc.map_len]; omega)
 exact ⟨s.cy.extr hx (by omega), s.ho.extr hx (by omega), Ao.all_set s.co.all hc.map_len, s.bh, hc⟩
set_option maxRecDepth 8000 in
/-- One byte of the hash. -/
theorem Ny.setOne (s : Ny u b k h n H C) (i : Nat) (hi : i < 32) {x : Int} (hx : 0 ≤ x ∧ x ≤ 255) : Ny (u.setCell ⟨b, 34 + i, none⟩ (.int .u8 x)) b k h n (H.set i x) C := by
 have hr : ExtR b 34 32 u (u.setCell ⟨b, 34 + i, none⟩ (.int .u8 x)) := (ExtR.refl _ _ _ _).set _ (by omega) (by omega) _
 exact ⟨s.cy.extr hr (by omega), by rw [List.map_set]; exact s.ho.set i hi _, s.co.extr hr (by omega), ⟨by rw [List.length_set, s.bh.len], fun y hy => by
  rcases List.mem_or_eq_of_mem_set hy with h | h
  ·exact s.bh.byt y h
  ·rw [h]; exact hx⟩, s.bc⟩
set_option maxRecDepth 8000 in
/-- Where bytes lie from 0 on there is no Symm: it has a truth value there. -/
theorem Ny.far (s : Ny u b k h n H C) {g : Nat} {B : List Int} (hB : Bn 32 B) (hr : u.rangeAt g 0 (List.map (Value.int .u8) B)) : g ≠ b := fun e => by
 subst e
 obtain ⟨x, r, rfl⟩ : ∃ x r, B = x :: r := by
  cases B with
  | nil => exact absurd hB.len (by decide)
  | cons x r => exact ⟨x, r, rfl⟩
 have h1 := hr 0 (.int .u8 x) rfl
 have h2 := s.cy.has.1
 rw [Nat.add_zero] at h1
 rw [h1] at h2
 cases h2
end
/-- A Symm's cells. -/
def rc10 (k : List Int) (h : Bool) (n : Int) (H C : List Int) : List Value := rc9 k h n ++ (List.map (Value.int .u8) H ++ List.map (Value.int .u8) C)
set_option maxRecDepth 8000 in
theorem rc10_len {k H C : List Int} {h : Bool} {n : Int} (hk : Bn 32 k) (hh : Bn 32 H) (hc : Bn 32 C) : (rc10 k h n H C).length = 98 := by
 unfold rc10
 rw [List.length_append, List.length_append, hh.map_len, hc.map_len, rc9_len hk.len]
set_option maxRecDepth 8000 in
theorem rc10_oneCell (k : List Int) (h : Bool) (n : Int) (H C : List Int) : ∀ v ∈ rc10 k h n H C, v.oneCell' = true := fun v hv => by
 unfold rc10 at hv
 rcases List.mem_append.1 hv with hv | hv
 ·exact rc9_oneCell k h n v hv
 ·rcases List.mem_append.1 hv with hv | hv
  ·exact bytes_oneCell _ v hv
  ·exact bytes_oneCell _ v hv
set_option maxRecDepth 8000 in
theorem Ny.ofAo {u : World} {b : Nat} {k : List Int} {h : Bool} {n : Int} {H C : List Int} (a : Ao u b 0 98 (rc10 k h n H C)) (hk : Bn 32 k) (hn : 0 ≤ n ∧ n < 18446744073709551616) (hh : Bn 32 H) (hc : Bn 32 C) : Ny u b k h n H C := by
 obtain ⟨h1, h2, h3⟩ := Ao.three (rc9_len hk.len) hh.map_len hc.map_len a
 rw [Nat.zero_add] at h2 h3
 exact ⟨⟨h1, hk, hn⟩, h2, h3, hh, hc⟩
set_option maxRecDepth 8000 in
theorem Ny.ao {u : World} {b : Nat} {k : List Int} {h : Bool} {n : Int} {H C : List Int} (s : Ny u b k h n H C) : Ao u b 0 98 (rc10 k h n H C) :=
 Ao.join3 s.cy.ao (by rw [Nat.zero_add]; exact s.ho) (by rw [Nat.zero_add]; exact s.co)
set_option maxRecDepth 8000 in
theorem ny_new (u : World) (t : TypeId) : Ny (u.alloc (.cells (rc10 z9l false 0 z9l z9l).toArray t)) u.heap.size z9l false 0 z9l z9l :=
 Ny.ofAo (ar_box u _ 98 (rc10_len z9l_bn z9l_bn z9l_bn) t).ao z9l_bn (by decide) z9l_bn z9l_bn
end Go.Proofs.YtmibjgkakolhiaaGreatDoor
