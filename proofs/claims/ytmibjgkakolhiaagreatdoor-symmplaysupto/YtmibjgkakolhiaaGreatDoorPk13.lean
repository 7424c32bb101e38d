/-
  Several texts of one's own, laid together. No statement of the seat is proved here.
-/
import Derived.Test.YtmibjgkakolhiaaGreatDoorPk3
import Derived.Test.YtmibjgkakolhiaaGreatDoorPk12
import Derived.Test.YtmibjgkakolhiaaGreatDoorPk10
/-
 Worlds in which nothing has turned but a part of one block. No statement of the seat is proved here.
-/
namespace Go.Proofs.YtmibjgkakolhiaaGreatDoor
open Go.RowKit

/-- Nothing that was there has turned, but for the cells o .. o + n of the block b. -/
structure ExtR (b o n : Nat) (w w' : World) : Prop where
 ext : ExtB b w w'
 cell : ∀ i, i < o ∨ o + n ≤ i → w'.cell? ⟨b, i, none⟩ = w.cell? ⟨b, i, none⟩
 froz : ∀ i, i < o ∨ o + n ≤ i → w'.frozen? ⟨b, i, none⟩ = w.frozen? ⟨b, i, none⟩
section
variable {b o n : Nat} {a u v : World}
set_option maxRecDepth 8000 in
theorem ExtR.refl (b o n : Nat) (w : World) : ExtR b o n w w := ⟨ExtB.refl b w, fun _ _ => rfl, fun _ _ => rfl⟩
set_option maxRecDepth 8000 in
theorem ExtR.trans (h : ExtR b o n a u) (hb : b < u.heap.size) (k : Below u.heap.size u v) : ExtR b o n a v :=
 ⟨h.ext.trans k, fun i hi => (World.cell?_of_block (k.block b hb)).trans (h.cell i hi), fun i hi => (World.frozen?_of_block (k.block b hb)).trans (h.froz i hi)⟩
set_option maxRecDepth 8000 in
theorem ExtR.of (k : Below a.heap.size a u) (hb : b < a.heap.size) : ExtR b o n a u := (ExtR.refl b o n a).trans hb k
set_option maxRecDepth 8000 in
theorem ExtR.comp (h : ExtR b o n a u) (k : ExtR b o n u v) : ExtR b o n a v :=
 ⟨h.ext.comp k.ext, fun i hi => (k.cell i hi).trans (h.cell i hi), fun i hi => (k.froz i hi).trans (h.froz i hi)⟩
set_option maxRecDepth 8000 in
theorem ExtR.set (h : ExtR b o n a u) (i : Nat) (h1 : o ≤ i) (h2 : i < o + n) (x : Value) : ExtR b o n a (u.setCell ⟨b, i, none⟩ x) :=
 ⟨h.ext.set i x, fun j hj => by rw [World.cell?_setCell_other _ _ _ _ (by simp <;> omega)]; exact h.cell j hj, fun j hj => by rw [← h.froz j hj]; simp⟩
set_option maxRecDepth 8000 in
theorem ExtR.cells : ∀ (vs : List Value) (i : Nat) {u : World}, ExtR b o n a u → o ≤ i → i + vs.length ≤ o + n → ExtR b o n a (u.setCells b i vs)
 | [], _, _, h, _, _ => h
 | x :: vs, i, _, h, h1, h2 => by
  rw [List.length_cons] at h2
  exact ExtR.cells vs (i + 1) (h.set i h1 (by omega) x) (by omega) (by omega)
set_option maxRecDepth 8000 in
theorem ExtR.drew (h : ExtR b o n a u) : ExtR b o n a u.drew := ⟨h.ext.drew, h.cell, h.froz⟩
set_option maxRecDepth 8000 in
theorem ExtR.range (h : ExtR b o n a u) {p : Nat} {cs : List Value} (hr : a.rangeAt b p cs) (hp : p + cs.length ≤ o ∨ o + n ≤ p) : u.rangeAt b p cs := fun j x hx => by
 have hj := (List.getElem?_eq_some_iff.1 hx).1
 rw [h.cell (p + j) (by omega)]
 exact hr j x hx
set_option maxRecDepth 8000 in
theorem ExtR.there (h : ExtR b o n a u) {p m : Nat} (hr : a.there b p m) (hp : p + m ≤ o ∨ o + n ≤ p) : u.there b p m := fun j hj => by
 rw [h.cell (p + j) (by omega), h.froz (p + j) (by omega)]
 exact hr j hj
set_option maxRecDepth 8000 in
theorem ExtR.wider (h : ExtR b o n a u) {p m : Nat} (h1 : p ≤ o) (h2 : o + n ≤ p + m) : ExtR b p m a u := ⟨h.ext, fun i hi => h.cell i (by omega), fun i hi => h.froz i (by omega)⟩
end
/-- An array at a place in a block: its cells, and that they are there. -/
structure Ao (u : World) (b o n : Nat) (cs : List Value) : Prop where
 rng : u.rangeAt b o cs
 all : u.there b o n
 len : cs.length = n
section
variable {u u' : World} {b o n : Nat} {cs : List Value}
set_option maxRecDepth 8000 in
theorem Ao.later (h : Ao u b o n cs) (hb : Below u.heap.size u u') : Ao u' b o n cs := ⟨range_later hb h.rng, there_later hb h.all, h.len⟩
set_option maxRecDepth 8000 in
theorem Ao.extb {c : Nat} (h : Ao u b o n cs) (hb : ExtB c u u') (hne : b ≠ c) : Ao u' b o n cs := ⟨fun j v hv => hb.cell hne (h.rng j v hv), there_extb hb hne h.all, h.len⟩
set_option maxRecDepth 8000 in
theorem Ao.drew (h : Ao u b o n cs) : Ao u.drew b o n cs := ⟨h.rng, h.all, h.len⟩
set_option maxRecDepth 8000 in
theorem Ao.cell (h : Ao u b o n cs) (i : Nat) (hi : i < n) : u.cell? ⟨b, o + i, none⟩ = some (cs[i]'(by rw [h.len]; exact hi)) ∧ u.frozen? ⟨b, o + i, none⟩ = false :=
 ⟨h.rng i _ (List.getElem?_eq_getElem (by rw [h.len]; exact hi)), (h.all i hi).2⟩
set_option maxRecDepth 8000 in
theorem Ao.lt (h : Ao u b o n cs) (hn : 0 < n) : b < u.heap.size := World.block_lt_of_cell? u _ (h.cell 0 hn).1
set_option maxRecDepth 8000 in
theorem Ao.set (h : Ao u b o n cs) (i : Nat) (hi : i < n) (v : Value) : Ao (u.setCell ⟨b, o + i, none⟩ v) b o n (cs.set i v) :=
 ⟨fun j x hx => by
  by_cases hj : j = i
  ·subst hj
   rw [List.getElem?_set_self (by rw [h.len]; exact hi)] at hx
   rw [World.cell?_setCell_same _ _ _ (h.cell j hi).1]
   exact hx
  ·rw [List.getElem?_set_ne (fun e => hj e.symm)] at hx
   rw [World.cell?_setCell_other _ _ _ _ (by simp <;> omega)]
   exact h.rng j x hx, there_set h.all _ _ _, by rw [List.length_set, h.len]⟩
set_option maxRecDepth 8000 in
theorem Ao.else (h : Ao u b o n cs) (c i : Nat) (hc : b ≠ c) (v : Value) : Ao (u.setCell ⟨c, i, none⟩ v) b o n cs := ⟨range_else h.rng hc v, there_set h.all _ _ _, h.len⟩
set_option maxRecDepth 8000 in
theorem Ao.all_set (ht : u.there b o n) (hl : cs.length = n) : Ao (u.setCells b o cs) b o n cs :=
 ⟨World.rangeAt_setCells_same _ _ _ _ (by rw [hl]; exact ht), World.there_setCells ht _ _ _, hl⟩
set_option maxRecDepth 8000 in
theorem Ao.extr {p m : Nat} (h : Ao u b o n cs) (hb : ExtR b p m u u') (hp : o + n ≤ p ∨ p + m ≤ o) : Ao u' b o n cs :=
 ⟨hb.range h.rng (by rw [h.len]; exact hp), hb.there h.all hp, h.len⟩
set_option maxRecDepth 8000 in
/-- A part of it. -/
theorem Ao.sub (h : Ao u b o n cs) (i m : Nat) (hi : i + m ≤ n) : Ao u b (o + i) m ((cs.drop i).take m) :=
 ⟨range_sub h.rng i m, fun j hj => by have := h.all (i + j) (by omega); rwa [← Nat.add_assoc] at this, by rw [List.length_take, List.length_drop, h.len]; omega⟩
set_option maxRecDepth 8000 in
theorem Ao.part (h : Ao u b o n cs) (i : Nat) (vs : List Value) (hv : i + vs.length ≤ n) : Ao (u.setCells b (o + i) vs) b o n (cs.take i ++ (vs ++ cs.drop (i + vs.length))) := by
 have hl := h.len
 refine ⟨?_, World.there_setCells h.all _ _ _, by simp; omega⟩
 have h1 : (cs.take i).length = i := by rw [List.length_take]; omega
 refine range_app ?_ ?_
 ·have := World.rangeAt_setCells_apart (range_sub h.rng 0 i) b (o + i) vs (.inr (.inl (by simp; omega)))
  simpa using this
 ·rw [h1]
  refine range_app (World.rangeAt_setCells_same _ _ _ _ (fun j hj => by have := h.all (i + j) (by omega); rwa [← Nat.add_assoc] at this)) ?_
  have := World.rangeAt_setCells_apart (range_sub h.rng (i + vs.length) (n - (i + vs.length))) b (o + i) vs (.inr (.inr (by omega)))
  rw [List.take_of_length_le (by simp; omega), ← Nat.add_assoc] at this
  exact this
end
set_option maxRecDepth 8000 in
theorem Ar.ao {u : World} {b n : Nat} {cs : List Value} (h : Ar u b n cs) : Ao u b 0 n cs := ⟨h.rng, h.all, h.len⟩
set_option maxRecDepth 8000 in
theorem Ao.ar {u : World} {b n : Nat} {cs : List Value} (h : Ao u b 0 n cs) : Ar u b n cs := ⟨h.rng, h.all, h.len⟩
end Go.Proofs.YtmibjgkakolhiaaGreatDoor
/-
 A cipher's State at a place in a greater block (where it is embedded). No statement of the seat is proved here.
-/
namespace Go.Proofs.YtmibjgkakolhiaaGreatDoor
open Go.RowKit

/-- The State at o in block b has the key k (h: whether it has one), and n is the nonce of the next box. -/
structure Sy (u : World) (b o : Nat) (k : List Int) (h : Bool) (n : Int) : Prop where
 ao : Ao u b o 34 (sc9 k h n)
 bk : Bn 32 k
 wn : 0 ≤ n ∧ n < 18446744073709551616
set_option maxRecDepth 8000 in
theorem Sx.sy {u : World} {b : Nat} {k : List Int} {h : Bool} {n : Int} (s : Sx u b k h n) : Sy u b 0 k h n := ⟨s.ar.ao, s.bk, s.wn⟩
set_option maxRecDepth 8000 in
theorem Sy.sx {u : World} {b : Nat} {k : List Int} {h : Bool} {n : Int} (s : Sy u b 0 k h n) : Sx u b k h n := ⟨s.ao.ar, s.bk, s.wn⟩
section
variable {u u' : World} {b o : Nat} {k : List Int} {h : Bool} {n : Int}
set_option maxRecDepth 8000 in
theorem Sy.later (s : Sy u b o k h n) (hb : Below u.heap.size u u') : Sy u' b o k h n := ⟨s.ao.later hb, s.bk, s.wn⟩
set_option maxRecDepth 8000 in
theorem Sy.extb {bo : Nat} (s : Sy u b o k h n) (hb : ExtB bo u u') (hne : b ≠ bo) : Sy u' b o k h n := ⟨s.ao.extb hb hne, s.bk, s.wn⟩
set_option maxRecDepth 8000 in
theorem Sy.extr {p m : Nat} (s : Sy u b o k h n) (hb : ExtR b p m u u') (hp : o + 34 ≤ p ∨ p + m ≤ o) : Sy u' b o k h n := ⟨s.ao.extr hb hp, s.bk, s.wn⟩
set_option maxRecDepth 8000 in
theorem Sy.drew (s : Sy u b o k h n) : Sy u.drew b o k h n := ⟨s.ao.drew, s.bk, s.wn⟩
set_option maxRecDepth 8000 in
theorem Sy.else (s : Sy u b o k h n) (c i : Nat) (hc : b ≠ c) (v : Value) : Sy (u.setCell ⟨c, i, none⟩ v) b o k h n := ⟨s.ao.else c i hc v, s.bk, s.wn⟩
set_option maxRecDepth 8000 in
theorem Sy.lt (s : Sy u b o k h n) : b < u.heap.size := s.ao.lt (by decide)
set_option maxRecDepth 8000 in
theorem Sy.key (s : Sy u b o k h n) : u.rangeAt b o (List.map (Value.int .u8) k) := by
 have := (s.ao.sub 0 32 (by decide)).rng
 rwa [sc9_take s.bk.len, Nat.add_zero] at this
set_option maxRecDepth 8000 in
theorem Sy.keyThere (s : Sy u b o k h n) : u.there b o 32 := by
 have := (s.ao.sub 0 32 (by decide)).all
 rwa [Nat.add_zero] at this
set_option maxRecDepth 8000 in
theorem Sy.has (s : Sy u b o k h n) : u.cell? ⟨b, o + 32, none⟩ = some (.bool h) ∧ u.frozen? ⟨b, o + 32, none⟩ = false := by
 obtain ⟨h1, h2⟩ := s.ao.cell 32 (by decide)
 refine ⟨?_, h2⟩
 have e : (sc9 k h n)[32]? = some (.bool h) := by
  unfold sc9
  rw [List.getElem?_append_right (by rw [List.length_map, s.bk.len]; exact Nat.le_refl _), List.length_map, s.bk.len]
  rfl
 rw [h1, ← e, List.getElem?_eq_getElem]
set_option maxRecDepth 8000 in
theorem Sy.nonce (s : Sy u b o k h n) : u.cell? ⟨b, o + 33, none⟩ = some (.int .u64 n) ∧ u.frozen? ⟨b, o + 33, none⟩ = false := by
 obtain ⟨h1, h2⟩ := s.ao.cell 33 (by decide)
 refine ⟨?_, h2⟩
 have e : (sc9 k h n)[33]? = some (.int .u64 n) := by
  unfold sc9
  rw [List.getElem?_append_right (by rw [List.length_map, s.bk.len]; decide), List.length_map, s.bk.len]
  rfl
 rw [h1, ← e, List.getElem?_eq_getElem]
set_option maxRecDepth 8000 in
theorem Sy.setN (s : Sy u b o k h n) {n' : Int} (hn : 0 ≤ n' ∧ n' < 18446744073709551616) : Sy (u.setCell ⟨b, o + 33, none⟩ (.int .u64 n')) b o k h n' :=
 ⟨by rw [← sc9_nonce s.bk.len n']; exact s.ao.set 33 (by decide) _, s.bk, hn⟩
set_option maxRecDepth 8000 in
theorem Sy.setKey (s : Sy u b o k h n) {k' : List Int} (hk : Bn 32 k') : Sy (u.setCells b o (List.map (Value.int .u8) k')) b o k' h n :=
 ⟨by
  have := s.ao.part 0 (List.map (Value.int .u8) k') (by rw [hk.map_len]; decide)
  rwa [Nat.add_zero, sc9_key s.bk.len hk.len] at this, hk, s.wn⟩
set_option maxRecDepth 8000 in
theorem Sy.setAll (s : Sy u b o k h n) {k' : List Int} (hk : Bn 32 k') (h' : Bool) {n' : Int} (hn : 0 ≤ n' ∧ n' < 18446744073709551616) : Sy (u.setCells b o (sc9 k' h' n')) b o k' h' n' :=
 ⟨Ao.all_set s.ao.all (sc9_len hk.len), hk, hn⟩
end
end Go.Proofs.YtmibjgkakolhiaaGreatDoor
/-
 Where an answer lies: in new memory, or not in a block. No statement of the seat is proved here.
-/
namespace Go.Proofs.YtmibjgkakolhiaaGreatDoor
open Go.RowKit

set_option maxRecDepth 8000 in
theorem extb_of {b : Nat} {w w' : World} (h : Below w.heap.size w w') : ExtB b w w' := ⟨h.os, h.tape, h.output, h.size, fun i hi _ => h.block i hi⟩
/-- Where it is not empty it lies at or behind block q. -/
def Fr (q : Nat) (a : Option Addr) (m : Nat) : Prop := 0 < m → ∀ p, a = some p → q ≤ p.block
/-- Where it is not empty it does not lie in block q. -/
def Nq (q : Nat) (a : Option Addr) (m : Nat) : Prop := 0 < m → ∀ p, a = some p → p.block ≠ q
set_option maxRecDepth 8000 in
theorem Fr.nq {q r m : Nat} {a : Option Addr} (h : Fr q a m) (hr : r < q) : Nq r a m := fun h0 p hp => by have := h h0 p hp; omega
set_option maxRecDepth 8000 in
theorem Fr.mono {q r m : Nat} {a : Option Addr} (h : Fr q a m) (hr : r ≤ q) : Fr r a m := fun h0 p hp => Nat.le_trans hr (h h0 p hp)
set_option maxRecDepth 8000 in
theorem fr_at {q g o m : Nat} (h : q ≤ g) : Fr q (some ⟨g, o, none⟩) m := fun _ p hp => by cases hp; exact h
set_option maxRecDepth 8000 in
theorem fr_nil {q : Nat} {a : Option Addr} : Fr q a 0 := fun h => absurd h (by decide)
set_option maxRecDepth 8000 in
theorem nq_nil {q : Nat} {a : Option Addr} : Nq q a 0 := fun h => absurd h (by decide)
set_option maxRecDepth 8000 in
theorem nq_at {q g o m : Nat} (h : g ≠ q) : Nq q (some ⟨g, o, none⟩) m := fun _ p hp => by cases hp; exact h
set_option maxRecDepth 8000 in
theorem fr_owns {w : World} {base n c : Nat} {a : Option Addr} {xs : List Value} (h : w.ownsRow base 5 1 (.slice a n c) n xs) : Fr base a n := fun hn p hp => by
 rcases h.2 with ⟨_, rfl⟩ | ⟨g, cap', cur, hv, hg, hh, _⟩
 ·omega
 ·cases hv
  cases hp
  exact hg
set_option maxRecDepth 8000 in
/-- What could be read ahead lies in no block that is new. -/
theorem Rd.nqNew {w : World} {a : Option Addr} {len cap q : Nat} {l : List Int} (h : Rd w a len cap l) (hq : w.heap.size ≤ q) : Nq q a len := fun h0 p hp => by
 obtain ⟨b, off, ha, hc⟩ := h.cell h0
 rw [ha] at hp
 cases hp
 have := World.block_lt_of_cell? w _ (hc 0 h0)
 dsimp only at this ⊢
 omega
set_option maxRecDepth 8000 in
theorem Rd.nq {w w' : World} {a : Option Addr} {len cap q : Nat} {l : List Int} (h : Rd w a len cap l) (hb : ExtB q w w') (hne : Nq q a len) : Rd w' a len cap l :=
 ⟨h.hlen, h.hle, h.hnil, h.byt, fun h0 => by
  obtain ⟨b, off, ha, hc⟩ := h.cell h0
  exact ⟨b, off, ha, fun i hi => hb.cell (hne h0 _ ha) (hc i hi)⟩⟩
end Go.Proofs.YtmibjgkakolhiaaGreatDoor
/-
 HMAC over BLAKE2s and the keys that are derived, on lists. No statement of the seat is proved here.
-/
namespace Go.Proofs.YtmibjgkakolhiaaGreatDoor
open Go.RowKit

/-- The key, filled up to a block: its sum where it is longer. -/
def kp8 (key : List Int) : List Int := pad7 (if 64 < key.length then sum7 key else key)
/-- Every byte with this mark. -/
def xm8 (x : Int) (l : List Int) : List Int := l.map fun a => bits .xor .u8 a x
def hm8 (key text : List Int) : List Int := sum7 (xm8 92 (kp8 key) ++ sum7 (xm8 54 (kp8 key) ++ text))
/-- The keys. -/
def dt8 (chain input : List Int) : List Int := hm8 chain input
def da8 (chain input : List Int) : List Int := hm8 (dt8 chain input) [1]
def db8 (chain input : List Int) : List Int := hm8 (dt8 chain input) (da8 chain input ++ [2])
def dc8 (chain input : List Int) : List Int := hm8 (dt8 chain input) (db8 chain input ++ [3])
def dv8 (chain input : List Int) (n : Int) : List (List Int) := if n = 2 then [da8 chain input, db8 chain input] else if n = 3 then [da8 chain input, db8 chain input, dc8 chain input] else []

set_option maxRecDepth 8000 in
theorem hm8_bn (key text : List Int) : Bn 32 (hm8 key text) := sum7_bn _
set_option maxRecDepth 8000 in
theorem kp8_in (key : List Int) : (if 64 < key.length then sum7 key else key).length ≤ 64 := by
 split
 ·rw [(sum7_bn key).len]; decide
 ·omega
set_option maxRecDepth 8000 in
theorem kp8_len (key : List Int) : (kp8 key).length = 64 := pad7_len (kp8_in key)
set_option maxRecDepth 8000 in
theorem kp8_byt {key : List Int} (h : Byt key) : Byt (kp8 key) := by
 unfold kp8 pad7
 refine Byt.app ?_ (byt_zero7 _)
 split
 ·exact (sum7_bn key).byt
 ·exact h
set_option maxRecDepth 8000 in
theorem kp8_bn {key : List Int} (h : Byt key) : Bn 64 (kp8 key) := ⟨kp8_len key, kp8_byt h⟩
set_option maxRecDepth 8000 in
theorem xm8_len (x : Int) (l : List Int) : (xm8 x l).length = l.length := List.length_map _
set_option maxRecDepth 8000 in
theorem xm8_byt {x : Int} (hx : 0 ≤ x ∧ x ≤ 255) {l : List Int} (h : Byt l) : Byt (xm8 x l) := fun y hy => by
 obtain ⟨a, ha, rfl⟩ := List.mem_map.1 hy
 have := xor8 a x (h a ha) hx
 exact ⟨this.1, this.2.1⟩
set_option maxRecDepth 8000 in
theorem xm8_at (x : Int) (l : List Int) (i : Nat) (hi : i < l.length) : (xm8 x l)[i]! = bits .xor .u8 l[i]! x := by
 rw [getElem!_pos _ i (by rw [xm8_len]; exact hi), getElem!_pos l i hi]
 unfold xm8
 rw [List.getElem_map]
set_option maxRecDepth 8000 in
/-- A key that is longer than a block counts as its sum. -/
theorem kp8_long {key : List Int} (h : 64 < key.length) : kp8 (sum7 key) = kp8 key := by
 unfold kp8
 rw [if_pos h, if_neg (by rw [(sum7_bn key).len]; decide)]
set_option maxRecDepth 8000 in
theorem hm8_long {key : List Int} (h : 64 < key.length) (text : List Int) : hm8 (sum7 key) text = hm8 key text := by
 unfold hm8
 rw [kp8_long h]
set_option maxRecDepth 8000 in
/-- Noughts behind a key, up to a block, count for nothing. -/
theorem kp8_zeros (key : List Int) (z : Nat) (h : key.length + z ≤ 64) : kp8 (key ++ List.replicate z 0) = kp8 key := by
 unfold kp8
 rw [if_neg (by rw [List.length_append, List.length_replicate]; omega), if_neg (by omega)]
 unfold pad7
 rw [List.length_append, List.length_replicate, List.append_assoc, List.replicate_append_replicate]
 congr 2
 omega
set_option maxRecDepth 8000 in
theorem hm8_zeros (key : List Int) (z : Nat) (h : key.length + z ≤ 64) (text : List Int) : hm8 (key ++ List.replicate z 0) text = hm8 key text := by
 unfold hm8
 rw [kp8_zeros key z h]
set_option maxRecDepth 8000 in
theorem dv8_len2 (chain input : List Int) : (dv8 chain input 2).length = 2 := rfl
set_option maxRecDepth 8000 in
theorem dv8_len3 (chain input : List Int) : (dv8 chain input 3).length = 3 := rfl
set_option maxRecDepth 8000 in
theorem dv8_bn (chain input : List Int) (n : Int) : ∀ l ∈ dv8 chain input n, Bn 32 l := fun l hl => by
 unfold dv8 at hl
 split at hl
 ·rcases List.mem_cons.1 hl with rfl | hl
  ·exact hm8_bn _ _
  ·rw [List.mem_singleton.1 hl]; exact hm8_bn _ _
 ·split at hl
  ·rcases List.mem_cons.1 hl with rfl | hl
   ·exact hm8_bn _ _
   ·rcases List.mem_cons.1 hl with rfl | hl
    ·exact hm8_bn _ _
    ·rw [List.mem_singleton.1 hl]; exact hm8_bn _ _
  ·cases hl
end Go.Proofs.YtmibjgkakolhiaaGreatDoor
/-
 A handshake's symmetric state in memory: the cipher, the hash, the chain key. No statement of the seat is proved here.
-/
namespace Go.Proofs.YtmibjgkakolhiaaGreatDoor
open Go.RowKit

/-- A name as a hash. -/
def nm10 (l : List Int) : List Int := if l.length ≤ 32 then l ++ List.replicate (32 - l.length) 0 else sum7 l
set_option maxRecDepth 8000 in
theorem nm10_bn {l : List Int} (h : Byt l) : Bn 32 (nm10 l) := by
 unfold nm10
 split
 ·exact ⟨by rw [List.length_append, List.length_replicate]; omega, h.app (fun x hx => by rw [(List.mem_replicate.1 hx).2]; decide)⟩
 ·exact sum7_bn _
/-- The hash behind a box or a text. -/
def h10 (e : Int) (H x : List Int) : List Int := if e = 0 then sum7 (H ++ x) else H
set_option maxRecDepth 8000 in
theorem h10_bn {e : Int} {H x : List Int} (h : Bn 32 H) : Bn 32 (h10 e H x) := by
 unfold h10
 split
 ·exact sum7_bn _
 ·exact h
section
variable {u u' : World} {b o : Nat}
set_option maxRecDepth 8000 in
theorem Ao.three {x y z : List Value} (hx : x.length = 34) (hy : y.length = 32) (hz : z.length = 32) (h : Ao u b o 98 (x ++ (y ++ z))) : Ao u b o 34 x ∧ Ao u b (o + 34) 32 y ∧ Ao u b (o + 66) 32 z := by
 refine ⟨?_, ?_, ?_⟩
 ·have := h.sub 0 34 (by decide)
  rwa [List.drop_zero, List.take_left' hx, Nat.add_zero] at this
 ·have := h.sub 34 32 (by decide)
  rwa [List.drop_left' hx, List.take_left' hy] at this
 ·have := h.sub 66 32 (by decide)
  rwa [← List.append_assoc, List.drop_left' (by rw [List.length_append, hx, hy]), List.take_of_length_le (by rw [hz]; exact Nat.le_refl _)] at this
set_option maxRecDepth 8000 in
theorem Ao.join3 {x y z : List Value} (hx : Ao u b o 34 x) (hy : Ao u b (o + 34) 32 y) (hz : Ao u b (o + 66) 32 z) : Ao u b o 98 (x ++ (y ++ z)) :=
 ⟨range_app hx.rng (by rw [hx.len]; exact range_app hy.rng (by rw [hy.len]; exact hz.rng)), fun j hj => by
  by_cases h1 : j < 34
  ·exact hx.all j h1
  ·by_cases h2 : j < 66
   ·have := hy.all (j - 34) (by omega)
    rwa [show o + 34 + (j - 34) = o + j by omega] at this
   ·have := hz.all (j - 66) (by omega)
    rwa [show o + 66 + (j - 66) = o + j by omega] at this, by rw [List.length_append, List.length_append, hx.len, hy.len, hz.len]⟩
set_option maxRecDepth 8000 in
theorem Ao.rd32 {H : List Int} (h : Ao u b o 32 (List.map (Value.int .u8) H)) (hb : Bn 32 H) : Rd u (some ⟨b, o, none⟩) 32 32 H :=
 ⟨hb.len, Nat.le_refl _, (fun e => by cases e), hb.byt, fun _ => ⟨b, o, rfl, fun j hj => by
  have hj2 : j < H.length := by rw [hb.len]; exact hj
  exact h.rng j _ (by rw [List.getElem?_map, List.getElem?_eq_getElem hj2]; rfl)⟩⟩
end
/-- The State in block b: the cipher's key k (h: whether it has one) and nonce n, the hash H, the chain key C. -/
structure My (u : World) (b : Nat) (k : List Int) (h : Bool) (n : Int) (H C : List Int) : Prop where
 sy : Sy u b 0 k h n
 ho : Ao u b 34 32 (List.map (Value.int .u8) H)
 co : Ao u b 66 32 (List.map (Value.int .u8) C)
 bh : Bn 32 H
 bc : Bn 32 C
section
variable {u u' : World} {b : Nat} {k : List Int} {h : Bool} {n : Int} {H C : List Int}
set_option maxRecDepth 8000 in
theorem My.later (s : My u b k h n H C) (hb : Below u.heap.size u u') : My u' b k h n H C := ⟨s.sy.later hb, s.ho.later hb, s.co.later hb, s.bh, s.bc⟩
set_option maxRecDepth 8000 in
theorem My.extb {bo : Nat} (s : My u b k h n H C) (hb : ExtB bo u u') (hne : b ≠ bo) : My u' b k h n H C := ⟨s.sy.extb hb hne, s.ho.extb hb hne, s.co.extb hb hne, s.bh, s.bc⟩
set_option maxRecDepth 8000 in
theorem My.drew (s : My u b k h n H C) : My u.drew b k h n H C := ⟨s.sy.drew, s.ho.drew, s.co.drew, s.bh, s.bc⟩
set_option maxRecDepth 8000 in
theorem My.lt (s : My u b k h n H C) : b < u.heap.size := s.sy.lt
set_option maxRecDepth 8000 in
theorem My.rdH (s : My u b k h n H C) : Rd u (some ⟨b, 34, none⟩) 32 32 H := s.ho.rd32 s.bh
set_option maxRecDepth 8000 in
theorem My.rdC (s : My u b k h n H C) : Rd u (some ⟨b, 66, none⟩) 32 32 C := s.co.rd32 s.bc
set_option maxRecDepth 8000 in
/-- The cipher alone has turned. -/
theorem My.cip (s : My u b k h n H C) {k' : List Int} {h' : Bool} {n' : Int} (t : Sy u' b 0 k' h' n') (hb : ExtR b 0 34 u u') : My u' b k' h' n' H C :=
 ⟨t, s.ho.extr hb (by omega), s.co.extr hb (by omega), s.bh, s.bc⟩
set_option maxRecDepth 8000 in
theorem My.setH (s : My u b k h n H C) {H' : List Int} (hh : Bn 32 H') : My (u.setCells b 34 (List.map (Value.int .u8) H')) b k h n H' C := by
 have hx : ExtR b 34 32 u (u.setCells b 34 (List.map (Value.int .u8) H')) := ExtR.cells _ _ (ExtR.refl _ _ _ _) (Nat.le_refl _) (by rw [hh.map_len]; omega)
 exact ⟨s.sy.extr hx (by omega), Ao.all_set s.ho.all hh.map_len, s.co.extr hx (by omega), hh, s.bc⟩
set_option maxRecDepth 8000 in
theorem My.setC (s : My u b k h n H C) {C' : List Int} (hc : Bn 32 C') : My (u.setCells b 66 (List.map (Value.int .u8) C')) b k h n H C' := by
 have hx : ExtR b 66 32 u (u.setCells b 66 (List.map (Value.int .u8) C')) := ExtR.cells _ _ (ExtR.refl _ _ _ _) (Nat.le_refl _) (by rw [hc.map_len]; omega)
 exact ⟨s.sy.extr hx (by omega), s.ho.extr hx (by omega), Ao.all_set s.co.all hc.map_len, s.bh, hc⟩
set_option maxRecDepth 8000 in
/-- Where bytes lie from 0 to 63 there is no State: it has a truth value there. -/
theorem My.far (s : My u b k h n H C) {g : Nat} {B : List Int} (hB : Bn 32 B) (hr : u.rangeAt g 32 (List.map (Value.int .u8) B)) : g ≠ b := fun e => by
 subst e
 obtain ⟨x, r, rfl⟩ : ∃ x r, B = x :: r := by
  cases B with
  | nil => exact absurd hB.len (by decide)
  | cons x r => exact ⟨x, r, rfl⟩
 have h1 := hr 0 (.int .u8 x) rfl
 have h2 := s.sy.has.1
 rw [Nat.add_zero] at h1
 rw [Nat.zero_add, h1] at h2
 cases h2
end
/-- The cells of a State that is begun. -/
def nc10 (H : List Int) : List Value := sc9 z9l false 0 ++ (List.map (Value.int .u8) H ++ List.map (Value.int .u8) H)
set_option maxRecDepth 8000 in
theorem nc10_len {H : List Int} (h : Bn 32 H) : (nc10 H).length = 98 := by
 unfold nc10
 rw [List.length_append, List.length_append, h.map_len, sc9_len z9l_bn.len]
set_option maxRecDepth 8000 in
theorem my_new (u : World) (H : List Int) (h : Bn 32 H) (t : TypeId) : My (u.alloc (.cells (nc10 H).toArray t)) u.heap.size z9l false 0 H H := by
 obtain ⟨h1, h2, h3⟩ := Ao.three (sc9_len z9l_bn.len) h.map_len h.map_len (ar_box u (nc10 H) 98 (nc10_len h) t).ao
 rw [Nat.zero_add] at h2 h3
 exact ⟨⟨h1, z9l_bn, by decide⟩, h2, h3, h, h⟩
end Go.Proofs.YtmibjgkakolhiaaGreatDoor
