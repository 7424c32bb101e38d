/-
  Several texts of one's own, laid together. No statement of the seat is proved here.
-/
import Derived.Test.YtmibjgkakolhiaaDoorPk19
import Derived.Test.YtmibjgkakolhiaaDoorKFr
import Derived.Test.YtmibjgkakolhiaaDoorKGen
/-
  A cipher's State at a place in a greater block (where it is embedded). No statement of the seat is proved here.
-/
namespace Go.Proofs.YtmibjgkakolhiaaDoor
open Go.RowKit

/-- The State at o in block b has the key k (h: whether it has one), and n is the nonce of the next box. -/
structure Sy (u : World) (b o : Nat) (k : List Int) (h : Bool) (n : Int) : Prop where
  ao : Ao u b o 34 (sc9 k h n)
  bk : Bn 32 k
  wn : 0 ≤ n ∧ n < 18446744073709551616
set_option maxRecDepth 8000 in
theorem Sx.sy {u : World} {b : Nat} {k : List Int} {h : Bool} {n : Int} (s : Sx u b k h n) : Sy u b 0 k h n := ⟨s.ar.ao, s.bk, s.wn⟩
set_option maxRecDepth 8000 in
theorem Sy.sx {u : World} {b : Nat} {k : List Int} {h : Bool} {n : Int} (s : Sy u b 0 k h n) : Sx u b k h n := ⟨s.ao.ar, s.bk, s.wn⟩
section
variable {u u' : World} {b o : Nat} {k : List Int} {h : Bool} {n : Int}
set_option maxRecDepth 8000 in
theorem Sy.later (s : Sy u b o k h n) (hb : Below u.heap.size u u') : Sy u' b o k h n := ⟨s.ao.later hb, s.bk, s.wn⟩
set_option maxRecDepth 8000 in
theorem Sy.extb {bo : Nat} (s : Sy u b o k h n) (hb : ExtB bo u u') (hne : b ≠ bo) : Sy u' b o k h n := ⟨s.ao.extb hb hne, s.bk, s.wn⟩
set_option maxRecDepth 8000 in
theorem Sy.extr {p m : Nat} (s : Sy u b o k h n) (hb : ExtR b p m u u') (hp : o + 34 ≤ p ∨ p + m ≤ o) : Sy u' b o k h n := ⟨s.ao.extr hb hp, s.bk, s.wn⟩
set_option maxRecDepth 8000 in
theorem Sy.drew (s : Sy u b o k h n) : Sy u.drew b o k h n := ⟨s.ao.drew, s.bk, s.wn⟩
set_option maxRecDepth 8000 in
theorem Sy.else (s : Sy u b o k h n) (c i : Nat) (hc : b ≠ c) (v : Value) : Sy (u.setCell ⟨c, i, none⟩ v) b o k h n := ⟨s.ao.else c i hc v, s.bk, s.wn⟩
set_option maxRecDepth 8000 in
theorem Sy.lt (s : Sy u b o k h n) : b < u.heap.size := s.ao.lt (by decide)
set_option maxRecDepth 8000 in
theorem Sy.key (s : Sy u b o k h n) : u.rangeAt b o (List.map (Value.int .u8) k) := by
  have := (s.ao.sub 0 32 (by decide)).rng
  rwa [sc9_take s.bk.len, Nat.add_zero] at this
set_option maxRecDepth 8000 in
theorem Sy.keyThere (s : Sy u b o k h n) : u.there b o 32 := by
  have := (s.ao.sub 0 32 (by decide)).all
  rwa [Nat.add_zero] at this
set_option maxRecDepth 8000 in
theorem Sy.has (s : Sy u b o k h n) : u.cell? ⟨b, o + 32, none⟩ = some (.bool h) ∧ u.frozen? ⟨b, o + 32, none⟩ = false := by
  obtain ⟨h1, h2⟩ := s.ao.cell 32 (by decide)
  refine ⟨?_, h2⟩
  have e : (sc9 k h n)[32]? = some (.bool h) := by
    unfold sc9
    rw [List.getElem?_append_right (by rw [List.length_map, s.bk.len]; exact Nat.le_refl _), List.length_map, s.bk.len]
    rfl
  rw [h1, ← e, List.getElem?_eq_getElem]
set_option maxRecDepth 8000 in
theorem Sy.nonce (s : Sy u b o k h n) : u.cell? ⟨b, o + 33, none⟩ = some (.int .u64 n) ∧ u.frozen? ⟨b, o + 33, none⟩ = false := by
  obtain ⟨h1, h2⟩ := s.ao.cell 33 (by decide)
  refine ⟨?_, h2⟩
  have e : (sc9 k h n)[33]? = some (.int .u64 n) := by
    unfold sc9
    rw [List.getElem?_append_right (by rw [List.length_map, s.bk.len]; decide), List.length_map, s.bk.len]
    rfl
  rw [h1, ← e, List.getElem?_eq_getElem]
set_option maxRecDepth 8000 in
theorem Sy.setN (s : Sy u b o k h n) {n' : Int} (hn : 0 ≤ n' ∧ n' < 18446744073709551616) : Sy (u.setCell ⟨b, o + 33, none⟩ (.int .u64 n')) b o k h n' :=
  ⟨by rw [← sc9_nonce s.bk.len n']; exact s.ao.set 33 (by decide) _, s.bk, hn⟩
set_option maxRecDepth 8000 in
theorem Sy.setKey (s : Sy u b o k h n) {k' : List Int} (hk : Bn 32 k') : Sy (u.setCells b o (List.map (Value.int .u8) k')) b o k' h n :=
  ⟨by
    have := s.ao.part 0 (List.map (Value.int .u8) k') (by rw [hk.map_len]; decide)
    rwa [Nat.add_zero, sc9_key s.bk.len hk.len] at this, hk, s.wn⟩
set_option maxRecDepth 8000 in
theorem Sy.setAll (s : Sy u b o k h n) {k' : List Int} (hk : Bn 32 k') (h' : Bool) {n' : Int} (hn : 0 ≤ n' ∧ n' < 18446744073709551616) : Sy (u.setCells b o (sc9 k' h' n')) b o k' h' n' :=
  ⟨Ao.all_set s.ao.all (sc9_len hk.len), hk, hn⟩
end
end Go.Proofs.YtmibjgkakolhiaaDoor
/-
  Where an answer lies: in new memory, or not in a block. No statement of the seat is proved here.
-/
namespace Go.Proofs.YtmibjgkakolhiaaDoor
open Go.RowKit

set_option maxRecDepth 8000 in
theorem extb_of {b : Nat} {w w' : World} (h : Below w.heap.size w w') : ExtB b w w' := ⟨h.os, h.tape, h.output, h.size, fun i hi _ => h.block i hi⟩
/-- Where it is not empty it lies at or behind block q. -/
def Fr (q : Nat) (a : Option Addr) (m : Nat) : Prop := 0 < m → ∀ p, a = some p → q ≤ p.block
/-- Where it is not empty it does not lie in block q. -/
def Nq (q : Nat) (a : Option Addr) (m : Nat) : Prop := 0 < m → ∀ p, a = some p → p.block ≠ q
set_option maxRecDepth 8000 in
theorem Fr.nq {q r m : Nat} {a : Option Addr} (h : Fr q a m) (hr : r < q) : Nq r a m := fun h0 p hp => by have := h h0 p hp; omega
set_option maxRecDepth 8000 in
theorem Fr.mono {q r m : Nat} {a : Option Addr} (h : Fr q a m) (hr : r ≤ q) : Fr r a m := fun h0 p hp => Nat.le_trans hr (h h0 p hp)
set_option maxRecDepth 8000 in
theorem fr_at {q g o m : Nat} (h : q ≤ g) : Fr q (some ⟨g, o, none⟩) m := fun _ p hp => by cases hp; exact h
set_option maxRecDepth 8000 in
theorem fr_nil {q : Nat} {a : Option Addr} : Fr q a 0 := fun h => absurd h (by decide)
set_option maxRecDepth 8000 in
theorem nq_nil {q : Nat} {a : Option Addr} : Nq q a 0 := fun h => absurd h (by decide)
set_option maxRecDepth 8000 in
theorem nq_at {q g o m : Nat} (h : g ≠ q) : Nq q (some ⟨g, o, none⟩) m := fun _ p hp => by cases hp; exact h
set_option maxRecDepth 8000 in
theorem fr_owns {w : World} {base n c : Nat} {a : Option Addr} {xs : List Value} (h : w.ownsRow base 5 1 (.slice a n c) n xs) : Fr base a n := fun hn p hp => by
  rcases h.2 with ⟨_, rfl⟩ | ⟨g, cap', cur, hv, hg, hh, _⟩
  · omega
  · cases hv
    cases hp
    exact hg
set_option maxRecDepth 8000 in
/-- What could be read ahead lies in no block that is new. -/
theorem Rd.nqNew {w : World} {a : Option Addr} {len cap q : Nat} {l : List Int} (h : Rd w a len cap l) (hq : w.heap.size ≤ q) : Nq q a len := fun h0 p hp => by
  obtain ⟨b, off, ha, hc⟩ := h.cell h0
  rw [ha] at hp
  cases hp
  have := World.block_lt_of_cell? w _ (hc 0 h0)
  dsimp only at this ⊢
  omega
set_option maxRecDepth 8000 in
theorem Rd.nq {w w' : World} {a : Option Addr} {len cap q : Nat} {l : List Int} (h : Rd w a len cap l) (hb : ExtB q w w') (hne : Nq q a len) : Rd w' a len cap l :=
  ⟨h.hlen, h.hle, h.hnil, h.byt, fun h0 => by
    obtain ⟨b, off, ha, hc⟩ := h.cell h0
    exact ⟨b, off, ha, fun i hi => hb.cell (hne h0 _ ha) (hc i hi)⟩⟩
end Go.Proofs.YtmibjgkakolhiaaDoor
