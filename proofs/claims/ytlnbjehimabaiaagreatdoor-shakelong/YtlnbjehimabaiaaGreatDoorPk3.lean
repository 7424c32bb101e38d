/-
  Several texts of one's own, laid together. No statement of the seat is proved here.
-/
import Derived.Test.YtlnbjehimabaiaaGreatDoorOWord
/-
 Plain laws on slices, arrays and worlds that several chapters use. No statement of the seat is proved here.
-/
namespace Go.Proofs.YtlnbjehimabaiaaGreatDoor
open Go.RowKit
set_option maxRecDepth 8000

theorem leN_w : ∀ (l : List Int), Byt l → 0 ≤ leN l ∧ leN l < 256 ^ l.length
 | [], _ => ⟨by decide, by decide⟩
 | x :: l, h => by
  obtain ⟨h0, h1⟩ := leN_w l (fun y hy => h y (List.mem_cons_of_mem _ hy))
  have hx := h x (by simp)
  rw [leN, List.length_cons, Int.pow_succ]
  omega
theorem Rd.from {w : World} {b off : Nat} {len cap : Nat} {l : List Int} (h : Rd w (some ⟨b, off, none⟩) len cap l) (k : Nat) (hk : k ≤ len) (m c : Nat) (hm : m = len - k) (hc : m ≤ c) : Rd w (some ⟨b, off + k, none⟩) m c (l.drop k) :=
 ⟨by rw [List.length_drop, h.hlen, hm], hc, (fun e => by cases e), h.byt.drop k, fun h0 => by
  obtain ⟨b', off', ha, hcell⟩ := h.cell (by omega)
  cases ha
  refine ⟨b, off + k, rfl, fun i hi => ?_⟩
  rw [Nat.add_assoc, hcell (k + i) (by omega), List.getElem?_drop]⟩
theorem there_extb {bo : Nat} {u u' : World} (hb : ExtB bo u u') {b o n : Nat} (hne : b ≠ bo) (h : u.there b o n) : u'.there b o n := fun j hj => by
 obtain ⟨h1, h2⟩ := h j hj
 obtain ⟨v, hv⟩ := Option.isSome_iff_exists.1 h1
 have e := hb.block b (World.block_lt_of_cell? u _ hv) hne
 refine ⟨by rw [hb.cell hne hv]; rfl, ?_⟩
 rw [← h2]
 exact World.frozen?_of_block e
theorem Rd.extb {w w' : World} {b off len cap bo : Nat} {l : List Int} (h : Rd w (some ⟨b, off, none⟩) len cap l) (hb : ExtB bo w w') (hne : b ≠ bo) : Rd w' (some ⟨b, off, none⟩) len cap l :=
 ⟨h.hlen, h.hle, h.hnil, h.byt, fun h0 => by
  obtain ⟨b', off', ha, hc⟩ := h.cell h0
  cases ha
  exact ⟨b, off, rfl, fun i hi => hb.cell hne (hc i hi)⟩⟩
/-- An array of n bytes. -/
structure Bn (n : Nat) (l : List Int) : Prop where
 len : l.length = n
 byt : Byt l
theorem Bn.map_len {n : Nat} {l : List Int} (h : Bn n l) : (List.map (Value.int .u8) l).length = n := by rw [List.length_map, h.len]
theorem ExtB.comp {b : Nat} {a u v : World} (h : ExtB b a u) (k : ExtB b u v) : ExtB b a v :=
 ⟨k.os.trans h.os, k.tape.trans h.tape, k.output.trans h.output, Nat.le_trans h.size k.size, fun i hi hb => (k.block i (Nat.lt_of_lt_of_le hi h.size) hb).trans (h.block i hi hb)⟩
theorem Ar.extb {u u' : World} {b bo n : Nat} {cs : List Value} (h : Ar u b n cs) (hb : ExtB bo u u') (hne : b ≠ bo) : Ar u' b n cs :=
 ⟨fun j v hv => hb.cell hne (h.rng j v hv), there_extb hb hne h.all, h.len⟩
/-- A new variable with its cells. -/
theorem ar_var (u : World) (z : Array Value) (n : Nat) (hz : z.size = n) (t : TypeId) (cs : List Value) (hl : cs.length = n) : Ar ((u.alloc (.cells z t)).setCells u.heap.size 0 cs) u.heap.size n cs := Ar.all_set (there_new u n z hz t) hl
theorem bel_var (u : World) (z : Array Value) (t : TypeId) (cs : List Value) : Below u.heap.size u ((u.alloc (.cells z t)).setCells u.heap.size 0 cs) := below_setCells _ (Nat.le_refl _) _ _ _ (bel1 _ _)
theorem bn32_cells {l : List Int} (h : Bn 32 l) : (List.map (Value.int .u8) l).length = 32 ∧ (∀ v ∈ (List.map (Value.int .u8) l), v.oneCell' = true) ∧ (Tryz.prog.info? 30).map (·.size) = some (List.map (Value.int .u8) l).length :=
 ⟨h.map_len, bytes_oneCell _, by rw [h.map_len]; kernel_rfl⟩
theorem there_part {u : World} {b n : Nat} (h : u.there b 0 n) (o k : Nat) (hk : o + k ≤ n) : u.there b o k := fun j hj => by
 have := h (o + j) (by omega)
 rwa [Nat.zero_add] at this
/-- Four bytes more. -/
theorem range_more {u : World} {b k : Nat} {cs vs : List Value} (h : u.rangeAt b 0 cs) (hk : cs.length = k) (n : Nat) (ht : u.there b 0 n) (hn : k + vs.length ≤ n) : (u.setCells b k vs).rangeAt b 0 (cs ++ vs) := by
 refine range_app (World.rangeAt_setCells_apart h _ _ _ (.inr (.inl (by omega)))) ?_
 rw [hk, Nat.zero_add]
 exact World.rangeAt_setCells_same _ _ _ _ (there_part ht k _ hn)
/-- An append at a step of a region that draws its order, where what it makes is known. -/
theorem step_append_run {P : Program} {ops : Array Oper} {o : Oper} {a : Act} {w : World} {K : Act → World → Prop} {Q : Exit → Act → World → Prop} {E : Prop} (hgd : o.guard = none) (s x : Operand) (t : TypeId)
  (ho : o.op = .call { callee := .builtin .append, args := #[s, x], argTypes := #[t, t] }) (v1 v2 : Value) (hs : a.eval s = v1) (hx : a.eval x = v2) (v : Value) (w' : World)
  (hr : (Builtin.append_ #[t, t] o.type #[v1, v2]).run P w = .ok v w') (h : K (a.put o.dst v) w') : if Region.wanted o (yielded ops a.tmps) = true then Oper.wp P o a w K Q else E := by
 have hw : Region.wanted o (yielded ops a.tmps) = true := by simp [Region.wanted, hgd]
 rw [if_pos hw]
 unfold Oper.wp execOp
 simp only [ho, resolve, invoke, builtin, Sem.run_bind, Sem.run_pure, Result.andThen_ok, List.map_toArray, List.map_cons, List.map_nil, hs, hx, hr]
 exact h
def slen : Value → Nat
 | .slice _ n _ => n
 | _ => 0
theorem owns_later {u v : World} {base g n c : Nat} {e : TypeId} {xs : List Value} (h : u.ownsRow base e 1 (.slice (some ⟨g, 0, none⟩) n c) n xs) (hb : Below u.heap.size u v) : v.ownsRow base e 1 (.slice (some ⟨g, 0, none⟩) n c) n xs :=
 h.kept (w' := v) (row := none) ⟨hb.os, hb.tape, hb.output, hb.size, fun k hk _ => hb.block k hk⟩ (.inr (by simp [Value.ownBlock]))
theorem extb_grown {u v : World} {g : Nat} (h : u.grownBy v (some g)) : ExtB g u v := ⟨h.os, h.tape, h.output, h.size, fun k hk hne => h.block k hk (fun e => hne (Option.some.inj e))⟩
end Go.Proofs.YtlnbjehimabaiaaGreatDoor
/-
 Copies into a part of an array; a part of it as a slice. No statement of the seat is proved here.
-/
namespace Go.Proofs.YtlnbjehimabaiaaGreatDoor
open Go.RowKit
set_option maxRecDepth 8000

/-- 'copy' of bytes into a part of an array. -/
theorem copy_c (u : World) (b o dl dc : Nat) (x : Addr) (sl sc : Nat) (l : List Int) (hr : Rd u (some x) sl sc l) (n : Nat) (hn : n = min sl dl) (ht : u.there b o n) (ty : TypeId) :
  Sem.run Tryz.prog (Builtin.copy_ #[25, 25] ty #[.slice (some ⟨b, o, none⟩) dl dc, .slice (some x) sl sc]) u = .ok (goInt n) (u.setCells b o ((l.take n).map (Value.int .u8))) := by
 have hl : ((l.take n).map (Value.int .u8)).length = n := by rw [List.length_map, List.length_take, hr.hlen]; omega
 have := run_copy_cells (P := Tryz.prog) u 25 25 ty 5 b o dl dc x sl sc ((l.take n).map (Value.int .u8)) Tryz.underlying25 (by kernel_rfl) (by rw [hl]; exact hn)
  (hr.news n) (fun j hj => (ht j (by rw [hl] at hj; exact hj)).1) (fun j hj => (ht j (by rw [hl] at hj; exact hj)).2) (bytes_oneCell _)
 rw [hl] at this
 exact this
/-- A part of an array is written anew. -/
theorem Ar.part {u : World} {b n : Nat} {ds : List Value} (h : Ar u b n ds) (o : Nat) (vs : List Value) (hv : o + vs.length ≤ n) : Ar (u.setCells b o vs) b n (ds.take o ++ (vs ++ ds.drop (o + vs.length))) := by
 have hl := h.len
 refine ⟨?_, World.there_setCells h.all _ _ _, by simp; omega⟩
 have h1 : (ds.take o).length = o := by rw [List.length_take]; omega
 refine range_app ?_ ?_
 ·have := World.rangeAt_setCells_apart (range_sub h.rng 0 o) b o vs (.inr (.inl (by simp; omega)))
  simpa using this
 ·rw [h1, Nat.zero_add]
  refine range_app (World.rangeAt_setCells_same _ _ _ _ (there_part h.all o _ hv)) ?_
  have := World.rangeAt_setCells_apart (range_sub h.rng (o + vs.length) (n - (o + vs.length))) b o vs (.inr (.inr (by simp)))
  rw [List.take_of_length_le (by simp; omega), Nat.zero_add] at this
  exact this
theorem Ar.rdFrom {u : World} {b n : Nat} {l : List Int} (h : Ar u b n (l.map (Value.int .u8))) (hb : Byt l) (off : Nat) (ho : off ≤ n) : Rd u (some ⟨b, off, none⟩) (n - off) (n - off) (l.drop off) := by
 have := h.rd hb off (n - off) (n - off) (by omega) (Nat.le_refl _)
 have hl := h.len
 rw [List.length_map] at hl
 rwa [List.take_of_length_le (by rw [List.length_drop]; omega)] at this
theorem Rd.rest {u : World} {b off r c : Nat} {l : List Int} (h : Rd u (some ⟨b, off, none⟩) r c l) (m : Nat) (hm : m ≤ r) : Rd u (if c = m then some ⟨b, off, none⟩ else some ⟨b, off + m, none⟩) (r - m) (c - m) (l.drop m) := by
 have hle := h.hle
 by_cases e : c = m
 ·rw [if_pos e]
  have hr : r - m = 0 := by omega
  rw [hr, List.drop_eq_nil_of_le (by rw [h.hlen]; omega)]
  exact Rd.nil _ _ _ (fun h => by cases h)
 ·rw [if_neg e]
  exact h.from m hm _ _ rfl (by omega)
end Go.Proofs.YtlnbjehimabaiaaGreatDoor
/-
 A cipher's State in memory: its key, whether it has one, the nonce of the next box. No statement of the seat is proved here.
-/
namespace Go.Proofs.YtlnbjehimabaiaaGreatDoor
open Go.RowKit
set_option maxRecDepth 8000

/-- A State's cells. -/
def sc9 (k : List Int) (h : Bool) (n : Int) : List Value := List.map (Value.int .u8) k ++ [.bool h, .int .u64 n]
theorem sc9_len {k : List Int} {h : Bool} {n : Int} (hk : k.length = 32) : (sc9 k h n).length = 34 := by
 unfold sc9
 simp [hk]
theorem sc9_take {k : List Int} {h : Bool} {n : Int} (hk : k.length = 32) : ((sc9 k h n).drop 0).take 32 = List.map (Value.int .u8) k := by
 unfold sc9
 rw [List.drop_zero, List.take_append_of_le_length (by rw [List.length_map]; omega), List.take_of_length_le (by rw [List.length_map]; omega)]
theorem sc9_key {k k' : List Int} {h : Bool} {n : Int} (hk : k.length = 32) (hk' : k'.length = 32) : (sc9 k h n).take 0 ++ (List.map (Value.int .u8) k' ++ (sc9 k h n).drop (0 + (List.map (Value.int .u8) k').length)) = sc9 k' h n := by
 unfold sc9
 rw [List.take_zero, List.nil_append, List.length_map, hk', Nat.zero_add, List.drop_append, List.drop_eq_nil_of_le (by rw [List.length_map]; omega), List.nil_append, List.length_map, hk]
 rfl
theorem sc9_has {k : List Int} {h : Bool} {n : Int} (hk : k.length = 32) (h' : Bool) : (sc9 k h n).set 32 (.bool h') = sc9 k h' n := by
 unfold sc9
 rw [List.set_append_right _ _ (by rw [List.length_map]; omega), List.length_map, hk]
 rfl
theorem sc9_nonce {k : List Int} {h : Bool} {n : Int} (hk : k.length = 32) (n' : Int) : (sc9 k h n).set 33 (.int .u64 n') = sc9 k h n' := by
 unfold sc9
 rw [List.set_append_right _ _ (by rw [List.length_map]; omega), List.length_map, hk]
 rfl
/-- The State in block b has the key k (h: whether it has one), and n is the nonce of the next box. -/
structure Sx (u : World) (b : Nat) (k : List Int) (h : Bool) (n : Int) : Prop where
 ar : Ar u b 34 (sc9 k h n)
 bk : Bn 32 k
 wn : 0 ≤ n ∧ n < 18446744073709551616
section
variable {u u' : World} {b : Nat} {k : List Int} {h : Bool} {n : Int}
theorem Sx.later (s : Sx u b k h n) (hb : Below u.heap.size u u') : Sx u' b k h n := ⟨s.ar.later hb, s.bk, s.wn⟩
theorem Sx.extb {bo : Nat} (s : Sx u b k h n) (hb : ExtB bo u u') (hne : b ≠ bo) : Sx u' b k h n := ⟨s.ar.extb hb hne, s.bk, s.wn⟩
theorem Sx.drew (s : Sx u b k h n) : Sx u.drew b k h n := ⟨s.ar.drew, s.bk, s.wn⟩
theorem Sx.else (s : Sx u b k h n) (c i : Nat) (hc : b ≠ c) (v : Value) : Sx (u.setCell ⟨c, i, none⟩ v) b k h n := ⟨s.ar.else c i hc v, s.bk, s.wn⟩
theorem Sx.else_cells (s : Sx u b k h n) (c o : Nat) (hc : b ≠ c) (vs : List Value) : Sx (u.setCells c o vs) b k h n := ⟨Ar.else_cells hc vs o s.ar, s.bk, s.wn⟩
theorem Sx.lt (s : Sx u b k h n) : b < u.heap.size := s.ar.lt (by decide)
theorem Sx.key (s : Sx u b k h n) : u.rangeAt b 0 (List.map (Value.int .u8) k) := by
 have := range_sub s.ar.rng 0 32
 rwa [sc9_take s.bk.len] at this
theorem Sx.keyThere (s : Sx u b k h n) : u.there b 0 32 := there_part s.ar.all 0 32 (by decide)
theorem Sx.has (s : Sx u b k h n) : u.cell? ⟨b, 32, none⟩ = some (.bool h) ∧ u.frozen? ⟨b, 32, none⟩ = false := by
 obtain ⟨h1, h2⟩ := s.ar.cell 32 (by decide)
 refine ⟨?_, h2⟩
 have e : (sc9 k h n)[32]? = some (.bool h) := by
  unfold sc9
  rw [List.getElem?_append_right (by rw [List.length_map, s.bk.len]; exact Nat.le_refl _), List.length_map, s.bk.len]
  rfl
 rw [h1, ← e, List.getElem?_eq_getElem]
theorem Sx.nonce (s : Sx u b k h n) : u.cell? ⟨b, 33, none⟩ = some (.int .u64 n) ∧ u.frozen? ⟨b, 33, none⟩ = false := by
 obtain ⟨h1, h2⟩ := s.ar.cell 33 (by decide)
 refine ⟨?_, h2⟩
 have e : (sc9 k h n)[33]? = some (.int .u64 n) := by
  unfold sc9
  rw [List.getElem?_append_right (by rw [List.length_map, s.bk.len]; decide), List.length_map, s.bk.len]
  rfl
 rw [h1, ← e, List.getElem?_eq_getElem]
theorem Sx.setN (s : Sx u b k h n) {n' : Int} (hn : 0 ≤ n' ∧ n' < 18446744073709551616) : Sx (u.setCell ⟨b, 33, none⟩ (.int .u64 n')) b k h n' :=
 ⟨by rw [← sc9_nonce s.bk.len n']; exact s.ar.set 33 (by decide) _, s.bk, hn⟩
theorem Sx.setHas (s : Sx u b k h n) (h' : Bool) : Sx (u.setCell ⟨b, 32, none⟩ (.bool h')) b k h' n :=
 ⟨by rw [← sc9_has s.bk.len h']; exact s.ar.set 32 (by decide) _, s.bk, s.wn⟩
theorem Sx.setKey (s : Sx u b k h n) {k' : List Int} (hk : Bn 32 k') : Sx (u.setCells b 0 (List.map (Value.int .u8) k')) b k' h n :=
 ⟨by rw [← sc9_key s.bk.len hk.len (k := k)]; exact s.ar.part 0 _ (by rw [hk.map_len]; decide), hk, s.wn⟩
theorem Sx.setAll (s : Sx u b k h n) {k' : List Int} (hk : Bn 32 k') (h' : Bool) {n' : Int} (hn : 0 ≤ n' ∧ n' < 18446744073709551616) : Sx (u.setCells b 0 (sc9 k' h' n')) b k' h' n' :=
 ⟨Ar.all_set s.ar.all (sc9_len hk.len), hk, hn⟩
end
theorem sx_new (u : World) (k : List Int) (h : Bool) (n : Int) (hk : Bn 32 k) (hn : 0 ≤ n ∧ n < 18446744073709551616) (t : TypeId) : Sx (u.alloc (.cells (sc9 k h n).toArray t)) u.heap.size k h n := ⟨ar_box u _ 34 (sc9_len hk.len) t, hk, hn⟩
def z9l : List Int := List.replicate 32 0
theorem z9l_bn : Bn 32 z9l := ⟨List.length_replicate, fun x hx => by rw [(List.mem_replicate.1 hx).2]; decide⟩
theorem sc9_oneCell (k : List Int) (h : Bool) (n : Int) : ∀ v ∈ sc9 k h n, v.oneCell' = true := fun v hv => by
 unfold sc9 at hv
 rcases List.mem_append.1 hv with hv | hv
 ·exact bytes_oneCell k v hv
 ·simp at hv
  rcases hv with rfl | rfl <;> rfl
/-- A store where no byte stands turns no bytes. -/
theorem Rd.not_here {u : World} {a : Option Addr} {len cap : Nat} {l : List Int} (h : Rd u a len cap l) {b o : Nat} {x : Value} (hc : u.cell? ⟨b, o, none⟩ = some x) (hx : ∀ n, x ≠ .int .u8 n) (v : Value) : Rd (u.setCell ⟨b, o, none⟩ v) a len cap l :=
 ⟨h.hlen, h.hle, h.hnil, h.byt, fun h0 => by
  obtain ⟨bx, ox, rfl, hcell⟩ := h.cell h0
  refine ⟨bx, ox, rfl, fun i hi => ?_⟩
  have hy := hcell i hi
  rw [World.cell?_setCell_other _ _ _ _ (fun e => by
   rw [← e, hc] at hy
   exact hx _ (Option.some.inj hy))]
  exact hy⟩
/-- All bytes that could be read can be read as before. -/
def Kp (w w' : World) : Prop := ∀ (a : Option Addr) (len cap : Nat) (l : List Int), Rd w a len cap l → Rd w' a len cap l
theorem Kp.refl (w : World) : Kp w w := fun _ _ _ _ h => h
theorem Kp.below {w w' : World} (h : Below w.heap.size w w') : Kp w w' := fun _ _ _ _ hr => hr.below h
theorem sc9_cells {k : List Int} (h : Bool) (n : Int) (hk : Bn 32 k) : (sc9 k h n).length = 34 ∧ (∀ v ∈ sc9 k h n, v.oneCell' = true) ∧ (Tryz.prog.info? 64).map (·.size) = some (sc9 k h n).length :=
 ⟨sc9_len hk.len, sc9_oneCell k h n, by rw [sc9_len hk.len]; kernel_rfl⟩
end Go.Proofs.YtlnbjehimabaiaaGreatDoor
/-
 Worlds in which nothing has turned but a part of one block. No statement of the seat is proved here.
-/
namespace Go.Proofs.YtlnbjehimabaiaaGreatDoor
open Go.RowKit
set_option maxRecDepth 8000

/-- Nothing that was there has turned, but for the cells o .. o + n of the block b. -/
structure ExtR (b o n : Nat) (w w' : World) : Prop where
 ext : ExtB b w w'
 cell : ∀ i, i < o ∨ o + n ≤ i → w'.cell? ⟨b, i, none⟩ = w.cell? ⟨b, i, none⟩
 froz : ∀ i, i < o ∨ o + n ≤ i → w'.frozen? ⟨b, i, none⟩ = w.frozen? ⟨b, i, none⟩
section
variable {b o n : Nat} {a u v : World}
theorem ExtR.refl (b o n : Nat) (w : World) : ExtR b o n w w := ⟨ExtB.refl b w, fun _ _ => rfl, fun _ _ => rfl⟩
theorem ExtR.trans (h : ExtR b o n a u) (hb : b < u.heap.size) (k : Below u.heap.size u v) : ExtR b o n a v :=
 ⟨h.ext.trans k, fun i hi => (World.cell?_of_block (k.block b hb)).trans (h.cell i hi), fun i hi => (World.frozen?_of_block (k.block b hb)).trans (h.froz i hi)⟩
theorem ExtR.of (k : Below a.heap.size a u) (hb : b < a.heap.size) : ExtR b o n a u := (ExtR.refl b o n a).trans hb k
theorem ExtR.comp (h : ExtR b o n a u) (k : ExtR b o n u v) : ExtR b o n a v :=
 ⟨h.ext.comp k.ext, fun i hi => (k.cell i hi).trans (h.cell i hi), fun i hi => (k.froz i hi).trans (h.froz i hi)⟩
theorem ExtR.set (h : ExtR b o n a u) (i : Nat) (h1 : o ≤ i) (h2 : i < o + n) (x : Value) : ExtR b o n a (u.setCell ⟨b, i, none⟩ x) :=
 ⟨h.ext.set i x, fun j hj => by rw [World.cell?_setCell_other _ _ _ _ (by simp <;> omega)]; exact h.cell j hj, fun j hj => by rw [← h.froz j hj]; simp⟩
theorem ExtR.cells : ∀ (vs : List Value) (i : Nat) {u : World}, ExtR b o n a u → o ≤ i → i + vs.length ≤ o + n → ExtR b o n a (u.setCells b i vs)
 | [], _, _, h, _, _ => h
 | x :: vs, i, _, h, h1, h2 => by
  rw [List.length_cons] at h2
  exact ExtR.cells vs (i + 1) (h.set i h1 (by omega) x) (by omega) (by omega)
theorem ExtR.drew (h : ExtR b o n a u) : ExtR b o n a u.drew := ⟨h.ext.drew, h.cell, h.froz⟩
theorem ExtR.range (h : ExtR b o n a u) {p : Nat} {cs : List Value} (hr : a.rangeAt b p cs) (hp : p + cs.length ≤ o ∨ o + n ≤ p) : u.rangeAt b p cs := fun j x hx => by
 have hj := (List.getElem?_eq_some_iff.1 hx).1
 rw [h.cell (p + j) (by omega)]
 exact hr j x hx
theorem ExtR.there (h : ExtR b o n a u) {p m : Nat} (hr : a.there b p m) (hp : p + m ≤ o ∨ o + n ≤ p) : u.there b p m := fun j hj => by
 rw [h.cell (p + j) (by omega), h.froz (p + j) (by omega)]
 exact hr j hj
theorem ExtR.wider (h : ExtR b o n a u) {p m : Nat} (h1 : p ≤ o) (h2 : o + n ≤ p + m) : ExtR b p m a u := ⟨h.ext, fun i hi => h.cell i (by omega), fun i hi => h.froz i (by omega)⟩
end
/-- An array at a place in a block: its cells, and that they are there. -/
structure Ao (u : World) (b o n : Nat) (cs : List Value) : Prop where
 rng : u.rangeAt b o cs
 all : u.there b o n
 len : cs.length = n
section
variable {u u' : World} {b o n : Nat} {cs : List Value}
theorem Ao.later (h : Ao u b o n cs) (hb : Below u.heap.size u u') : Ao u' b o n cs := ⟨range_later hb h.rng, there_later hb h.all, h.len⟩
theorem Ao.extb {c : Nat} (h : Ao u b o n cs) (hb : ExtB c u u') (hne : b ≠ c) : Ao u' b o n cs := ⟨fun j v hv => hb.cell hne (h.rng j v hv), there_extb hb hne h.all, h.len⟩
theorem Ao.drew (h : Ao u b o n cs) : Ao u.drew b o n cs := ⟨h.rng, h.all, h.len⟩
theorem Ao.cell (h : Ao u b o n cs) (i : Nat) (hi : i < n) : u.cell? ⟨b, o + i, none⟩ = some (cs[i]'(by rw [h.len]; exact hi)) ∧ u.frozen? ⟨b, o + i, none⟩ = false :=
 ⟨h.rng i _ (List.getElem?_eq_getElem (by rw [h.len]; exact hi)), (h.all i hi).2⟩
theorem Ao.lt (h : Ao u b o n cs) (hn : 0 < n) : b < u.heap.size := World.block_lt_of_cell? u _ (h.cell 0 hn).1
theorem Ao.set (h : Ao u b o n cs) (i : Nat) (hi : i < n) (v : Value) : Ao (u.setCell ⟨b, o + i, none⟩ v) b o n (cs.set i v) :=
 ⟨fun j x hx => by
  by_cases hj : j = i
  ·subst hj
   rw [List.getElem?_set_self (by rw [h.len]; exact hi)] at hx
   rw [World.cell?_setCell_same _ _ _ (h.cell j hi).1]
   exact hx
  ·rw [List.getElem?_set_ne (fun e => hj e.symm)] at hx
   rw [World.cell?_setCell_other _ _ _ _ (by simp <;> omega)]
   exact h.rng j x hx, there_set h.all _ _ _, by rw [List.length_set, h.len]⟩
theorem Ao.else (h : Ao u b o n cs) (c i : Nat) (hc : b ≠ c) (v : Value) : Ao (u.setCell ⟨c, i, none⟩ v) b o n cs := ⟨range_else h.rng hc v, there_set h.all _ _ _, h.len⟩
theorem Ao.all_set (ht : u.there b o n) (hl : cs.length = n) : Ao (u.setCells b o cs) b o n cs :=
 ⟨World.rangeAt_setCells_same _ _ _ _ (by rw [hl]; exact ht), World.there_setCells ht _ _ _, hl⟩
theorem Ao.extr {p m : Nat} (h : Ao u b o n cs) (hb : ExtR b p m u u') (hp : o + n ≤ p ∨ p + m ≤ o) : Ao u' b o n cs :=
 ⟨hb.range h.rng (by rw [h.len]; exact hp), hb.there h.all hp, h.len⟩
/-- A part of it. -/
theorem Ao.sub (h : Ao u b o n cs) (i m : Nat) (hi : i + m ≤ n) : Ao u b (o + i) m ((cs.drop i).take m) :=
 ⟨range_sub h.rng i m, fun j hj => by have := h.all (i + j) (by omega); rwa [← Nat.add_assoc] at this, by rw [List.length_take, List.length_drop, h.len]; omega⟩
theorem Ao.part (h : Ao u b o n cs) (i : Nat) (vs : List Value) (hv : i + vs.length ≤ n) : Ao (u.setCells b (o + i) vs) b o n (cs.take i ++ (vs ++ cs.drop (i + vs.length))) := by
 have hl := h.len
 refine ⟨?_, World.there_setCells h.all _ _ _, by simp; omega⟩
 have h1 : (cs.take i).length = i := by rw [List.length_take]; omega
 refine range_app ?_ ?_
 ·have := World.rangeAt_setCells_apart (range_sub h.rng 0 i) b (o + i) vs (.inr (.inl (by simp; omega)))
  simpa using this
 ·rw [h1]
  refine range_app (World.rangeAt_setCells_same _ _ _ _ (fun j hj => by have := h.all (i + j) (by omega); rwa [← Nat.add_assoc] at this)) ?_
  have := World.rangeAt_setCells_apart (range_sub h.rng (i + vs.length) (n - (i + vs.length))) b (o + i) vs (.inr (.inr (by omega)))
  rw [List.take_of_length_le (by simp; omega), ← Nat.add_assoc] at this
  exact this
end
theorem Ar.ao {u : World} {b n : Nat} {cs : List Value} (h : Ar u b n cs) : Ao u b 0 n cs := ⟨h.rng, h.all, h.len⟩
theorem Ao.ar {u : World} {b n : Nat} {cs : List Value} (h : Ao u b 0 n cs) : Ar u b n cs := ⟨h.rng, h.all, h.len⟩
end Go.Proofs.YtlnbjehimabaiaaGreatDoor
/-
 A cipher's State at a place in a greater block (where it is embedded). No statement of the seat is proved here.
-/
namespace Go.Proofs.YtlnbjehimabaiaaGreatDoor
open Go.RowKit
set_option maxRecDepth 8000

/-- The State at o in block b has the key k (h: whether it has one), and n is the nonce of the next box. -/
structure Sy (u : World) (b o : Nat) (k : List Int) (h : Bool) (n : Int) : Prop where
 ao : Ao u b o 34 (sc9 k h n)
 bk : Bn 32 k
 wn : 0 ≤ n ∧ n < 18446744073709551616
theorem Sx.sy {u : World} {b : Nat} {k : List Int} {h : Bool} {n : Int} (s : Sx u b k h n) : Sy u b 0 k h n := ⟨s.ar.ao, s.bk, s.wn⟩
theorem Sy.sx {u : World} {b : Nat} {k : List Int} {h : Bool} {n : Int} (s : Sy u b 0 k h n) : Sx u b k h n := ⟨s.ao.ar, s.bk, s.wn⟩
section
variable {u u' : World} {b o : Nat} {k : List Int} {h : Bool} {n : Int}
theorem Sy.later (s : Sy u b o k h n) (hb : Below u.heap.size u u') : Sy u' b o k h n := ⟨s.ao.later hb, s.bk, s.wn⟩
theorem Sy.extb {bo : Nat} (s : Sy u b o k h n) (hb : ExtB bo u u') (hne : b ≠ bo) : Sy u' b o k h n := ⟨s.ao.extb hb hne, s.bk, s.wn⟩
theorem Sy.extr {p m : Nat} (s : Sy u b o k h n) (hb : ExtR b p m u u') (hp : o + 34 ≤ p ∨ p + m ≤ o) : Sy u' b o k h n := ⟨s.ao.extr hb hp, s.bk, s.wn⟩
theorem Sy.drew (s : Sy u b o k h n) : Sy u.drew b o k h n := ⟨s.ao.drew, s.bk, s.wn⟩
theorem Sy.else (s : Sy u b o k h n) (c i : Nat) (hc : b ≠ c) (v : Value) : Sy (u.setCell ⟨c, i, none⟩ v) b o k h n := ⟨s.ao.else c i hc v, s.bk, s.wn⟩
theorem Sy.lt (s : Sy u b o k h n) : b < u.heap.size := s.ao.lt (by decide)
theorem Sy.key (s : Sy u b o k h n) : u.rangeAt b o (List.map (Value.int .u8) k) := by
 have := (s.ao.sub 0 32 (by decide)).rng
 rwa [sc9_take s.bk.len, Nat.add_zero] at this
theorem Sy.keyThere (s : Sy u b o k h n) : u.there b o 32 := by
 have := (s.ao.sub 0 32 (by decide)).all
 rwa [Nat.add_zero] at this
theorem Sy.has (s : Sy u b o k h n) : u.cell? ⟨b, o + 32, none⟩ = some (.bool h) ∧ u.frozen? ⟨b, o + 32, none⟩ = false := by
 obtain ⟨h1, h2⟩ := s.ao.cell 32 (by decide)
 refine ⟨?_, h2⟩
 have e : (sc9 k h n)[32]? = some (.bool h) := by
  unfold sc9
  rw [List.getElem?_append_right (by rw [List.length_map, s.bk.len]; exact Nat.le_refl _), List.length_map, s.bk.len]
  rfl
 rw [h1, ← e, List.getElem?_eq_getElem]
theorem Sy.nonce (s : Sy u b o k h n) : u.cell? ⟨b, o + 33, none⟩ = some (.int .u64 n) ∧ u.frozen? ⟨b, o + 33, none⟩ = false := by
 obtain ⟨h1, h2⟩ := s.ao.cell 33 (by decide)
 refine ⟨?_, h2⟩
 have e : (sc9 k h n)[33]? = some (.int .u64 n) := by
  unfold sc9
  rw [List.getElem?_append_right (by rw [List.length_map, s.bk.len]; decide), List.length_map, s.bk.len]
  rfl
 rw [h1, ← e, List.getElem?_eq_getElem]
theorem Sy.setN (s : Sy u b o k h n) {n' : Int} (hn : 0 ≤ n' ∧ n' < 18446744073709551616) : Sy (u.setCell ⟨b, o + 33, none⟩ (.int .u64 n')) b o k h n' :=
 ⟨by rw [← sc9_nonce s.bk.len n']; exact s.ao.set 33 (by decide) _, s.bk, hn⟩
theorem Sy.setKey (s : Sy u b o k h n) {k' : List Int} (hk : Bn 32 k') : Sy (u.setCells b o (List.map (Value.int .u8) k')) b o k' h n :=
 ⟨by
  have := s.ao.part 0 (List.map (Value.int .u8) k') (by rw [hk.map_len]; decide)
  rwa [Nat.add_zero, sc9_key s.bk.len hk.len] at this, hk, s.wn⟩
theorem Sy.setAll (s : Sy u b o k h n) {k' : List Int} (hk : Bn 32 k') (h' : Bool) {n' : Int} (hn : 0 ≤ n' ∧ n' < 18446744073709551616) : Sy (u.setCells b o (sc9 k' h' n')) b o k' h' n' :=
 ⟨Ao.all_set s.ao.all (sc9_len hk.len), hk, hn⟩
end
end Go.Proofs.YtlnbjehimabaiaaGreatDoor
/-
 Where an answer lies: in new memory, or not in a block. No statement of the seat is proved here.
-/
namespace Go.Proofs.YtlnbjehimabaiaaGreatDoor
open Go.RowKit
set_option maxRecDepth 8000

theorem extb_of {b : Nat} {w w' : World} (h : Below w.heap.size w w') : ExtB b w w' := ⟨h.os, h.tape, h.output, h.size, fun i hi _ => h.block i hi⟩
/-- Where it is not empty it lies at or behind block q. -/
def Fr (q : Nat) (a : Option Addr) (m : Nat) : Prop := 0 < m → ∀ p, a = some p → q ≤ p.block
/-- Where it is not empty it does not lie in block q. -/
def Nq (q : Nat) (a : Option Addr) (m : Nat) : Prop := 0 < m → ∀ p, a = some p → p.block ≠ q
theorem Fr.nq {q r m : Nat} {a : Option Addr} (h : Fr q a m) (hr : r < q) : Nq r a m := fun h0 p hp => by have := h h0 p hp; omega
theorem Fr.mono {q r m : Nat} {a : Option Addr} (h : Fr q a m) (hr : r ≤ q) : Fr r a m := fun h0 p hp => Nat.le_trans hr (h h0 p hp)
theorem fr_at {q g o m : Nat} (h : q ≤ g) : Fr q (some ⟨g, o, none⟩) m := fun _ p hp => by cases hp; exact h
theorem fr_nil {q : Nat} {a : Option Addr} : Fr q a 0 := fun h => absurd h (by decide)
theorem nq_nil {q : Nat} {a : Option Addr} : Nq q a 0 := fun h => absurd h (by decide)
theorem nq_at {q g o m : Nat} (h : g ≠ q) : Nq q (some ⟨g, o, none⟩) m := fun _ p hp => by cases hp; exact h
theorem fr_owns {w : World} {base n c : Nat} {a : Option Addr} {xs : List Value} (h : w.ownsRow base 5 1 (.slice a n c) n xs) : Fr base a n := fun hn p hp => by
 rcases h.2 with ⟨_, rfl⟩ | ⟨g, cap', cur, hv, hg, hh, _⟩
 ·omega
 ·cases hv
  cases hp
  exact hg
/-- What could be read ahead lies in no block that is new. -/
theorem Rd.nqNew {w : World} {a : Option Addr} {len cap q : Nat} {l : List Int} (h : Rd w a len cap l) (hq : w.heap.size ≤ q) : Nq q a len := fun h0 p hp => by
 obtain ⟨b, off, ha, hc⟩ := h.cell h0
 rw [ha] at hp
 cases hp
 have := World.block_lt_of_cell? w _ (hc 0 h0)
 dsimp only at this ⊢
 omega
theorem Rd.nq {w w' : World} {a : Option Addr} {len cap q : Nat} {l : List Int} (h : Rd w a len cap l) (hb : ExtB q w w') (hne : Nq q a len) : Rd w' a len cap l :=
 ⟨h.hlen, h.hle, h.hnil, h.byt, fun h0 => by
  obtain ⟨b, off, ha, hc⟩ := h.cell h0
  exact ⟨b, off, ha, fun i hi => hb.cell (hne h0 _ ha) (hc i hi)⟩⟩
end Go.Proofs.YtlnbjehimabaiaaGreatDoor
