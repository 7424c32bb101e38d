/-
  Several texts of one's own, laid together. No statement of the seat is proved here.
-/
import Derived.Test.YtlnbjehimabaiaaGreatDoorBPress
import Derived.Test.YtlnbjehimabaiaaGreatDoorPk3
import Derived.Test.YtlnbjehimabaiaaGreatDoorPk1
/-
 A Hash that holds the bytes written to it so far: how it goes on. No statement of the seat is proved here.
-/
namespace Go.Proofs.YtlnbjehimabaiaaGreatDoor
open Go.RowKit
set_option maxRecDepth 8000

/-- The Hash in block b has taken k blocks of T, and holds the rest. -/
def Hp (u : World) (b : Nat) (T : List Int) (k : Nat) : Prop := Hs u b (hb7 T k) ((64 * k : Nat) : Int) (pad7 (T.drop (64 * k))) (T.length - 64 * k)
/-- The Hash in block b holds the bytes T. -/
structure Hx (u : World) (b : Nat) (T : List Int) : Prop where
 h : Hp u b T (kb7 T.length)
 byt : Byt T
theorem Hx.later {u u' : World} {b : Nat} {T : List Int} (h : Hx u b T) (hb : Below u.heap.size u u') : Hx u' b T := ⟨Hs.later h.h hb, h.byt⟩
theorem Hx.extb {u u' : World} {b bo : Nat} {T : List Int} (h : Hx u b T) (hb : ExtB bo u u') (hne : b ≠ bo) : Hx u' b T := ⟨Hs.extb h.h hb hne, h.byt⟩
theorem Hx.lt {u : World} {b : Nat} {T : List Int} (h : Hx u b T) : b < u.heap.size := Hs.lt h.h
theorem kb7_le (n : Nat) : 64 * kb7 n ≤ n := by unfold kb7; omega
theorem kb7_held (n : Nat) : n - 64 * kb7 n ≤ 64 := by unfold kb7; omega
theorem pad7_len {l : List Int} (h : l.length ≤ 64) : (pad7 l).length = 64 := by
 unfold pad7
 rw [List.length_append, List.length_replicate]
 omega
theorem pad7_full {l : List Int} (h : l.length = 64) : pad7 l = l := by
 unfold pad7
 rw [h]
 simp
theorem pad7_nil : pad7 [] = List.replicate 64 0 := rfl
/-- A full block is pressed in. -/
theorem hp_pressed {u : World} {b : Nat} {T : List Int} {k : Nat} (hl : T.length = 64 * k + 64) (h : Hs u b (pr7 (hb7 T k) (pad7 (T.drop (64 * k))) (((64 * k : Nat) : Int) + ((T.length - 64 * k : Nat) : Int)) false) (((64 * k : Nat) : Int) + ((T.length - 64 * k : Nat) : Int)) (List.replicate 64 0) 0) : Hp u b T (k + 1) := by
 have e1 : ((64 * k : Nat) : Int) + ((T.length - 64 * k : Nat) : Int) = ((64 * (k + 1) : Nat) : Int) := by omega
 have e2 : (T.drop (64 * k)).length = 64 := by rw [List.length_drop]; omega
 have e3 : (T.drop (64 * k)).take 64 = T.drop (64 * k) := List.take_of_length_le (by omega)
 have e4 : T.drop (64 * (k + 1)) = [] := List.drop_eq_nil_of_le (by omega)
 have e5 : T.length - 64 * (k + 1) = 0 := by omega
 rw [e1, pad7_full e2, ← e3] at h
 unfold Hp
 rw [e4, e5, pad7_nil, hb7]
 exact h
/-- Bytes are laid into the block that waits. -/
theorem pad7_part (Z y : List Int) (_h : Z.length + y.length ≤ 64) : (pad7 Z).take Z.length ++ (y ++ (pad7 Z).drop (Z.length + y.length)) = pad7 (Z ++ y) := by
 unfold pad7
 rw [List.take_append_of_le_length (Nat.le_refl _), List.take_of_length_le (Nat.le_refl _), ← List.drop_drop, List.drop_append_of_le_length (Nat.le_refl _), List.drop_of_length_le (Nat.le_refl _), List.nil_append, List.drop_replicate, List.append_assoc, List.length_append]
 congr 3
 omega
theorem hp_more {u : World} {b : Nat} {T : List Int} (y : List Int) (hT : Byt T) (hy : Byt y) (h0 : 0 < y.length) (h1 : T.length % 64 + y.length ≤ 64)
  (h : Hs u b (hb7 T (T.length / 64)) ((64 * (T.length / 64) : Nat) : Int) ((pad7 (T.drop (64 * (T.length / 64)))).take (T.length % 64) ++ (y ++ (pad7 (T.drop (64 * (T.length / 64)))).drop (T.length % 64 + y.length))) (T.length % 64 + y.length)) : Hx u b (T ++ y) := by
 have e1 : kb7 (T ++ y).length = T.length / 64 := by unfold kb7; rw [List.length_append]; omega
 have e2 : (T.drop (64 * (T.length / 64))).length = T.length % 64 := by rw [List.length_drop]; omega
 refine ⟨?_, hT.app hy⟩
 unfold Hp
 rw [e1, hb7_app T y _ (by omega), List.drop_append_of_le_length (by omega), ← pad7_part _ y (by omega), e2]
 have e3 : (T ++ y).length - 64 * (T.length / 64) = T.length % 64 + y.length := by rw [List.length_append]; omega
 rw [e3]
 exact h
theorem kb7_div {n : Nat} (h : n - 64 * kb7 n ≠ 64) : kb7 n = n / 64 := by unfold kb7 at h ⊢; omega
theorem kb7_full {n : Nat} (h : n - 64 * kb7 n = 64) : n = 64 * kb7 n + 64 ∧ n / 64 = kb7 n + 1 := by unfold kb7 at h ⊢; omega
theorem sum7_end {T : List Int} {t : Int} (ht : t = ((64 * kb7 T.length : Nat) : Int) + ((T.length - 64 * kb7 T.length : Nat) : Int)) : ou7 (pr7 (hb7 T (kb7 T.length)) (pad7 (T.drop (64 * kb7 T.length))) t true) 8 = sum7 T := by
 have h := kb7_le T.length
 have e : t = (T.length : Int) := by omega
 rw [sum7_eq, e]
 rfl
/-! ### New -/
def z64w : List Int := List.replicate 64 0
theorem z64w_bn : Bn 64 z64w := ⟨List.length_replicate, byt_zero7 64⟩
def hn7 : List Value := hc7 iv7 0 z64w 0
theorem build_iv (w : World) : Sem.run Tryz.prog (Instr.build 183 #[(0, .agg (List.map (Value.int .u32) iv7).toArray)]) w = .ok (.agg hn7.toArray) w := by kernel_rfl
theorem build_new (w : World) (ev : Operand → Value) (o : Oper) (ho : o.op = Op.build 183 #[(0, .tmp 2)]) (hs : ev (.tmp 2) = .agg (List.map (Value.int .u32) iv7).toArray) : (execOp ev o).run Tryz.prog w = .ok (.value (.agg hn7.toArray)) w := by
 unfold execOp
 rw [ho]
 have e : Array.map (fun x : Nat × Operand => match x with | (i, x) => (i, ev x)) #[(0, Operand.tmp 2)] = #[(0, .agg (List.map (Value.int .u32) iv7).toArray)] := by
  rw [← hs]
  simp
 show Sem.run Tryz.prog (do let r ← Instr.build 183 (Array.map (fun x : Nat × Operand => match x with | (i, x) => (i, ev x)) #[(0, Operand.tmp 2)]); pure (Next.value r)) w = _
 rw [e, Sem.run_bind, build_iv]
 rfl
theorem wpList_build {ops : Array Oper} {rest : List Oper} {o : Oper} {a : Act} {w : World} {Q : Exit → Act → World → Prop} (hgd : o.guard = none) (ho : o.op = Op.build 183 #[(0, .tmp 2)]) (hs : a.eval (.tmp 2) = .agg (List.map (Value.int .u32) iv7).toArray)
  (h : wpList Tryz.prog ops Q rest (a.put o.dst (.agg hn7.toArray)) w) : wpList Tryz.prog ops Q (o :: rest) a w := by
 refine wpList_plain hgd fun K hK => ?_
 unfold Oper.wp
 rw [build_new w a.eval o ho hs]
 exact hK _ _ h
end Go.Proofs.YtlnbjehimabaiaaGreatDoor
/-
 HMAC over BLAKE2s and the keys that are derived, on lists. No statement of the seat is proved here.
-/
namespace Go.Proofs.YtlnbjehimabaiaaGreatDoor
open Go.RowKit
set_option maxRecDepth 8000

/-- The key, filled up to a block: its sum where it is longer. -/
def kp8 (key : List Int) : List Int := pad7 (if 64 < key.length then sum7 key else key)
/-- Every byte with this mark. -/
def xm8 (x : Int) (l : List Int) : List Int := l.map fun a => bits .xor .u8 a x
def hm8 (key text : List Int) : List Int := sum7 (xm8 92 (kp8 key) ++ sum7 (xm8 54 (kp8 key) ++ text))
/-- The keys. -/
def dt8 (chain input : List Int) : List Int := hm8 chain input
def da8 (chain input : List Int) : List Int := hm8 (dt8 chain input) [1]
def db8 (chain input : List Int) : List Int := hm8 (dt8 chain input) (da8 chain input ++ [2])
def dc8 (chain input : List Int) : List Int := hm8 (dt8 chain input) (db8 chain input ++ [3])
def dv8 (chain input : List Int) (n : Int) : List (List Int) := if n = 2 then [da8 chain input, db8 chain input] else if n = 3 then [da8 chain input, db8 chain input, dc8 chain input] else []

theorem hm8_bn (key text : List Int) : Bn 32 (hm8 key text) := sum7_bn _
theorem kp8_in (key : List Int) : (if 64 < key.length then sum7 key else key).length ≤ 64 := by
 split
 ·rw [(sum7_bn key).len]; decide
 ·omega
theorem kp8_len (key : List Int) : (kp8 key).length = 64 := pad7_len (kp8_in key)
theorem kp8_byt {key : List Int} (h : Byt key) : Byt (kp8 key) := by
 unfold kp8 pad7
 refine Byt.app ?_ (byt_zero7 _)
 split
 ·exact (sum7_bn key).byt
 ·exact h
theorem kp8_bn {key : List Int} (h : Byt key) : Bn 64 (kp8 key) := ⟨kp8_len key, kp8_byt h⟩
theorem xm8_len (x : Int) (l : List Int) : (xm8 x l).length = l.length := List.length_map _
theorem xm8_byt {x : Int} (hx : 0 ≤ x ∧ x ≤ 255) {l : List Int} (h : Byt l) : Byt (xm8 x l) := fun y hy => by
 obtain ⟨a, ha, rfl⟩ := List.mem_map.1 hy
 have := xor8 a x (h a ha) hx
 exact ⟨this.1, this.2.1⟩
theorem xm8_at (x : Int) (l : List Int) (i : Nat) (hi : i < l.length) : (xm8 x l)[i]! = bits .xor .u8 l[i]! x := by
 rw [getElem!_pos _ i (by rw [xm8_len]; exact hi), getElem!_pos l i hi]
 unfold xm8
 rw [List.getElem_map]
/-- A key that is longer than a block counts as its sum. -/
theorem kp8_long {key : List Int} (h : 64 < key.length) : kp8 (sum7 key) = kp8 key := by
 unfold kp8
 rw [if_pos h, if_neg (by rw [(sum7_bn key).len]; decide)]
theorem hm8_long {key : List Int} (h : 64 < key.length) (text : List Int) : hm8 (sum7 key) text = hm8 key text := by
 unfold hm8
 rw [kp8_long h]
/-- Noughts behind a key, up to a block, count for nothing. -/
theorem kp8_zeros (key : List Int) (z : Nat) (h : key.length + z ≤ 64) : kp8 (key ++ List.replicate z 0) = kp8 key := by
 unfold kp8
 rw [if_neg (by rw [List.length_append, List.length_replicate]; omega), if_neg (by omega)]
 unfold pad7
 rw [List.length_append, List.length_replicate, List.append_assoc, List.replicate_append_replicate]
 congr 2
 omega
theorem hm8_zeros (key : List Int) (z : Nat) (h : key.length + z ≤ 64) (text : List Int) : hm8 (key ++ List.replicate z 0) text = hm8 key text := by
 unfold hm8
 rw [kp8_zeros key z h]
theorem dv8_len2 (chain input : List Int) : (dv8 chain input 2).length = 2 := rfl
theorem dv8_len3 (chain input : List Int) : (dv8 chain input 3).length = 3 := rfl
theorem dv8_bn (chain input : List Int) (n : Int) : ∀ l ∈ dv8 chain input n, Bn 32 l := fun l hl => by
 unfold dv8 at hl
 split at hl
 ·rcases List.mem_cons.1 hl with rfl | hl
  ·exact hm8_bn _ _
  ·rw [List.mem_singleton.1 hl]; exact hm8_bn _ _
 ·split at hl
  ·rcases List.mem_cons.1 hl with rfl | hl
   ·exact hm8_bn _ _
   ·rcases List.mem_cons.1 hl with rfl | hl
    ·exact hm8_bn _ _
    ·rw [List.mem_singleton.1 hl]; exact hm8_bn _ _
  ·cases hl
end Go.Proofs.YtlnbjehimabaiaaGreatDoor
/-
 A handshake's symmetric state in memory: the cipher, the hash, the chain key. No statement of the seat is proved here.
-/
namespace Go.Proofs.YtlnbjehimabaiaaGreatDoor
open Go.RowKit
set_option maxRecDepth 8000

/-- A name as a hash. -/
def nm10 (l : List Int) : List Int := if l.length ≤ 32 then l ++ List.replicate (32 - l.length) 0 else sum7 l
theorem nm10_bn {l : List Int} (h : Byt l) : Bn 32 (nm10 l) := by
 unfold nm10
 split
 ·exact ⟨by rw [List.length_append, List.length_replicate]; omega, h.app (fun x hx => by rw [(List.mem_replicate.1 hx).2]; decide)⟩
 ·exact sum7_bn _
/-- The hash behind a box or a text. -/
def h10 (e : Int) (H x : List Int) : List Int := if e = 0 then sum7 (H ++ x) else H
theorem h10_bn {e : Int} {H x : List Int} (h : Bn 32 H) : Bn 32 (h10 e H x) := by
 unfold h10
 split
 ·exact sum7_bn _
 ·exact h
section
variable {u u' : World} {b o : Nat}
theorem Ao.three {x y z : List Value} (hx : x.length = 34) (hy : y.length = 32) (hz : z.length = 32) (h : Ao u b o 98 (x ++ (y ++ z))) : Ao u b o 34 x ∧ Ao u b (o + 34) 32 y ∧ Ao u b (o + 66) 32 z := by
 refine ⟨?_, ?_, ?_⟩
 ·have := h.sub 0 34 (by decide)
  rwa [List.drop_zero, List.take_left' hx, Nat.add_zero] at this
 ·have := h.sub 34 32 (by decide)
  rwa [List.drop_left' hx, List.take_left' hy] at this
 ·have := h.sub 66 32 (by decide)
  rwa [← List.append_assoc, List.drop_left' (by rw [List.length_append, hx, hy]), List.take_of_length_le (by rw [hz]; exact Nat.le_refl _)] at this
theorem Ao.join3 {x y z : List Value} (hx : Ao u b o 34 x) (hy : Ao u b (o + 34) 32 y) (hz : Ao u b (o + 66) 32 z) : Ao u b o 98 (x ++ (y ++ z)) :=
 ⟨range_app hx.rng (by rw [hx.len]; exact range_app hy.rng (by rw [hy.len]; exact hz.rng)), fun j hj => by
  by_cases h1 : j < 34
  ·exact hx.all j h1
  ·by_cases h2 : j < 66
   ·have := hy.all (j - 34) (by omega)
    rwa [show o + 34 + (j - 34) = o + j by omega] at this
   ·have := hz.all (j - 66) (by omega)
    rwa [show o + 66 + (j - 66) = o + j by omega] at this, by rw [List.length_append, List.length_append, hx.len, hy.len, hz.len]⟩
theorem Ao.rd32 {H : List Int} (h : Ao u b o 32 (List.map (Value.int .u8) H)) (hb : Bn 32 H) : Rd u (some ⟨b, o, none⟩) 32 32 H :=
 ⟨hb.len, Nat.le_refl _, (fun e => by cases e), hb.byt, fun _ => ⟨b, o, rfl, fun j hj => by
  have hj2 : j < H.length := by rw [hb.len]; exact hj
  exact h.rng j _ (by rw [List.getElem?_map, List.getElem?_eq_getElem hj2]; rfl)⟩⟩
end
/-- The State in block b: the cipher's key k (h: whether it has one) and nonce n, the hash H, the chain key C. -/
structure My (u : World) (b : Nat) (k : List Int) (h : Bool) (n : Int) (H C : List Int) : Prop where
 sy : Sy u b 0 k h n
 ho : Ao u b 34 32 (List.map (Value.int .u8) H)
 co : Ao u b 66 32 (List.map (Value.int .u8) C)
 bh : Bn 32 H
 bc : Bn 32 C
section
variable {u u' : World} {b : Nat} {k : List Int} {h : Bool} {n : Int} {H C : List Int}
theorem My.later (s : My u b k h n H C) (hb : Below u.heap.size u u') : My u' b k h n H C := ⟨s.sy.later hb, s.ho.later hb, s.co.later hb, s.bh, s.bc⟩
theorem My.extb {bo : Nat} (s : My u b k h n H C) (hb : ExtB bo u u') (hne : b ≠ bo) : My u' b k h n H C := ⟨s.sy.extb hb hne, s.ho.extb hb hne, s.co.extb hb hne, s.bh, s.bc⟩
theorem My.drew (s : My u b k h n H C) : My u.drew b k h n H C := ⟨s.sy.drew, s.ho.drew, s.co.drew, s.bh, s.bc⟩
theorem My.lt (s : My u b k h n H C) : b < u.heap.size := s.sy.lt
theorem My.rdH (s : My u b k h n H C) : Rd u (some ⟨b, 34, none⟩) 32 32 H := s.ho.rd32 s.bh
theorem My.rdC (s : My u b k h n H C) : Rd u (some ⟨b, 66, none⟩) 32 32 C := s.co.rd32 s.bc
/-- The cipher alone has turned. -/
theorem My.cip (s : My u b k h n H C) {k' : List Int} {h' : Bool} {n' : Int} (t : Sy u' b 0 k' h' n') (hb : ExtR b 0 34 u u') : My u' b k' h' n' H C :=
 ⟨t, s.ho.extr hb (by omega), s.co.extr hb (by omega), s.bh, s.bc⟩
theorem My.setH (s : My u b k h n H C) {H' : List Int} (hh : Bn 32 H') : My (u.setCells b 34 (List.map (Value.int .u8) H')) b k h n H' C := by
 have hx : ExtR b 34 32 u (u.setCells b 34 (List.map (Value.int .u8) H')) := ExtR.cells _ _ (ExtR.refl _ _ _ _) (Nat.le_refl _) (by rw [hh.map_len]; omega)
 exact ⟨s.sy.extr hx (by omega), Ao.all_set s.ho.all hh.map_len, s.co.extr hx (by omega), hh, s.bc⟩
theorem My.setC (s : My u b k h n H C) {C' : List Int} (hc : Bn 32 C') : My (u.setCells b 66 (List.map (Value.int .u8) C')) b k h n H C' := by
 have hx : ExtR b 66 32 u (u.setCells b 66 (List.map (Value.int .u8) C')) := ExtR.cells _ _ (ExtR.refl _ _ _ _) (Nat.le_refl _) (by rw [hc.map_len]; omega)
 exact ⟨s.sy.extr hx (by omega), s.ho.extr hx (by omega), Ao.all_set s.co.all hc.map_len, s.bh, hc⟩
/-- Where bytes lie from 0 to 63 there is no State: it has a truth value there. -/
theorem My.far (s : My u b k h n H C) {g : Nat} {B : List Int} (hB : Bn 32 B) (hr : u.rangeAt g 32 (List.map (Value.int .u8) B)) : g ≠ b := fun e => by
 subst e
 obtain ⟨x, r, rfl⟩ : ∃ x r, B = x :: r := by
  cases B with
  | nil => exact absurd hB.len (by decide)
  | cons x r => exact ⟨x, r, rfl⟩
 have h1 := hr 0 (.int .u8 x) rfl
 have h2 := s.sy.has.1
 rw [Nat.add_zero] at h1
 rw [Nat.zero_add, h1] at h2
 cases h2
end
/-- The cells of a State that is begun. -/
def nc10 (H : List Int) : List Value := sc9 z9l false 0 ++ (List.map (Value.int .u8) H ++ List.map (Value.int .u8) H)
theorem nc10_len {H : List Int} (h : Bn 32 H) : (nc10 H).length = 98 := by
 unfold nc10
 rw [List.length_append, List.length_append, h.map_len, sc9_len z9l_bn.len]
theorem my_new (u : World) (H : List Int) (h : Bn 32 H) (t : TypeId) : My (u.alloc (.cells (nc10 H).toArray t)) u.heap.size z9l false 0 H H := by
 obtain ⟨h1, h2, h3⟩ := Ao.three (sc9_len z9l_bn.len) h.map_len h.map_len (ar_box u (nc10 H) 98 (nc10_len h) t).ao
 rw [Nat.zero_add] at h2 h3
 exact ⟨⟨h1, z9l_bn, by decide⟩, h2, h3, h, h⟩
end Go.Proofs.YtlnbjehimabaiaaGreatDoor
/-
 HMAC's block byte by byte, the keys one by one, lists of keys in memory. No statement of the seat is proved here.
-/
namespace Go.Proofs.YtlnbjehimabaiaaGreatDoor
open Go.RowKit
set_option maxRecDepth 8000

theorem pad8_copy (c : List Int) : (List.replicate 64 (0 : Int)).take 0 ++ (c ++ (List.replicate 64 0).drop (0 + c.length)) = pad7 c := by
 unfold pad7
 rw [List.take_zero, List.nil_append, Nat.zero_add, List.drop_replicate]
/-- The first k bytes bear the mark. -/
def xw8 (x : Int) (B : List Int) (k : Nat) : List Int := xm8 x (B.take k) ++ B.drop k
theorem xw8_zero (x : Int) (B : List Int) : xw8 x B 0 = B := by unfold xw8 xm8; rw [List.take_zero, List.map_nil, List.drop_zero, List.nil_append]
theorem xw8_all (x : Int) (B : List Int) {n : Nat} (h : B.length = n) : xw8 x B n = xm8 x B := by
 unfold xw8
 rw [List.take_of_length_le (by omega), List.drop_of_length_le (by omega), List.append_nil]
theorem xw8_cut (x : Int) (B : List Int) (k : Nat) (h : k < B.length) : xw8 x B k = xm8 x (B.take k) ++ B[k]! :: B.drop (k + 1) := by
 unfold xw8
 rw [List.drop_eq_getElem_cons h, getElem!_pos B k h]
theorem xw8_plen (x : Int) (B : List Int) (k : Nat) (h : k < B.length) : (xm8 x (B.take k)).length = k := by rw [xm8_len, List.length_take]; omega
theorem xw8_get (x : Int) (B : List Int) (k : Nat) (h : k < B.length) : (xw8 x B k)[k]? = some B[k]! := by
 rw [xw8_cut x B k h, List.getElem?_append_right (by rw [xw8_plen x B k h]; exact Nat.le_refl _), xw8_plen x B k h, Nat.sub_self]
 rfl
theorem xw8_succ (x : Int) (B : List Int) (k : Nat) (h : k < B.length) : xw8 x B (k + 1) = (xw8 x B k).set k (bits .xor .u8 B[k]! x) := by
 rw [xw8_cut x B k h, List.set_append_right _ _ (by rw [xw8_plen x B k h]; exact Nat.le_refl _), xw8_plen x B k h, Nat.sub_self, List.set_cons_zero]
 unfold xw8
 rw [List.take_succ_eq_append_getElem h]
 unfold xm8
 rw [List.map_append, List.map_cons, List.map_nil, List.append_assoc, getElem!_pos B k h]
 rfl
theorem byte_at {n : Nat} {B : List Int} (h : Bn n B) (k : Nat) (hk : k < n) : ∃ y, 0 ≤ y ∧ y ≤ 255 ∧ B[k]! = y := by
 have hl : k < B.length := by rw [h.len]; exact hk
 have := h.byt _ (List.getElem_mem hl)
 exact ⟨B[k], this.1, this.2, getElem!_pos B k hl⟩
theorem cell8 {u : World} {b n k : Nat} {l : List Int} {y : Int} (h : Ar u b n (List.map (Value.int .u8) l)) (hg : l[k]? = some y) (hk : k < n) : u.cell? ⟨b, k, none⟩ = some (.int .u8 y) ∧ u.frozen? ⟨b, k, none⟩ = false := by
 have h1 := h.rng k (.int .u8 y) (by rw [List.getElem?_map, hg]; rfl)
 rw [Nat.zero_add] at h1
 exact ⟨h1, (h.cell k hk).2⟩
/-! ### The keys, one behind the other -/
def ky8 (t : List Int) : Nat → List Int
 | 0 => []
 | k + 1 => hm8 t (ky8 t k ++ [((k + 1 : Nat) : Int)])
theorem ky8_bn (t : List Int) (k : Nat) : Bn 32 (ky8 t (k + 1)) := hm8_bn _ _
def kl8 (t : List Int) : Nat → List (List Int)
 | 0 => []
 | k + 1 => kl8 t k ++ [ky8 t (k + 1)]
theorem kl8_len (t : List Int) : ∀ k, (kl8 t k).length = k
 | 0 => rfl
 | k + 1 => by rw [kl8, List.length_append, kl8_len t k]; rfl
theorem kl8_bn (t : List Int) : ∀ k, ∀ l ∈ kl8 t k, Bn 32 l
 | 0 => fun _ h => by cases h
 | k + 1 => fun l h => by
  rw [kl8] at h
  rcases List.mem_append.1 h with h | h
  ·exact kl8_bn t k l h
  ·rw [List.mem_singleton.1 h]; exact ky8_bn t k
theorem kl8_two (t : List Int) : kl8 t 2 = [hm8 t [1], hm8 t (hm8 t [1] ++ [2])] := rfl
theorem kl8_three (t : List Int) : kl8 t 3 = [hm8 t [1], hm8 t (hm8 t [1] ++ [2]), hm8 t (hm8 t (hm8 t [1] ++ [2]) ++ [3])] := rfl
theorem dv8_kl2 (c i : List Int) : kl8 (hm8 c i) 2 = dv8 c i 2 := rfl
theorem dv8_kl3 (c i : List Int) : kl8 (hm8 c i) 3 = dv8 c i 3 := rfl
theorem flat32 : ∀ {L : List (List Int)}, (∀ l ∈ L, Bn 32 l) → L.flatten.length = 32 * L.length
 | [], _ => rfl
 | l :: L, h => by
  rw [List.flatten_cons, List.length_append, flat32 (fun x hx => h x (by simp [hx])), (h l (by simp)).len, List.length_cons]
  omega
theorem flat_byt : ∀ {L : List (List Int)}, (∀ l ∈ L, Bn 32 l) → Byt L.flatten
 | [], _ => Byt.nil
 | l :: L, h => by
  rw [List.flatten_cons]
  exact (h l (by simp)).byt.app (flat_byt (fun x hx => h x (by simp [hx])))
theorem flat_at : ∀ {L : List (List Int)}, (∀ l ∈ L, Bn 32 l) → ∀ i, i < L.length → (L.flatten.drop (32 * i)).take 32 = L[i]?.getD []
 | [], _, i, hi => by simp at hi
 | l :: L, h, 0, _ => by
  have := (h l (by simp)).len
  rw [List.flatten_cons, Nat.mul_zero, List.drop_zero, List.take_append_of_le_length (by omega), List.take_of_length_le (by omega)]
  rfl
 | l :: L, h, i + 1, hi => by
  have e := (h l (by simp)).len
  have e2 : 32 * (i + 1) = l.length + 32 * i := by omega
  rw [List.flatten_cons, e2, ← List.drop_drop, List.drop_append_of_le_length (Nat.le_refl _), List.drop_of_length_le (Nat.le_refl _), List.nil_append, flat_at (fun x hx => h x (by simp [hx])) i (by simpa using hi)]
  simp
/-- A slice of arrays of thirty-two bytes. -/
structure RdA (u : World) (a : Option Addr) (m : Nat) (L : List (List Int)) : Prop where
 hlen : L.length = m
 bn : ∀ l ∈ L, Bn 32 l
 ar : 0 < m → ∃ g, a = some ⟨g, 0, none⟩ ∧ u.rangeAt g 0 (List.map (Value.int .u8) L.flatten)
theorem RdA.later {u u' : World} {a : Option Addr} {m : Nat} {L : List (List Int)} (h : RdA u a m L) (hb : Below u.heap.size u u') : RdA u' a m L := ⟨h.hlen, h.bn, fun h0 => by
 obtain ⟨g, ha, hr⟩ := h.ar h0
 exact ⟨g, ha, range_later hb hr⟩⟩
theorem RdA.nil (u : World) (a : Option Addr) : RdA u a 0 [] := ⟨rfl, (fun _ h => by cases h), fun h => absurd h (by decide)⟩
theorem RdA.at {u : World} {g m : Nat} {L : List (List Int)} (h : RdA u (some ⟨g, 0, none⟩) m L) (i : Nat) (hi : i < m) : u.rangeAt g (32 * i) (List.map (Value.int .u8) (L[i]?.getD [])) := by
 obtain ⟨g', ha, hr⟩ := h.ar (by omega)
 cases ha
 have := range_sub hr (32 * i) 32
 rw [← List.map_drop, ← List.map_take, flat_at h.bn i (by rw [h.hlen]; exact hi), Nat.zero_add] at this
 exact this
theorem RdA.rd {u : World} {g m : Nat} {L : List (List Int)} (h : RdA u (some ⟨g, 0, none⟩) m L) (i : Nat) (hi : i < m) : Rd u (some ⟨g, 32 * i, none⟩) 32 32 (L[i]?.getD []) := by
 have hr := h.at i hi
 have hL : i < L.length := by rw [h.hlen]; exact hi
 have hb : Bn 32 (L[i]?.getD []) := by rw [List.getElem?_eq_getElem hL]; exact h.bn _ (List.getElem_mem hL)
 refine ⟨hb.len, Nat.le_refl _, (fun e => by cases e), hb.byt, fun _ => ⟨g, 32 * i, rfl, fun j hj => ?_⟩⟩
 have hj2 : j < (L[i]?.getD []).length := by rw [hb.len]; exact hj
 exact hr j _ (by rw [List.getElem?_map, List.getElem?_eq_getElem hj2]; rfl)
end Go.Proofs.YtlnbjehimabaiaaGreatDoor
/-
 What portholehand's Pick and Bytes do: a number within bounds, so many bytes. No statement of the seat is proved here.
-/
namespace Go.Proofs.YtlnbjehimabaiaaGreatDoor
open Go.RowKit
set_option maxRecDepth 8000

set_option maxHeartbeats 1000000 in
theorem pick_any (n m : Int) (hn : -9223372036854775808 ≤ n ∧ n ≤ 9223372036854775807) (hm : 1 ≤ m ∧ m ≤ 1000) (w : World) :
  Calls Tryz.prog 17 #[.int .i64 n, .int .i64 m] w fun e w' => ∃ k, e = .returned (.int .i64 k) ∧ 0 ≤ k ∧ k < m ∧ w' = w := by
 obtain ⟨n0, n1⟩ := hn
 obtain ⟨m0, m1⟩ := hm
 have hl : n.tmod m < m := Int.tmod_lt_of_pos n (by omega)
 have hg : -m < n.tmod m := by
  have := Int.lt_tmod_of_pos n (show 0 < m by omega)
  omega
 by_cases h : 0 ≤ n.tmod m
 ·go_enter Tryz.func17, Tryz.ntmps17
  go_wp2
  go_ret
  exact ⟨_, rfl, h, hl, rfl⟩
 ·go_enter Tryz.func17, Tryz.ntmps17
  go_wp2
  go_ret
  exact ⟨_, rfl, by omega, by omega, rfl⟩
/-- A make at a step of a region that draws its order, where what it makes is known. -/
theorem step_make_run {P : Program} {ops : Array Oper} {o : Oper} {a : Act} {w : World} {K : Act → World → Prop} {Q : Exit → Act → World → Prop} {E : Prop} (hgd : Region.wanted o (yielded ops a.tmps) = true) (l c : Operand) (t : TypeId)
  (ho : o.op = Op.makeSlice t l c) (v1 v2 : Value) (hs : a.eval l = v1) (hx : a.eval c = v2) (v : Value) (w' : World)
  (hr : (Instr.makeSlice t v1 v2).run P w = .ok v w') (h : K (a.put o.dst v) w') : if Region.wanted o (yielded ops a.tmps) = true then Oper.wp P o a w K Q else E := by
 rw [if_pos hgd]
 unfold Oper.wp
 simp [execOp, ho, hs, hx, hr, Result.andThen]
 exact h
theorem bytes_own {w : World} {base g n c : Nat} {e : TypeId} {l : List Int} (h : w.ownsRow base e 1 (.slice (some ⟨g, 0, none⟩) n c) n (List.map (Value.int .u8) l)) (k : Nat) (hk : k < n) : ∃ v, w.cell? ⟨g, k, none⟩ = some (.int .u8 v) ∧ l[k]? = some v := by
 have hl : l.length = n := by simpa using h.1
 refine ⟨l[k]'(by omega), ?_, List.getElem?_eq_getElem _⟩
 rw [World.ownsRow.cellAt h k (by omega), List.getElem?_map, List.getElem?_eq_getElem (by omega)]
 rfl
theorem byt_set {l : List Int} (h : Byt l) (k : Nat) {x : Int} (h0 : 0 ≤ x) (h1 : x ≤ 255) : Byt (l.set k x) := fun y hy => by
 rcases List.mem_or_eq_of_mem_set hy with hy | rfl
 ·exact h y hy
 ·exact ⟨h0, h1⟩
theorem byt_zero (n : Nat) : Byt (List.replicate n 0) := fun x hx => by rw [(List.mem_replicate.1 hx).2]; decide
theorem made_zero (n : Nat) : (madeCells (Value.int .u8 0).cells (n * 1)).toList = List.map (Value.int .u8) (List.replicate n 0) := by
 have := toList_madeCells_one (.int .u8 0) n
 rw [List.map_replicate, ← this]
 simp [Value.cells]

end Go.Proofs.YtlnbjehimabaiaaGreatDoor
/-
 Slices of bytes of one's own. No statement of the seat is proved here.
-/
namespace Go.Proofs.YtlnbjehimabaiaaGreatDoor
open Go.RowKit
set_option maxRecDepth 8000

/-- A slice of one's own that holds these bytes. -/
structure Ow (u : World) (g n : Nat) (l : List Int) : Prop where
 own : ∃ base, u.ownsRow base 5 1 (.slice (some ⟨g, 0, none⟩) n n) n (List.map (Value.int .u8) l)
 byt : Byt l
theorem Ow.len {u : World} {g n : Nat} {l : List Int} (h : Ow u g n l) : l.length = n := by obtain ⟨_, h⟩ := h.own; simpa using h.1
theorem Ow.lt {u : World} {g n : Nat} {l : List Int} (h : Ow u g n l) : g < u.heap.size := by obtain ⟨_, h⟩ := h.own; exact (h.lt g (by simp [Value.ownBlock])).2
theorem Ow.later {u v : World} {g n : Nat} {l : List Int} (h : Ow u g n l) (hb : Below u.heap.size u v) : Ow v g n l := ⟨by obtain ⟨b, h⟩ := h.own; exact ⟨b, owns_later h hb⟩, h.byt⟩
theorem Ow.rd {u : World} {g n : Nat} {l : List Int} (h : Ow u g n l) : Rd u (some ⟨g, 0, none⟩) n n l := by obtain ⟨_, h'⟩ := h.own; exact Rd.owns h.byt h'
theorem Ow.cell {u : World} {g n : Nat} {l : List Int} (h : Ow u g n l) (k : Nat) (hk : k < n) : ∃ v, u.cell? ⟨g, k, none⟩ = some (.int .u8 v) ∧ u.frozen? ⟨g, k, none⟩ = false ∧ l[k]? = some v ∧ 0 ≤ v ∧ v ≤ 255 := by
 obtain ⟨_, h'⟩ := h.own
 obtain ⟨v, h1, h2⟩ := bytes_own h' k hk
 exact ⟨v, h1, World.ownsRow.frozenAt h' k, h2, h.byt v (List.mem_of_getElem? h2)⟩
theorem Ow.set {u : World} {g n : Nat} {l : List Int} (h : Ow u g n l) (k : Nat) {v : Int} (h0 : 0 ≤ v) (h1 : v ≤ 255) : Ow (u.setCell ⟨g, k, none⟩ (.int .u8 v)) g n (l.set k v) := ⟨by
 obtain ⟨b, h'⟩ := h.own
 refine ⟨b, ?_⟩
 rw [List.map_set]
 exact (h'.stored k _).1, byt_set h.byt k h0 h1⟩
theorem Ow.else {u : World} {g n : Nat} {l : List Int} (h : Ow u g n l) (c k : Nat) (hc : g ≠ c) (v : Value) : Ow (u.setCell ⟨c, k, none⟩ v) g n l := ⟨by
 obtain ⟨b, h'⟩ := h.own
 exact ⟨b, h'.kept (w' := u.setCell ⟨c, k, none⟩ v) (row := some c) ⟨rfl, rfl, rfl, by simp, fun i hi hne => Below.heap_setCell _ _ _ _ (fun e => hne (by simp [e]))⟩ (.inr (by simp [Value.ownBlock]; exact fun e => hc e))⟩, h.byt⟩
theorem wpAnyH_mono {P : Program} {md : Region.Mode} {ops : Array Oper} {Q : Exit → Act → World → Prop} {S S' : World → Prop} (hS : ∀ u, S' u → S u) :
  ∀ {fuel : Nat} {listed : Array Bool} {a : Act} {w : World}, wpAnyH P md ops Q S' fuel listed a w → wpAnyH P md ops Q S fuel listed a w
 | 0, _, _, _, h => h
 | _ + 1, _, _, _, h => ⟨h.1, fun i hi => wpOp_mono (fun _ _ h' => ⟨hS _ h'.1, wpAnyH_mono hS h'.2⟩) (h.2 i hi)⟩
theorem str_of {w : World} {a : Option Addr} {len cap : Nat} {l : List Int} (h : Rd w a len cap l) : (convert 25 9 (.slice a len cap)).run Tryz.prog w = .ok (.string (strOfNums l)) w := h.str _ 5 _ Tryz.underlying25 Tryz.underlying5 Tryz.underlying9
theorem xorL_self : ∀ {a : List Int}, Byt a → xorL a a = List.replicate a.length 0
 | [], _ => rfl
 | x :: a, h => by
  have hx := h x (by simp)
  have e := xorL_self (a := a) (fun y hy => h y (List.mem_cons_of_mem _ hy))
  unfold xorL at e ⊢
  rw [List.zipWith_cons_cons, e, List.length_cons, List.replicate_succ, (xor8 x x hx hx).2.2.2 rfl]
end Go.Proofs.YtlnbjehimabaiaaGreatDoor
/-
 What chacha's turned and Quarter do: words turned round and mixed. No statement of the seat is proved here.
-/
namespace Go.Proofs.YtlnbjehimabaiaaGreatDoor
open Go.RowKit
set_option maxRecDepth 8000

/-- A word of 32 bits. -/
def W32 (x : Int) : Prop := 0 ≤ x ∧ x < 4294967296
def xr (a b : Int) : Int := bits .xor .u32 a b
def rot (n : Nat) (x : Int) : Int := bits .or .u32 (x * 2 ^ n % 4294967296) (x / 2 ^ (32 - n))
theorem xr_w {a b : Int} (ha : W32 a) (hb : W32 b) : W32 (xr a b) := by
 unfold xr
 rw [u32_xor a b ha.1 ha.2 hb.1 hb.2]
 have h0 := ha.1
 have h1 := ha.2
 have h2 := hb.1
 have h3 := hb.2
 have h : a.toNat ^^^ b.toNat < 2 ^ 32 := Nat.xor_lt_two_pow (by omega) (by omega)
 exact ⟨by omega, by omega⟩
theorem or_w {a b : Int} (ha : W32 a) (hb : W32 b) : W32 (bits .or .u32 a b) := by
 rw [u32_or a b ha.1 ha.2 hb.1 hb.2]
 have h0 := ha.1
 have h1 := ha.2
 have h2 := hb.1
 have h3 := hb.2
 have h : a.toNat ||| b.toNat < 2 ^ 32 := Nat.or_lt_two_pow (by omega) (by omega)
 exact ⟨by omega, by omega⟩
theorem rot_w (n : Nat) {x : Int} (hx : W32 x) : W32 (rot n x) := by
 unfold rot
 refine or_w ⟨by omega, by omega⟩ ⟨Int.ediv_nonneg hx.1 (Int.pow_nonneg (by decide)), ?_⟩
 exact Int.lt_of_le_of_lt (Int.ediv_le_self _ hx.1) hx.2
def ad (a b : Int) : Int := (a + b) % 4294967296
theorem ad_w (a b : Int) : W32 (ad a b) := ⟨by unfold ad; omega, by unfold ad; omega⟩
theorem wrap_ad (a b : Int) : IntKind.u32.wrap (a + b) = ad a b := by rw [IntKind.wrap_u32']; rfl

theorem rot16_eq (x : Int) : rot 16 x = bits .or .u32 (x * 65536 % 4294967296) (x / 65536) := rfl
set_option maxHeartbeats 400000 in
theorem turn16_c (x : Int) (hx : W32 x) (w : World) :
  Calls Tryz.prog 177 #[.int .u32 x, .int .i64 16] w fun e w' => ∃ z, e = .returned (.int .u32 z) ∧ Hid (z = rot 16 x) ∧ W32 z ∧ Below w.heap.size w w' := by
 have HZ : Hid (W32 (rot 16 x)) := rot_w 16 hx
 rw [rot16_eq] at HZ
 obtain ⟨x0, x1⟩ := hx
 go_enter Tryz.func177, Tryz.ntmps177
 go_wp2
 go_quiet (fail)
 go_wp2
 go_ret
 exact ⟨_, rfl, rfl, HZ.out, below_drewN (Below.refl _ _) _⟩

theorem rot12_eq (x : Int) : rot 12 x = bits .or .u32 (x * 4096 % 4294967296) (x / 1048576) := rfl
set_option maxHeartbeats 400000 in
theorem turn12_c (x : Int) (hx : W32 x) (w : World) :
  Calls Tryz.prog 177 #[.int .u32 x, .int .i64 12] w fun e w' => ∃ z, e = .returned (.int .u32 z) ∧ Hid (z = rot 12 x) ∧ W32 z ∧ Below w.heap.size w w' := by
 have HZ : Hid (W32 (rot 12 x)) := rot_w 12 hx
 rw [rot12_eq] at HZ
 obtain ⟨x0, x1⟩ := hx
 go_enter Tryz.func177, Tryz.ntmps177
 go_wp2
 go_quiet (fail)
 go_wp2
 go_ret
 exact ⟨_, rfl, rfl, HZ.out, below_drewN (Below.refl _ _) _⟩

theorem rot8_eq (x : Int) : rot 8 x = bits .or .u32 (x * 256 % 4294967296) (x / 16777216) := rfl
set_option maxHeartbeats 400000 in
theorem turn8_c (x : Int) (hx : W32 x) (w : World) :
  Calls Tryz.prog 177 #[.int .u32 x, .int .i64 8] w fun e w' => ∃ z, e = .returned (.int .u32 z) ∧ Hid (z = rot 8 x) ∧ W32 z ∧ Below w.heap.size w w' := by
 have HZ : Hid (W32 (rot 8 x)) := rot_w 8 hx
 rw [rot8_eq] at HZ
 obtain ⟨x0, x1⟩ := hx
 go_enter Tryz.func177, Tryz.ntmps177
 go_wp2
 go_quiet (fail)
 go_wp2
 go_ret
 exact ⟨_, rfl, rfl, HZ.out, below_drewN (Below.refl _ _) _⟩

theorem rot7_eq (x : Int) : rot 7 x = bits .or .u32 (x * 128 % 4294967296) (x / 33554432) := rfl
set_option maxHeartbeats 400000 in
theorem turn7_c (x : Int) (hx : W32 x) (w : World) :
  Calls Tryz.prog 177 #[.int .u32 x, .int .i64 7] w fun e w' => ∃ z, e = .returned (.int .u32 z) ∧ Hid (z = rot 7 x) ∧ W32 z ∧ Below w.heap.size w w' := by
 have HZ : Hid (W32 (rot 7 x)) := rot_w 7 hx
 rw [rot7_eq] at HZ
 obtain ⟨x0, x1⟩ := hx
 go_enter Tryz.func177, Tryz.ntmps177
 go_wp2
 go_quiet (fail)
 go_wp2
 go_ret
 exact ⟨_, rfl, rfl, HZ.out, below_drewN (Below.refl _ _) _⟩

/-- Four words, mixed. -/
def q4 (a b c d : Int) : Int × Int × Int × Int :=
 let a1 := ad a b
 let d1 := rot 16 (xr d a1)
 let c1 := ad c d1
 let b1 := rot 12 (xr b c1)
 let a2 := ad a1 b1
 let d2 := rot 8 (xr d1 a2)
 let c2 := ad c1 d2
 let b2 := rot 7 (xr b1 c2)
 (a2, b2, c2, d2)
theorem q4_of {a b c d a1 d1 c1 b1 a2 d2 c2 b2 : Int} (h1 : a1 = ad a b) (h2 : d1 = rot 16 (xr d a1)) (h3 : c1 = ad c d1) (h4 : b1 = rot 12 (xr b c1)) (h5 : a2 = ad a1 b1) (h6 : d2 = rot 8 (xr d1 a2)) (h7 : c2 = ad c1 d2) (h8 : b2 = rot 7 (xr b1 c2)) : (a2, b2, c2, d2) = q4 a b c d := by
 simp only [q4, ← h1, ← h2, ← h3, ← h4, ← h5, ← h6, ← h7, ← h8]

set_option maxHeartbeats 1000000 in
theorem quarter_c (a b c d : Int) (ha : W32 a) (hb : W32 b) (hc : W32 c) (hd : W32 d) (w : World) :
  Calls Tryz.prog 169 #[.int .u32 a, .int .u32 b, .int .u32 c, .int .u32 d] w fun e w' => ∃ p q r s, e = .returned (.tuple #[.int .u32 p, .int .u32 q, .int .u32 r, .int .u32 s]) ∧ Hid ((p, q, r, s) = q4 a b c d) ∧ W32 p ∧ W32 q ∧ W32 r ∧ W32 s ∧ Below w.heap.size w w' := by
 obtain ⟨a0, a9⟩ := ha
 obtain ⟨b0, b9⟩ := hb
 obtain ⟨c0, c9⟩ := hc
 obtain ⟨d0, d9⟩ := hd
 have HB : Hid (Below w.heap.size w w) := Below.refl _ _
 go_enter Tryz.func169, Tryz.ntmps169
 go_wp2_with fail
 have k1 : 0 ≤ (a + b) % 4294967296 := by omega
 have l1 : (a + b) % 4294967296 < 4294967296 := by omega
 generalize h1 : (a + b) % 4294967296 = a1 at *
 have Ha1 : Hid (a1 = ad a b) := h1.symm
 clear h1
 refine (turn16_c _ (xr_w (a := d) (b := a1) ⟨by omega, by omega⟩ ⟨k1, l1⟩) _).mono ?_
 rintro e w1 ⟨d1, rfl, Hd1, ⟨m1, n1⟩, hb⟩
 replace HB := hidp (HB.out.trans (hb.mono HB.out.size))
 clear hb
 go_wp2_with fail
 have k2 : 0 ≤ (c + d1) % 4294967296 := by omega
 have l2 : (c + d1) % 4294967296 < 4294967296 := by omega
 generalize h2 : (c + d1) % 4294967296 = c1 at *
 have Hc1 : Hid (c1 = ad c d1) := h2.symm
 clear h2
 refine (turn12_c _ (xr_w (a := b) (b := c1) ⟨by omega, by omega⟩ ⟨k2, l2⟩) _).mono ?_
 rintro e w2 ⟨b1, rfl, Hb1, ⟨m2, n2⟩, hb⟩
 replace HB := hidp (HB.out.trans (hb.mono HB.out.size))
 clear hb
 go_wp2_with fail
 have k3 : 0 ≤ (a1 + b1) % 4294967296 := by omega
 have l3 : (a1 + b1) % 4294967296 < 4294967296 := by omega
 generalize h3 : (a1 + b1) % 4294967296 = a2 at *
 have Ha2 : Hid (a2 = ad a1 b1) := h3.symm
 clear h3
 refine (turn8_c _ (xr_w (a := d1) (b := a2) ⟨by omega, by omega⟩ ⟨k3, l3⟩) _).mono ?_
 rintro e w3 ⟨d2, rfl, Hd2, ⟨m3, n3⟩, hb⟩
 replace HB := hidp (HB.out.trans (hb.mono HB.out.size))
 clear hb
 go_wp2_with fail
 have k4 : 0 ≤ (c1 + d2) % 4294967296 := by omega
 have l4 : (c1 + d2) % 4294967296 < 4294967296 := by omega
 generalize h4 : (c1 + d2) % 4294967296 = c2 at *
 have Hc2 : Hid (c2 = ad c1 d2) := h4.symm
 clear h4
 refine (turn7_c _ (xr_w (a := b1) (b := c2) ⟨by omega, by omega⟩ ⟨k4, l4⟩) _).mono ?_
 rintro e w4 ⟨b2, rfl, Hb2, ⟨m4, n4⟩, hb⟩
 replace HB := hidp (HB.out.trans (hb.mono HB.out.size))
 clear hb
 go_wp2
 refine bodyPost_ret (v := .tuple #[.int .u32 a2, .int .u32 b2, .int .u32 c2, .int .u32 d2]) (by simp [results, Tryz.results169, go_sem]) rfl ?_
 exact ⟨_, _, _, _, rfl, q4_of Ha1.out Hd1.out Hc1.out Hb1.out Ha2.out Hd2.out Hc2.out Hb2.out, ⟨k3, l3⟩, ⟨m4, n4⟩, ⟨k4, l4⟩, ⟨m3, n3⟩, HB.out⟩
end Go.Proofs.YtlnbjehimabaiaaGreatDoor
