/-
  Several texts of one's own, laid together. No statement of the seat is proved here.
-/
import Derived.Test.YtmibjgkakolhiaaDoorBHx
import Derived.Test.YtmibjgkakolhiaaDoorPk21
/-
  HMAC over BLAKE2s and the keys that are derived, on lists. No statement of the seat is proved here.
-/
namespace Go.Proofs.YtmibjgkakolhiaaDoor
open Go.RowKit

/-- The key, filled up to a block: its sum where it is longer. -/
def kp8 (key : List Int) : List Int := pad7 (if 64 < key.length then sum7 key else key)
/-- Every byte with this mark. -/
def xm8 (x : Int) (l : List Int) : List Int := l.map fun a => bits .xor .u8 a x
def hm8 (key text : List Int) : List Int := sum7 (xm8 92 (kp8 key) ++ sum7 (xm8 54 (kp8 key) ++ text))
/-- The keys. -/
def dt8 (chain input : List Int) : List Int := hm8 chain input
def da8 (chain input : List Int) : List Int := hm8 (dt8 chain input) [1]
def db8 (chain input : List Int) : List Int := hm8 (dt8 chain input) (da8 chain input ++ [2])
def dc8 (chain input : List Int) : List Int := hm8 (dt8 chain input) (db8 chain input ++ [3])
def dv8 (chain input : List Int) (n : Int) : List (List Int) := if n = 2 then [da8 chain input, db8 chain input] else if n = 3 then [da8 chain input, db8 chain input, dc8 chain input] else []

set_option maxRecDepth 8000 in
theorem hm8_bn (key text : List Int) : Bn 32 (hm8 key text) := sum7_bn _
set_option maxRecDepth 8000 in
theorem kp8_in (key : List Int) : (if 64 < key.length then sum7 key else key).length ≤ 64 := by
  split
  · rw [(sum7_bn key).len]; decide
  · omega
set_option maxRecDepth 8000 in
theorem kp8_len (key : List Int) : (kp8 key).length = 64 := pad7_len (kp8_in key)
set_option maxRecDepth 8000 in
theorem kp8_byt {key : List Int} (h : Byt key) : Byt (kp8 key) := by
  unfold kp8 pad7
  refine Byt.app ?_ (byt_zero7 _)
  split
  · exact (sum7_bn key).byt
  · exact h
set_option maxRecDepth 8000 in
theorem kp8_bn {key : List Int} (h : Byt key) : Bn 64 (kp8 key) := ⟨kp8_len key, kp8_byt h⟩
set_option maxRecDepth 8000 in
theorem xm8_len (x : Int) (l : List Int) : (xm8 x l).length = l.length := List.length_map _
set_option maxRecDepth 8000 in
theorem xm8_byt {x : Int} (hx : 0 ≤ x ∧ x ≤ 255) {l : List Int} (h : Byt l) : Byt (xm8 x l) := fun y hy => by
  obtain ⟨a, ha, rfl⟩ := List.mem_map.1 hy
  have := xor8 a x (h a ha) hx
  exact ⟨this.1, this.2.1⟩
set_option maxRecDepth 8000 in
theorem xm8_at (x : Int) (l : List Int) (i : Nat) (hi : i < l.length) : (xm8 x l)[i]! = bits .xor .u8 l[i]! x := by
  rw [getElem!_pos _ i (by rw [xm8_len]; exact hi), getElem!_pos l i hi]
  unfold xm8
  rw [List.getElem_map]
set_option maxRecDepth 8000 in
/-- A key that is longer than a block counts as its sum. -/
theorem kp8_long {key : List Int} (h : 64 < key.length) : kp8 (sum7 key) = kp8 key := by
  unfold kp8
  rw [if_pos h, if_neg (by rw [(sum7_bn key).len]; decide)]
set_option maxRecDepth 8000 in
theorem hm8_long {key : List Int} (h : 64 < key.length) (text : List Int) : hm8 (sum7 key) text = hm8 key text := by
  unfold hm8
  rw [kp8_long h]
set_option maxRecDepth 8000 in
/-- Noughts behind a key, up to a block, count for nothing. -/
theorem kp8_zeros (key : List Int) (z : Nat) (h : key.length + z ≤ 64) : kp8 (key ++ List.replicate z 0) = kp8 key := by
  unfold kp8
  rw [if_neg (by rw [List.length_append, List.length_replicate]; omega), if_neg (by omega)]
  unfold pad7
  rw [List.length_append, List.length_replicate, List.append_assoc, List.replicate_append_replicate]
  congr 2
  omega
set_option maxRecDepth 8000 in
theorem hm8_zeros (key : List Int) (z : Nat) (h : key.length + z ≤ 64) (text : List Int) : hm8 (key ++ List.replicate z 0) text = hm8 key text := by
  unfold hm8
  rw [kp8_zeros key z h]
set_option maxRecDepth 8000 in
theorem dv8_len2 (chain input : List Int) : (dv8 chain input 2).length = 2 := rfl
set_option maxRecDepth 8000 in
theorem dv8_len3 (chain input : List Int) : (dv8 chain input 3).length = 3 := rfl
set_option maxRecDepth 8000 in
theorem dv8_bn (chain input : List Int) (n : Int) : ∀ l ∈ dv8 chain input n, Bn 32 l := fun l hl => by
  unfold dv8 at hl
  split at hl
  · rcases List.mem_cons.1 hl with rfl | hl
    · exact hm8_bn _ _
    · rw [List.mem_singleton.1 hl]; exact hm8_bn _ _
  · split at hl
    · rcases List.mem_cons.1 hl with rfl | hl
      · exact hm8_bn _ _
      · rcases List.mem_cons.1 hl with rfl | hl
        · exact hm8_bn _ _
        · rw [List.mem_singleton.1 hl]; exact hm8_bn _ _
    · cases hl
end Go.Proofs.YtmibjgkakolhiaaDoor
/-
  A handshake's symmetric state in memory: the cipher, the hash, the chain key. No statement of the seat is proved here.
-/
namespace Go.Proofs.YtmibjgkakolhiaaDoor
open Go.RowKit

/-- A name as a hash. -/
def nm10 (l : List Int) : List Int := if l.length ≤ 32 then l ++ List.replicate (32 - l.length) 0 else sum7 l
set_option maxRecDepth 8000 in
theorem nm10_bn {l : List Int} (h : Byt l) : Bn 32 (nm10 l) := by
  unfold nm10
  split
  · exact ⟨by rw [List.length_append, List.length_replicate]; omega, h.app (fun x hx => by rw [(List.mem_replicate.1 hx).2]; decide)⟩
  · exact sum7_bn _
/-- The hash behind a box or a text. -/
def h10 (e : Int) (H x : List Int) : List Int := if e = 0 then sum7 (H ++ x) else H
set_option maxRecDepth 8000 in
theorem h10_bn {e : Int} {H x : List Int} (h : Bn 32 H) : Bn 32 (h10 e H x) := by
  unfold h10
  split
  · exact sum7_bn _
  · exact h
section
variable {u u' : World} {b o : Nat}
set_option maxRecDepth 8000 in
theorem Ao.three {x y z : List Value} (hx : x.length = 34) (hy : y.length = 32) (hz : z.length = 32) (h : Ao u b o 98 (x ++ (y ++ z))) : Ao u b o 34 x ∧ Ao u b (o + 34) 32 y ∧ Ao u b (o + 66) 32 z := by
  refine ⟨?_, ?_, ?_⟩
  · have := h.sub 0 34 (by decide)
    rwa [List.drop_zero, List.take_left' hx, Nat.add_zero] at this
  · have := h.sub 34 32 (by decide)
    rwa [List.drop_left' hx, List.take_left' hy] at this
  · have := h.sub 66 32 (by decide)
    rwa [← List.append_assoc, List.drop_left' (by rw [List.length_append, hx, hy]), List.take_of_length_le (by rw [hz]; exact Nat.le_refl _)] at this
set_option maxRecDepth 8000 in
theorem Ao.join3 {x y z : List Value} (hx : Ao u b o 34 x) (hy : Ao u b (o + 34) 32 y) (hz : Ao u b (o + 66) 32 z) : Ao u b o 98 (x ++ (y ++ z)) :=
  ⟨range_app hx.rng (by rw [hx.len]; exact range_app hy.rng (by rw [hy.len]; exact hz.rng)), fun j hj => by
    by_cases h1 : j < 34
    · exact hx.all j h1
    · by_cases h2 : j < 66
      · have := hy.all (j - 34) (by omega)
        rwa [show o + 34 + (j - 34) = o + j by omega] at this
      · have := hz.all (j - 66) (by omega)
        rwa [show o + 66 + (j - 66) = o + j by omega] at this, by rw [List.length_append, List.length_append, hx.len, hy.len, hz.len]⟩
set_option maxRecDepth 8000 in
theorem Ao.rd32 {H : List Int} (h : Ao u b o 32 (List.map (Value.int .u8) H)) (hb : Bn 32 H) : Rd u (some ⟨b, o, none⟩) 32 32 H :=
  ⟨hb.len, Nat.le_refl _, (fun e => by cases e), hb.byt, fun _ => ⟨b, o, rfl, fun j hj => by
    have hj2 : j < H.length := by rw [hb.len]; exact hj
    exact h.rng j _ (by rw [List.getElem?_map, List.getElem?_eq_getElem hj2]; rfl)⟩⟩
end
/-- The State in block b: the cipher's key k (h: whether it has one) and nonce n, the hash H, the chain key C. -/
structure My (u : World) (b : Nat) (k : List Int) (h : Bool) (n : Int) (H C : List Int) : Prop where
  sy : Sy u b 0 k h n
  ho : Ao u b 34 32 (List.map (Value.int .u8) H)
  co : Ao u b 66 32 (List.map (Value.int .u8) C)
  bh : Bn 32 H
  bc : Bn 32 C
section
variable {u u' : World} {b : Nat} {k : List Int} {h : Bool} {n : Int} {H C : List Int}
set_option maxRecDepth 8000 in
theorem My.later (s : My u b k h n H C) (hb : Below u.heap.size u u') : My u' b k h n H C := ⟨s.sy.later hb, s.ho.later hb, s.co.later hb, s.bh, s.bc⟩
set_option maxRecDepth 8000 in
theorem My.extb {bo : Nat} (s : My u b k h n H C) (hb : ExtB bo u u') (hne : b ≠ bo) : My u' b k h n H C := ⟨s.sy.extb hb hne, s.ho.extb hb hne, s.co.extb hb hne, s.bh, s.bc⟩
set_option maxRecDepth 8000 in
theorem My.drew (s : My u b k h n H C) : My u.drew b k h n H C := ⟨s.sy.drew, s.ho.drew, s.co.drew, s.bh, s.bc⟩
set_option maxRecDepth 8000 in
theorem My.lt (s : My u b k h n H C) : b < u.heap.size := s.sy.lt
set_option maxRecDepth 8000 in
theorem My.rdH (s : My u b k h n H C) : Rd u (some ⟨b, 34, none⟩) 32 32 H := s.ho.rd32 s.bh
set_option maxRecDepth 8000 in
theorem My.rdC (s : My u b k h n H C) : Rd u (some ⟨b, 66, none⟩) 32 32 C := s.co.rd32 s.bc
set_option maxRecDepth 8000 in
/-- The cipher alone has turned. -/
theorem My.cip (s : My u b k h n H C) {k' : List Int} {h' : Bool} {n' : Int} (t : Sy u' b 0 k' h' n') (hb : ExtR b 0 34 u u') : My u' b k' h' n' H C :=
  ⟨t, s.ho.extr hb (by omega), s.co.extr hb (by omega), s.bh, s.bc⟩
set_option maxRecDepth 8000 in
theorem My.setH (s : My u b k h n H C) {H' : List Int} (hh : Bn 32 H') : My (u.setCells b 34 (List.map (Value.int .u8) H')) b k h n H' C := by
  have hx : ExtR b 34 32 u (u.setCells b 34 (List.map (Value.int .u8) H')) := ExtR.cells _ _ (ExtR.refl _ _ _ _) (Nat.le_refl _) (by rw [hh.map_len]; omega)
  exact ⟨s.sy.extr hx (by omega), Ao.all_set s.ho.all hh.map_len, s.co.extr hx (by omega), hh, s.bc⟩
set_option maxRecDepth 8000 in
theorem My.setC (s : My u b k h n H C) {C' : List Int} (hc : Bn 32 C') : My (u.setCells b 66 (List.map (Value.int .u8) C')) b k h n H C' := by
  have hx : ExtR b 66 32 u (u.setCells b 66 (List.map (Value.int .u8) C')) := ExtR.cells _ _ (ExtR.refl _ _ _ _) (Nat.le_refl _) (by rw [hc.map_len]; omega)
  exact ⟨s.sy.extr hx (by omega), s.ho.extr hx (by omega), Ao.all_set s.co.all hc.map_len, s.bh, hc⟩
set_option maxRecDepth 8000 in
/-- Where bytes lie from 0 to 63 there is no State: it has a truth value there. -/
theorem My.far (s : My u b k h n H C) {g : Nat} {B : List Int} (hB : Bn 32 B) (hr : u.rangeAt g 32 (List.map (Value.int .u8) B)) : g ≠ b := fun e => by
  subst e
  obtain ⟨x, r, rfl⟩ : ∃ x r, B = x :: r := by
    cases B with
    | nil => exact absurd hB.len (by decide)
    | cons x r => exact ⟨x, r, rfl⟩
  have h1 := hr 0 (.int .u8 x) rfl
  have h2 := s.sy.has.1
  rw [Nat.add_zero] at h1
  rw [Nat.zero_add, h1] at h2
  cases h2
end
/-- The cells of a State that is begun. -/
def nc10 (H : List Int) : List Value := sc9 z9l false 0 ++ (List.map (Value.int .u8) H ++ List.map (Value.int .u8) H)
set_option maxRecDepth 8000 in
theorem nc10_len {H : List Int} (h : Bn 32 H) : (nc10 H).length = 98 := by
  unfold nc10
  rw [List.length_append, List.length_append, h.map_len, sc9_len z9l_bn.len]
set_option maxRecDepth 8000 in
theorem my_new (u : World) (H : List Int) (h : Bn 32 H) (t : TypeId) : My (u.alloc (.cells (nc10 H).toArray t)) u.heap.size z9l false 0 H H := by
  obtain ⟨h1, h2, h3⟩ := Ao.three (sc9_len z9l_bn.len) h.map_len h.map_len (ar_box u (nc10 H) 98 (nc10_len h) t).ao
  rw [Nat.zero_add] at h2 h3
  exact ⟨⟨h1, z9l_bn, by decide⟩, h2, h3, h, h⟩
end Go.Proofs.YtmibjgkakolhiaaDoor
