/-
  Several texts of one's own, laid together. No statement of the seat is proved here.
-/
import Derived.Test.YtmibjgkakolhiaaDoorBPress
import Derived.Test.YtmibjgkakolhiaaDoorPk4
/-
  A Hash that holds the bytes written to it so far: how it goes on. No statement of the seat is proved here.
-/
namespace Go.Proofs.YtmibjgkakolhiaaDoor
open Go.RowKit

/-- The Hash in block b has taken k blocks of T, and holds the rest. -/
def Hp (u : World) (b : Nat) (T : List Int) (k : Nat) : Prop := Hs u b (hb7 T k) ((64 * k : Nat) : Int) (pad7 (T.drop (64 * k))) (T.length - 64 * k)
/-- The Hash in block b holds the bytes T. -/
structure Hx (u : World) (b : Nat) (T : List Int) : Prop where
  h : Hp u b T (kb7 T.length)
  byt : Byt T
set_option maxRecDepth 8000 in
theorem Hx.later {u u' : World} {b : Nat} {T : List Int} (h : Hx u b T) (hb : Below u.heap.size u u') : Hx u' b T := ⟨Hs.later h.h hb, h.byt⟩
set_option maxRecDepth 8000 in
theorem Hx.extb {u u' : World} {b bo : Nat} {T : List Int} (h : Hx u b T) (hb : ExtB bo u u') (hne : b ≠ bo) : Hx u' b T := ⟨Hs.extb h.h hb hne, h.byt⟩
set_option maxRecDepth 8000 in
theorem Hx.lt {u : World} {b : Nat} {T : List Int} (h : Hx u b T) : b < u.heap.size := Hs.lt h.h
set_option maxRecDepth 8000 in
theorem kb7_le (n : Nat) : 64 * kb7 n ≤ n := by unfold kb7; omega
set_option maxRecDepth 8000 in
theorem kb7_held (n : Nat) : n - 64 * kb7 n ≤ 64 := by unfold kb7; omega
set_option maxRecDepth 8000 in
theorem pad7_len {l : List Int} (h : l.length ≤ 64) : (pad7 l).length = 64 := by
  unfold pad7
  rw [List.length_append, List.length_replicate]
  omega
set_option maxRecDepth 8000 in
theorem pad7_full {l : List Int} (h : l.length = 64) : pad7 l = l := by
  unfold pad7
  rw [h]
  simp
set_option maxRecDepth 8000 in
theorem pad7_nil : pad7 [] = List.replicate 64 0 := rfl
set_option maxRecDepth 8000 in
/-- A full block is pressed in. -/
theorem hp_pressed {u : World} {b : Nat} {T : List Int} {k : Nat} (hl : T.length = 64 * k + 64) (h : Hs u b (pr7 (hb7 T k) (pad7 (T.drop (64 * k))) (((64 * k : Nat) : Int) + ((T.length - 64 * k : Nat) : Int)) false) (((64 * k : Nat) : Int) + ((T.length - 64 * k : Nat) : Int)) (List.replicate 64 0) 0) : Hp u b T (k + 1) := by
  have e1 : ((64 * k : Nat) : Int) + ((T.length - 64 * k : Nat) : Int) = ((64 * (k + 1) : Nat) : Int) := by omega
  have e2 : (T.drop (64 * k)).length = 64 := by rw [List.length_drop]; omega
  have e3 : (T.drop (64 * k)).take 64 = T.drop (64 * k) := List.take_of_length_le (by omega)
  have e4 : T.drop (64 * (k + 1)) = [] := List.drop_eq_nil_of_le (by omega)
  have e5 : T.length - 64 * (k + 1) = 0 := by omega
  rw [e1, pad7_full e2, ← e3] at h
  unfold Hp
  rw [e4, e5, pad7_nil, hb7]
  exact h
set_option maxRecDepth 8000 in
/-- Bytes are laid into the block that waits. -/
theorem pad7_part (Z y : List Int) (_h : Z.length + y.length ≤ 64) : (pad7 Z).take Z.length ++ (y ++ (pad7 Z).drop (Z.length + y.length)) = pad7 (Z ++ y) := by
  unfold pad7
  rw [List.take_append_of_le_length (Nat.le_refl _), List.take_of_length_le (Nat.le_refl _), ← List.drop_drop, List.drop_append_of_le_length (Nat.le_refl _), List.drop_of_length_le (Nat.le_refl _), List.nil_append, List.drop_replicate, List.append_assoc, List.length_append]
  congr 3
  omega
set_option maxRecDepth 8000 in
theorem hp_more {u : World} {b : Nat} {T : List Int} (y : List Int) (hT : Byt T) (hy : Byt y) (h0 : 0 < y.length) (h1 : T.length % 64 + y.length ≤ 64)
    (h : Hs u b (hb7 T (T.length / 64)) ((64 * (T.length / 64) : Nat) : Int) ((pad7 (T.drop (64 * (T.length / 64)))).take (T.length % 64) ++ (y ++ (pad7 (T.drop (64 * (T.length / 64)))).drop (T.length % 64 + y.length))) (T.length % 64 + y.length)) : Hx u b (T ++ y) := by
  have e1 : kb7 (T ++ y).length = T.length / 64 := by unfold kb7; rw [List.length_append]; omega
  have e2 : (T.drop (64 * (T.length / 64))).length = T.length % 64 := by rw [List.length_drop]; omega
  refine ⟨?_, hT.app hy⟩
  unfold Hp
  rw [e1, hb7_app T y _ (by omega), List.drop_append_of_le_length (by omega), ← pad7_part _ y (by omega), e2]
  have e3 : (T ++ y).length - 64 * (T.length / 64) = T.length % 64 + y.length := by rw [List.length_append]; omega
  rw [e3]
  exact h
set_option maxRecDepth 8000 in
theorem kb7_div {n : Nat} (h : n - 64 * kb7 n ≠ 64) : kb7 n = n / 64 := by unfold kb7 at h ⊢; omega
set_option maxRecDepth 8000 in
theorem kb7_full {n : Nat} (h : n - 64 * kb7 n = 64) : n = 64 * kb7 n + 64 ∧ n / 64 = kb7 n + 1 := by unfold kb7 at h ⊢; omega
set_option maxRecDepth 8000 in
theorem sum7_end {T : List Int} {t : Int} (ht : t = ((64 * kb7 T.length : Nat) : Int) + ((T.length - 64 * kb7 T.length : Nat) : Int)) : ou7 (pr7 (hb7 T (kb7 T.length)) (pad7 (T.drop (64 * kb7 T.length))) t true) 8 = sum7 T := by
  have h := kb7_le T.length
  have e : t = (T.length : Int) := by omega
  rw [sum7_eq, e]
  rfl
/-! ### New -/
def z64w : List Int := List.replicate 64 0
set_option maxRecDepth 8000 in
theorem z64w_bn : Bn 64 z64w := ⟨List.length_replicate, byt_zero7 64⟩
def hn7 : List Value := hc7 iv7 0 z64w 0
set_option maxRecDepth 8000 in
theorem build_iv (w : World) : Sem.run Tryd.prog (Instr.build 89 #[(0, .agg (List.map (Value.int .u32) iv7).toArray)]) w = .ok (.agg hn7.toArray) w := by kernel_rfl
set_option maxRecDepth 8000 in
theorem build_new (w : World) (ev : Operand → Value) (o : Oper) (ho : o.op = Op.build 89 #[(0, .tmp 2)]) (hs : ev (.tmp 2) = .agg (List.map (Value.int .u32) iv7).toArray) : (execOp ev o).run Tryd.prog w = .ok (.value (.agg hn7.toArray)) w := by
  unfold execOp
  rw [ho]
  have e : Array.map (fun x : Nat × Operand => match x with | (i, x) => (i, ev x)) #[(0, Operand.tmp 2)] = #[(0, .agg (List.map (Value.int .u32) iv7).toArray)] := by
    rw [← hs]
    simp
  show Sem.run Tryd.prog (do let r ← Instr.build 89 (Array.map (fun x : Nat × Operand => match x with | (i, x) => (i, ev x)) #[(0, Operand.tmp 2)]); pure (Next.value r)) w = _
  rw [e, Sem.run_bind, build_iv]
  rfl
set_option maxRecDepth 8000 in
theorem wpList_build {ops : Array Oper} {rest : List Oper} {o : Oper} {a : Act} {w : World} {Q : Exit → Act → World → Prop} (hgd : o.guard = none) (ho : o.op = Op.build 89 #[(0, .tmp 2)]) (hs : a.eval (.tmp 2) = .agg (List.map (Value.int .u32) iv7).toArray)
    (h : wpList Tryd.prog ops Q rest (a.put o.dst (.agg hn7.toArray)) w) : wpList Tryd.prog ops Q (o :: rest) a w := by
  refine wpList_plain hgd fun K hK => ?_
  unfold Oper.wp
  rw [build_new w a.eval o ho hs]
  exact hK _ _ h
end Go.Proofs.YtmibjgkakolhiaaDoor
/-
  HMAC over BLAKE2s and the keys that are derived, on lists. No statement of the seat is proved here.
-/
namespace Go.Proofs.YtmibjgkakolhiaaDoor
open Go.RowKit

/-- The key, filled up to a block: its sum where it is longer. -/
def kp8 (key : List Int) : List Int := pad7 (if 64 < key.length then sum7 key else key)
/-- Every byte with this mark. -/
def xm8 (x : Int) (l : List Int) : List Int := l.map fun a => bits .xor .u8 a x
def hm8 (key text : List Int) : List Int := sum7 (xm8 92 (kp8 key) ++ sum7 (xm8 54 (kp8 key) ++ text))
/-- The keys. -/
def dt8 (chain input : List Int) : List Int := hm8 chain input
def da8 (chain input : List Int) : List Int := hm8 (dt8 chain input) [1]
def db8 (chain input : List Int) : List Int := hm8 (dt8 chain input) (da8 chain input ++ [2])
def dc8 (chain input : List Int) : List Int := hm8 (dt8 chain input) (db8 chain input ++ [3])
def dv8 (chain input : List Int) (n : Int) : List (List Int) := if n = 2 then [da8 chain input, db8 chain input] else if n = 3 then [da8 chain input, db8 chain input, dc8 chain input] else []

set_option maxRecDepth 8000 in
theorem hm8_bn (key text : List Int) : Bn 32 (hm8 key text) := sum7_bn _
set_option maxRecDepth 8000 in
theorem kp8_in (key : List Int) : (if 64 < key.length then sum7 key else key).length ≤ 64 := by
  split
  · rw [(sum7_bn key).len]; decide
  · omega
set_option maxRecDepth 8000 in
theorem kp8_len (key : List Int) : (kp8 key).length = 64 := pad7_len (kp8_in key)
set_option maxRecDepth 8000 in
theorem kp8_byt {key : List Int} (h : Byt key) : Byt (kp8 key) := by
  unfold kp8 pad7
  refine Byt.app ?_ (byt_zero7 _)
  split
  · exact (sum7_bn key).byt
  · exact h
set_option maxRecDepth 8000 in
theorem kp8_bn {key : List Int} (h : Byt key) : Bn 64 (kp8 key) := ⟨kp8_len key, kp8_byt h⟩
set_option maxRecDepth 8000 in
theorem xm8_len (x : Int) (l : List Int) : (xm8 x l).length = l.length := List.length_map _
set_option maxRecDepth 8000 in
theorem xm8_byt {x : Int} (hx : 0 ≤ x ∧ x ≤ 255) {l : List Int} (h : Byt l) : Byt (xm8 x l) := fun y hy => by
  obtain ⟨a, ha, rfl⟩ := List.mem_map.1 hy
  have := xor8 a x (h a ha) hx
  exact ⟨this.1, this.2.1⟩
set_option maxRecDepth 8000 in
theorem xm8_at (x : Int) (l : List Int) (i : Nat) (hi : i < l.length) : (xm8 x l)[i]! = bits .xor .u8 l[i]! x := by
  rw [getElem!_pos _ i (by rw [xm8_len]; exact hi), getElem!_pos l i hi]
  unfold xm8
  rw [List.getElem_map]
set_option maxRecDepth 8000 in
/-- A key that is longer than a block counts as its sum. -/
theorem kp8_long {key : List Int} (h : 64 < key.length) : kp8 (sum7 key) = kp8 key := by
  unfold kp8
  rw [if_pos h, if_neg (by rw [(sum7_bn key).len]; decide)]
set_option maxRecDepth 8000 in
theorem hm8_long {key : List Int} (h : 64 < key.length) (text : List Int) : hm8 (sum7 key) text = hm8 key text := by
  unfold hm8
  rw [kp8_long h]
set_option maxRecDepth 8000 in
/-- Noughts behind a key, up to a block, count for nothing. -/
theorem kp8_zeros (key : List Int) (z : Nat) (h : key.length + z ≤ 64) : kp8 (key ++ List.replicate z 0) = kp8 key := by
  unfold kp8
  rw [if_neg (by rw [List.length_append, List.length_replicate]; omega), if_neg (by omega)]
  unfold pad7
  rw [List.length_append, List.length_replicate, List.append_assoc, List.replicate_append_replicate]
  congr 2
  omega
set_option maxRecDepth 8000 in
theorem hm8_zeros (key : List Int) (z : Nat) (h : key.length + z ≤ 64) (text : List Int) : hm8 (key ++ List.replicate z 0) text = hm8 key text := by
  unfold hm8
  rw [kp8_zeros key z h]
set_option maxRecDepth 8000 in
theorem dv8_len2 (chain input : List Int) : (dv8 chain input 2).length = 2 := rfl
set_option maxRecDepth 8000 in
theorem dv8_len3 (chain input : List Int) : (dv8 chain input 3).length = 3 := rfl
set_option maxRecDepth 8000 in
theorem dv8_bn (chain input : List Int) (n : Int) : ∀ l ∈ dv8 chain input n, Bn 32 l := fun l hl => by
  unfold dv8 at hl
  split at hl
  · rcases List.mem_cons.1 hl with rfl | hl
    · exact hm8_bn _ _
    · rw [List.mem_singleton.1 hl]; exact hm8_bn _ _
  · split at hl
    · rcases List.mem_cons.1 hl with rfl | hl
      · exact hm8_bn _ _
      · rcases List.mem_cons.1 hl with rfl | hl
        · exact hm8_bn _ _
        · rw [List.mem_singleton.1 hl]; exact hm8_bn _ _
    · cases hl
end Go.Proofs.YtmibjgkakolhiaaDoor
/-
  A handshake's symmetric state in memory: the cipher, the hash, the chain key. No statement of the seat is proved here.
-/
namespace Go.Proofs.YtmibjgkakolhiaaDoor
open Go.RowKit

/-- A name as a hash. -/
def nm10 (l : List Int) : List Int := if l.length ≤ 32 then l ++ List.replicate (32 - l.length) 0 else sum7 l
set_option maxRecDepth 8000 in
theorem nm10_bn {l : List Int} (h : Byt l) : Bn 32 (nm10 l) := by
  unfold nm10
  split
  · exact ⟨by rw [List.length_append, List.length_replicate]; omega, h.app (fun x hx => by rw [(List.mem_replicate.1 hx).2]; decide)⟩
  · exact sum7_bn _
/-- The hash behind a box or a text. -/
def h10 (e : Int) (H x : List Int) : List Int := if e = 0 then sum7 (H ++ x) else H
set_option maxRecDepth 8000 in
theorem h10_bn {e : Int} {H x : List Int} (h : Bn 32 H) : Bn 32 (h10 e H x) := by
  unfold h10
  split
  · exact sum7_bn _
  · exact h
section
variable {u u' : World} {b o : Nat}
set_option maxRecDepth 8000 in
theorem Ao.three {x y z : List Value} (hx : x.length = 34) (hy : y.length = 32) (hz : z.length = 32) (h : Ao u b o 98 (x ++ (y ++ z))) : Ao u b o 34 x ∧ Ao u b (o + 34) 32 y ∧ Ao u b (o + 66) 32 z := by
  refine ⟨?_, ?_, ?_⟩
  · have := h.sub 0 34 (by decide)
    rwa [List.drop_zero, List.take_left' hx, Nat.add_zero] at this
  · have := h.sub 34 32 (by decide)
    rwa [List.drop_left' hx, List.take_left' hy] at this
  · have := h.sub 66 32 (by decide)
    rwa [← List.append_assoc, List.drop_left' (by rw [List.length_append, hx, hy]), List.take_of_length_le (by rw [hz]; exact Nat.le_refl _)] at this
set_option maxRecDepth 8000 in
theorem Ao.join3 {x y z : List Value} (hx : Ao u b o 34 x) (hy : Ao u b (o + 34) 32 y) (hz : Ao u b (o + 66) 32 z) : Ao u b o 98 (x ++ (y ++ z)) :=
  ⟨range_app hx.rng (by rw [hx.len]; exact range_app hy.rng (by rw [hy.len]; exact hz.rng)), fun j hj => by
    by_cases h1 : j < 34
    · exact hx.all j h1
    · by_cases h2 : j < 66
      · have := hy.all (j - 34) (by omega)
        rwa [show o + 34 + (j - 34) = o + j by omega] at this
      · have := hz.all (j - 66) (by omega)
        rwa [show o + 66 + (j - 66) = o + j by omega] at this, by rw [List.length_append, List.length_append, hx.len, hy.len, hz.len]⟩
set_option maxRecDepth 8000 in
theorem Ao.rd32 {H : List Int} (h : Ao u b o 32 (List.map (Value.int .u8) H)) (hb : Bn 32 H) : Rd u (some ⟨b, o, none⟩) 32 32 H :=
  ⟨hb.len, Nat.le_refl _, (fun e => by cases e), hb.byt, fun _ => ⟨b, o, rfl, fun j hj => by
    have hj2 : j < H.length := by rw [hb.len]; exact hj
    exact h.rng j _ (by rw [List.getElem?_map, List.getElem?_eq_getElem hj2]; rfl)⟩⟩
end
/-- The State in block b: the cipher's key k (h: whether it has one) and nonce n, the hash H, the chain key C. -/
structure My (u : World) (b : Nat) (k : List Int) (h : Bool) (n : Int) (H C : List Int) : Prop where
  sy : Sy u b 0 k h n
  ho : Ao u b 34 32 (List.map (Value.int .u8) H)
  co : Ao u b 66 32 (List.map (Value.int .u8) C)
  bh : Bn 32 H
  bc : Bn 32 C
section
variable {u u' : World} {b : Nat} {k : List Int} {h : Bool} {n : Int} {H C : List Int}
set_option maxRecDepth 8000 in
theorem My.later (s : My u b k h n H C) (hb : Below u.heap.size u u') : My u' b k h n H C := ⟨s.sy.later hb, s.ho.later hb, s.co.later hb, s.bh, s.bc⟩
set_option maxRecDepth 8000 in
theorem My.extb {bo : Nat} (s : My u b k h n H C) (hb : ExtB bo u u') (hne : b ≠ bo) : My u' b k h n H C := ⟨s.sy.extb hb hne, s.ho.extb hb hne, s.co.extb hb hne, s.bh, s.bc⟩
set_option maxRecDepth 8000 in
theorem My.drew (s : My u b k h n H C) : My u.drew b k h n H C := ⟨s.sy.drew, s.ho.drew, s.co.drew, s.bh, s.bc⟩
set_option maxRecDepth 8000 in
theorem My.lt (s : My u b k h n H C) : b < u.heap.size := s.sy.lt
set_option maxRecDepth 8000 in
theorem My.rdH (s : My u b k h n H C) : Rd u (some ⟨b, 34, none⟩) 32 32 H := s.ho.rd32 s.bh
set_option maxRecDepth 8000 in
theorem My.rdC (s : My u b k h n H C) : Rd u (some ⟨b, 66, none⟩) 32 32 C := s.co.rd32 s.bc
set_option maxRecDepth 8000 in
/-- The cipher alone has turned. -/
theorem My.cip (s : My u b k h n H C) {k' : List Int} {h' : Bool} {n' : Int} (t : Sy u' b 0 k' h' n') (hb : ExtR b 0 34 u u') : My u' b k' h' n' H C :=
  ⟨t, s.ho.extr hb (by omega), s.co.extr hb (by omega), s.bh, s.bc⟩
set_option maxRecDepth 8000 in
theorem My.setH (s : My u b k h n H C) {H' : List Int} (hh : Bn 32 H') : My (u.setCells b 34 (List.map (Value.int .u8) H')) b k h n H' C := by
  have hx : ExtR b 34 32 u (u.setCells b 34 (List.map (Value.int .u8) H')) := ExtR.cells _ _ (ExtR.refl _ _ _ _) (Nat.le_refl _) (by rw [hh.map_len]; omega)
  exact ⟨s.sy.extr hx (by omega), Ao.all_set s.ho.all hh.map_len, s.co.extr hx (by omega), hh, s.bc⟩
set_option maxRecDepth 8000 in
theorem My.setC (s : My u b k h n H C) {C' : List Int} (hc : Bn 32 C') : My (u.setCells b 66 (List.map (Value.int .u8) C')) b k h n H C' := by
  have hx : ExtR b 66 32 u (u.setCells b 66 (List.map (Value.int .u8) C')) := ExtR.cells _ _ (ExtR.refl _ _ _ _) (Nat.le_refl _) (by rw [hc.map_len]; omega)
  exact ⟨s.sy.extr hx (by omega), s.ho.extr hx (by omega), Ao.all_set s.co.all hc.map_len, s.bh, hc⟩
set_option maxRecDepth 8000 in
/-- Where bytes lie from 0 to 63 there is no State: it has a truth value there. -/
theorem My.far (s : My u b k h n H C) {g : Nat} {B : List Int} (hB : Bn 32 B) (hr : u.rangeAt g 32 (List.map (Value.int .u8) B)) : g ≠ b := fun e => by
  subst e
  obtain ⟨x, r, rfl⟩ : ∃ x r, B = x :: r := by
    cases B with
    | nil => exact absurd hB.len (by decide)
    | cons x r => exact ⟨x, r, rfl⟩
  have h1 := hr 0 (.int .u8 x) rfl
  have h2 := s.sy.has.1
  rw [Nat.add_zero] at h1
  rw [Nat.zero_add, h1] at h2
  cases h2
end
/-- The cells of a State that is begun. -/
def nc10 (H : List Int) : List Value := sc9 z9l false 0 ++ (List.map (Value.int .u8) H ++ List.map (Value.int .u8) H)
set_option maxRecDepth 8000 in
theorem nc10_len {H : List Int} (h : Bn 32 H) : (nc10 H).length = 98 := by
  unfold nc10
  rw [List.length_append, List.length_append, h.map_len, sc9_len z9l_bn.len]
set_option maxRecDepth 8000 in
theorem my_new (u : World) (H : List Int) (h : Bn 32 H) (t : TypeId) : My (u.alloc (.cells (nc10 H).toArray t)) u.heap.size z9l false 0 H H := by
  obtain ⟨h1, h2, h3⟩ := Ao.three (sc9_len z9l_bn.len) h.map_len h.map_len (ar_box u (nc10 H) 98 (nc10_len h) t).ao
  rw [Nat.zero_add] at h2 h3
  exact ⟨⟨h1, z9l_bn, by decide⟩, h2, h3, h, h⟩
end Go.Proofs.YtmibjgkakolhiaaDoor
