/-
 The ladder over numbers is the ladder over points: X of a scalar and a point's number is the number of so many times the point. No Go text in it; no statement of the seat is proved here.
-/
import Derived.Test.YtlnbjehimabaiaaGreatDoorPk30
import Derived.Test.YtlnbjehimabaiaaGreatDoorMEd
namespace Go.Proofs.YtlnbjehimabaiaaGreatDoor.Fc.Ed
open Nt
set_option maxRecDepth 8000

/-- A number, as one of the field. -/
def ph (p : Nat) [NeZero p] (x : Int) : Fin p := ⟨(x % p).toNat, by
 have h : 0 < p := Nat.pos_of_ne_zero (NeZero.ne p)
 have h1 := Int.emod_nonneg x (b := (p : Int)) (by omega)
 have h2 := Int.emod_lt_of_pos x (b := (p : Int)) (by omega)
 omega⟩
theorem pos {p : Nat} [NeZero p] : 0 < p := Nat.pos_of_ne_zero (NeZero.ne p)
theorem ph_val {p : Nat} [NeZero p] (x : Int) : (((ph p x).val : Nat) : Int) = x % p := by
 have h : 0 < p := pos
 have h1 := Int.emod_nonneg x (b := (p : Int)) (by omega)
 show (((x % p).toNat : Nat) : Int) = x % p
 omega
theorem fin_ext {p : Nat} [NeZero p] {a b : Fin p} (h : ((a.val : Nat) : Int) = b.val) : a = b := Fin.ext (by omega)
theorem ph_eq {p : Nat} [NeZero p] {x y : Int} (h : x % p = y % p) : ph p x = ph p y := fin_ext (by rw [ph_val, ph_val, h])
theorem ph_of {p : Nat} [NeZero p] {x y : Int} (h : ph p x = ph p y) : x % p = y % p := by rw [← ph_val, ← ph_val, h]
theorem ph_mod {p : Nat} [NeZero p] (x : Int) : ph p (x % p) = ph p x := ph_eq (Int.emod_emod_of_dvd x (Int.dvd_refl _))
theorem ph_add {p : Nat} [NeZero p] (x y : Int) : ph p (x + y) = ph p x + ph p y := by
 apply fin_ext
 rw [ph_val, Fin.val_add, Int.natCast_emod, Int.natCast_add, ph_val, ph_val, ← Int.add_emod]
theorem ph_mul {p : Nat} [NeZero p] (x y : Int) : ph p (x * y) = ph p x * ph p y := by
 apply fin_ext
 rw [ph_val, Fin.val_mul, Int.natCast_emod, Int.natCast_mul, ph_val, ph_val, ← Int.mul_emod]
theorem ph_sub {p : Nat} [NeZero p] (x y : Int) : ph p (x - y) = ph p x - ph p y := by
 have h := ph_add (p := p) (x - y) y
 rw [Int.sub_add_cancel] at h
 rw [h]
 grobner
theorem ph_zero {p : Nat} [NeZero p] : ph p 0 = 0 := fin_ext (by rw [ph_val]; simp)
theorem ph_one {p : Nat} [NeZero p] (_ : 1 < p) : ph p 1 = 1 := by
 apply fin_ext
 rw [ph_val]
 show (1 : Int) % p = ((1 % p : Nat) : Int)
 rw [Int.natCast_emod]
 rfl
theorem ph_back {p : Nat} [NeZero p] (a : Fin p) : ph p (a.val : Int) = a := fin_ext (by rw [ph_val]; exact Int.emod_eq_of_lt (by omega) (by have := a.isLt; omega))
theorem one_lt {p : Nat} (hp : p = 57896044618658097711785492504343953926634992332820282019728792003956564819949) : 1 < p := by rw [hp]; decide
theorem ph_two {p : Nat} [NeZero p] (hp : p = 57896044618658097711785492504343953926634992332820282019728792003956564819949) : ph p 2 = 2 := by
 have h := ph_add (p := p) 1 1
 rw [ph_one (one_lt hp)] at h
 have e : (2 : Fin p) = 1 + 1 := by grobner
 rw [e, ← h]
 rfl
theorem ph_four {p : Nat} [NeZero p] (hp : p = 57896044618658097711785492504343953926634992332820282019728792003956564819949) : ph p 4 = 4 := by
 have h := ph_add (p := p) 2 2
 rw [ph_two hp] at h
 have e : (4 : Fin p) = 2 + 2 := by grobner
 rw [e, ← h]
 rfl
theorem cast_p {p : Nat} (hp : p = 57896044618658097711785492504343953926634992332820282019728792003956564819949) : (p : Int) = 57896044618658097711785492504343953926634992332820282019728792003956564819949 := by rw [hp]; rfl
theorem ph_ne {p : Nat} [NeZero p] (hp : p = 57896044618658097711785492504343953926634992332820282019728792003956564819949) {x : Int} (h : x % 57896044618658097711785492504343953926634992332820282019728792003956564819949 ≠ 0) : ph p x ≠ 0 := fun e => by
 rw [← ph_zero] at e
 have := ph_of e
 rw [cast_p hp] at this
 exact h (by rw [this]; rfl)
theorem ph_red {p : Nat} [NeZero p] (hp : p = 57896044618658097711785492504343953926634992332820282019728792003956564819949) (x : Int) : ph p (x % 57896044618658097711785492504343953926634992332820282019728792003956564819949) = ph p x := by
 have := ph_mod (p := p) x
 rwa [cast_p hp] at this
theorem ph_cong {p : Nat} [NeZero p] (hp : p = 57896044618658097711785492504343953926634992332820282019728792003956564819949) {x y : Int} (h : x % 57896044618658097711785492504343953926634992332820282019728792003956564819949 = y % 57896044618658097711785492504343953926634992332820282019728792003956564819949) : ph p x = ph p y := ph_eq (by rw [cast_p hp]; exact h)
theorem ph_inj {p : Nat} [NeZero p] (hp : p = 57896044618658097711785492504343953926634992332820282019728792003956564819949) {x y : Int} (hx : El x) (hy : El y) (h : ph p x = ph p y) : x = y := by
 have := ph_of h
 rw [cast_p hp, hx.em, hy.em] at this
 exact this

/-- The inverse: the power p - 2. -/
def inv {p : Nat} [NeZero p] (z : Fin p) : Fin p := ph p (pw (z.val : Int) 57896044618658097711785492504343953926634992332820282019728792003956564819947)
theorem val_el {p : Nat} [NeZero p] (hp : p = 57896044618658097711785492504343953926634992332820282019728792003956564819949) (z : Fin p) : El (z.val : Int) := ⟨by omega, by have := z.isLt; omega⟩
theorem inv_ph {p : Nat} [NeZero p] (hp : p = 57896044618658097711785492504343953926634992332820282019728792003956564819949) {x : Int} (hx : El x) : inv (ph p x) = ph p (pw x 57896044618658097711785492504343953926634992332820282019728792003956564819947) := by
 unfold inv
 rw [ph_val, cast_p hp, hx.em]
theorem euler_pm {p e n r : Nat} (hpr : Pr p) (h1 : p - 1 = 2 * e) (he : e < 2 ^ 256) (hd : ¬ p ∣ n) (hr : n * n % p = r % p) : pm p 256 r e = 1 := by
 have hf := fermat hpr hd
 rw [h1, Nat.pow_mul, Nat.pow_two, Nat.pow_mod, hr, ← Nat.pow_mod] at hf
 rw [pm_eq p 256 r e he, hf]
theorem non_sq {p : Nat} (hp : p = 57896044618658097711785492504343953926634992332820282019728792003956564819949) (n : Nat) : (n * n) % p ≠ 486660 := fun e => by
 have hpr := pr_57896044618658097711785492504343953926634992332820282019728792003956564819949
 rw [← hp] at hpr
 by_cases hd : p ∣ n
 ·obtain ⟨k, rfl⟩ := hd
  rw [Nat.mul_assoc, Nat.mul_mod_right] at e
  exact absurd e (by decide)
 ·have h := euler_pm (e := 28948022309329048855892746252171976963317496166410141009864396001978282409974) (r := 486660) hpr (by rw [hp]) (by decide) hd (by rw [e, hp])
  rw [hp] at h
  exact absurd h (by decide +kernel)
/-- The field, and the curve's numbers. -/
theorem fld {p : Nat} [NeZero p] (hp : p = 57896044618658097711785492504343953926634992332820282019728792003956564819949) : Fld (p := p) inv (ph p 486664) (ph p 48802004052532134862652268456126542835229456083994414501085850622543968879637) (ph p 486660) where
 hinv x hx := by
  have h0 : (x.val : Int) ≠ 0 := fun e => hx (fin_ext (by rw [e]; simp))
  have h := inv_mul _ (val_el hp x) h0
  have e : x * inv x = ph p ((x.val : Int) * pw (x.val : Int) 57896044618658097711785492504343953926634992332820282019728792003956564819947) := by rw [ph_mul, ph_back]; rfl
  rw [e, ← ph_one (one_lt hp)]
  exact ph_cong hp (by rw [h]; rfl)
 inv0 := by
  have := inv_ph hp El.zero
  rw [ph_zero, pw_zero _ (by decide), ph_zero] at this
  exact this
 two := by rw [← ph_two hp]; exact ph_ne hp (by decide)
 sq := by rw [← ph_mul]; exact ph_cong hp (by decide +kernel)
 a0 := ph_ne hp (by decide)
 non s h := by
  have e : ph p (((s.val * s.val : Nat) : Int)) = ph p 486660 := by rw [Int.natCast_mul, ph_mul, ph_back]; exact h
  have := ph_of e
  refine non_sq hp s.val ?_
  rw [show ((486660 : Int) % p) = 486660 by rw [cast_p hp]; rfl] at this
  omega
 ad := by rw [← ph_four hp, ← ph_add]; rfl
theorem e_four {p : Nat} [NeZero p] (hp : p = 57896044618658097711785492504343953926634992332820282019728792003956564819949) : 4 * ph p 121665 = ph p 486660 := by rw [← ph_four hp, ← ph_mul]; rfl

/-! ### The steps -/
theorem ph_fa {p : Nat} [NeZero p] (hp : p = 57896044618658097711785492504343953926634992332820282019728792003956564819949) (x y : Int) : ph p (fa x y) = ph p x + ph p y := by unfold fa; rw [ph_red hp, ph_add]
theorem ph_fs {p : Nat} [NeZero p] (hp : p = 57896044618658097711785492504343953926634992332820282019728792003956564819949) (x y : Int) : ph p (fs x y) = ph p x - ph p y := by unfold fs; rw [ph_red hp, ph_sub]
theorem ph_fm {p : Nat} [NeZero p] (hp : p = 57896044618658097711785492504343953926634992332820282019728792003956564819949) (x y : Int) : ph p (fm x y) = ph p x * ph p y := by unfold fm; rw [ph_red hp, ph_mul]
def Rp (p : Nat) [NeZero p] (x z : Int) (Q : Pt p) : Prop := Rep (ph p x) (ph p z) Q
theorem rp_dbl {p : Nat} [NeZero p] (hp : p = 57896044618658097711785492504343953926634992332820282019728792003956564819949) {Q : Pt p} (hQ : On (ph p 486664) (ph p 486660) Q) {x z : Int} (r : Rp p x z Q) : Rp p (dbX x z) (dbZ x z) (add inv (ph p 486664) (ph p 486660) Q Q) := by
 have := rep_dbl (fld hp) (e_four hp) hQ r
 unfold Rp dbX dbZ dbz Fc.sq
 simp only [ph_fm hp, ph_fa hp, ph_fs hp]
 exact this
theorem rp_dif {p : Nat} [NeZero p] (hp : p = 57896044618658097711785492504343953926634992332820282019728792003956564819949) {Q R : Pt p} (hQ : On (ph p 486664) (ph p 486660) Q) (hR : On (ph p 486664) (ph p 486660) R) {yP : Fin p} {s : Int} (hy : yP * (1 + ph p 486660 * Q.x * R.x * Q.y * R.y) = Q.y * R.y + ph p 486664 * Q.x * R.x) (hu : ph p s * (1 - yP) = 1 + yP) (p1 : 1 - yP ≠ 0) (p2 : 1 + yP ≠ 0) {x2 z2 x3 z3 : Int} (r2 : Rp p x2 z2 Q) (r3 : Rp p x3 z3 R) :
  Rp p (adX x2 z2 x3 z3) (adZ s x2 z2 x3 z3) (add inv (ph p 486664) (ph p 486660) Q R) := by
 have := rep_dif (fld hp) hQ hR hy hu p1 p2 r2 r3
 unfold Rp adX adZ Fc.sq
 simp only [ph_fm hp, ph_fa hp, ph_fs hp]
 exact this
theorem fm_el (x y : Int) : El (fm x y) := El.mod _
theorem lad_el (n s : Int) : ∀ i, El (lad n s i).1 ∧ El (lad n s i).2.1
 | 0 => ⟨El.one, El.zero⟩
 | i + 1 => by
  rw [lad]
  unfold lst
  split
  ·exact ⟨fm_el _ _, fm_el _ _⟩
  ·exact ⟨fm_el _ _, fm_el _ _⟩
theorem half (n t : Nat) : n / 2 ^ t = 2 * (n / 2 ^ (t + 1)) + n / 2 ^ t % 2 := by
 rw [Nat.pow_succ, ← Nat.div_div_eq_div_mul]
 omega
/-- Behind each bit of the scalar the ladder is at two multiples of the point. -/
theorem lad_rep {p : Nat} [NeZero p] (hp : p = 57896044618658097711785492504343953926634992332820282019728792003956564819949) {Q : Pt p} (hQ : On (ph p 486664) (ph p 486660) Q) {s : Int} (hu : ph p s * (1 - Q.y) = 1 + Q.y) (p1 : 1 - Q.y ≠ 0) (p2 : 1 + Q.y ≠ 0) (n : Nat) (hn : n < 2 ^ 255) :
  ∀ i, i ≤ 255 → Rp p (lad n s i).1 (lad n s i).2.1 (mul inv (ph p 486664) (ph p 486660) (n / 2 ^ (255 - i)) Q) ∧ Rp p (lad n s i).2.2.1 (lad n s i).2.2.2 (mul inv (ph p 486664) (ph p 486660) (n / 2 ^ (255 - i) + 1) Q)
 | 0, _ => by
  have hF := fld hp
  have h0 : n / 2 ^ (255 - 0) = 0 := Nat.div_eq_of_lt hn
  rw [h0]
  refine ⟨⟨?_, ?_⟩, ?_⟩
  ·show ph p 1 + ph p 0 ≠ 0
   rw [← ph_add]
   exact ph_ne hp (by decide)
  ·show ph p 1 - ph p 0 = (O p).y * (ph p 1 + ph p 0)
   rw [ph_zero]
   show ph p 1 - 0 = 1 * (ph p 1 + 0)
   grobner
  ·have e : mul inv (ph p 486664) (ph p 486660) (0 + 1) Q = Q := by
    show add inv _ _ (O p) Q = Q
    rw [add_comm hF (o_on _ _) hQ, add_o hF hQ]
   rw [e]
   have h2 : (ph p s + 1) * (1 - Q.y) = 2 := by grobner
   refine ⟨?_, ?_⟩
   ·show ph p s + ph p 1 ≠ 0
    rw [ph_one (one_lt hp)]
    intro q
    rw [q, Fin.zero_mul] at h2
    exact hF.two h2.symm
   ·show ph p s - ph p 1 = Q.y * (ph p s + ph p 1)
    rw [ph_one (one_lt hp)]
    grobner
 | i + 1, hi => by
  have hF := fld hp
  obtain ⟨r2, r3⟩ := lad_rep hp hQ hu p1 p2 n hn i (by omega)
  have e1 : 255 - i = (255 - (i + 1)) + 1 := by omega
  have e2 : 254 - i = 255 - (i + 1) := by omega
  rw [e1] at r2 r3
  have hh := half n (255 - (i + 1))
  have hb : ((n : Int) / 2 ^ (254 - i) % 2) = ((n / 2 ^ (255 - (i + 1)) % 2 : Nat) : Int) := by rw [e2]; simp
  rw [lad]
  generalize n / 2 ^ (255 - (i + 1) + 1) = m at *
  generalize n / 2 ^ (255 - (i + 1)) = k at *
  rw [hb]
  have o1 := mul_on hF hQ m
  have o2 := mul_on hF hQ (m + 1)
  have dd := dif_y hF hQ o1
  have hs : add inv (ph p 486664) (ph p 486660) (mul inv (ph p 486664) (ph p 486660) m Q) Q = mul inv (ph p 486664) (ph p 486660) (m + 1) Q := rfl
  rw [hs] at dd
  unfold lst
  by_cases hk : k % 2 = 1
  ·rw [hk, if_pos (show ((1 : Nat) : Int) = 1 from rfl)]
   have ek : k = 2 * m + 1 := by omega
   rw [ek]
   constructor
   ·have := rp_dif hp o2 o1 (s := s) (yP := Q.y) (by grobner) hu p1 p2 r3 r2
    rw [← mul_add hF hQ] at this
    rw [show 2 * m + 1 = m + 1 + m by omega]
    exact this
   ·have := rp_dbl hp o2 r3
    rw [← mul_add hF hQ] at this
    rw [show 2 * m + 1 + 1 = m + 1 + (m + 1) by omega]
    exact this
  ·have h0 : k % 2 = 0 := by omega
   rw [h0, if_neg (show ¬ ((0 : Nat) : Int) = 1 by decide)]
   have ek : k = 2 * m := by omega
   rw [ek]
   constructor
   ·have := rp_dbl hp o1 r2
    rw [← mul_add hF hQ] at this
    rw [show 2 * m = m + m by omega]
    exact this
   ·have := rp_dif hp o1 o2 (s := s) (yP := Q.y) dd hu p1 p2 r2 r3
    rw [← mul_add hF hQ] at this
    rw [show 2 * m + 1 = m + (m + 1) by omega]
    exact this
/-! ### Of 0 -/
theorem dbZ_nought (x : Int) : dbZ x 0 = 0 := by
 unfold dbZ dbz
 have e : fs (Fc.sq (fa x 0)) (Fc.sq (fs x 0)) = 0 := by
  unfold fa fs Fc.sq
  rw [Int.add_zero, Int.sub_zero, Int.sub_self]
  rfl
 rw [e]
 unfold fm
 rw [Int.zero_mul]
 rfl
theorem adZ_nought (a b c d : Int) : adZ 0 a b c d = 0 := by
 unfold adZ fm
 rw [Int.zero_mul]
 rfl
theorem lad_nought (n : Int) : ∀ i, (lad n 0 (i + 1)).2.1 = 0 ∧ (lad n 0 (i + 1)).2.2.2 = 0
 | 0 => by
  rw [lad]
  unfold lst
  split
  ·refine ⟨adZ_nought _ _ _ _, ?_⟩
   show dbZ 0 1 = 0
   decide
  ·refine ⟨?_, adZ_nought _ _ _ _⟩
   show dbZ 1 0 = 0
   decide
 | i + 1 => by
  obtain ⟨h1, h2⟩ := lad_nought n i
  rw [lad]
  unfold lst
  split
  ·refine ⟨adZ_nought _ _ _ _, ?_⟩
   show dbZ _ (lad n 0 (i + 1)).2.2.2 = 0
   rw [h2, dbZ_nought]
  ·refine ⟨?_, adZ_nought _ _ _ _⟩
   show dbZ _ (lad n 0 (i + 1)).2.1 = 0
   rw [h1, dbZ_nought]
theorem xn_nought (n : Int) : xn n 0 = 0 := by
 unfold xn
 rw [(lad_nought n 254).1, pw_zero _ (by decide)]
 unfold fm
 rw [Int.mul_zero]
 rfl

/-! ### X of a point's number -/
def un {p : Nat} [NeZero p] (Q : Pt p) : Int := ((U inv Q).val : Int)
theorem un_el {p : Nat} [NeZero p] (hp : p = 57896044618658097711785492504343953926634992332820282019728792003956564819949) (Q : Pt p) : El (un Q) := val_el hp _
theorem xn_el (n s : Int) : El (xn n s) := fm_el _ _
theorem axis {p : Nat} [NeZero p] (hp : p = 57896044618658097711785492504343953926634992332820282019728792003956564819949) {Q : Pt p} (hQ : On (ph p 486664) (ph p 486660) Q) (h : U inv Q = 0) : mul inv (ph p 486664) (ph p 486660) 2 Q = O p := by
 have hF := fld hp
 have hy : Q.y * Q.y = 1 := by
  unfold U at h
  rcases hF.mul0 h with q | q
  ·grobner
  ·by_cases h1 : 1 - Q.y = 0
   ·grobner
   ·have := hF.hinv _ h1
    rw [q, Fin.mul_zero] at this
    exact absurd this.symm (by rw [← ph_one (one_lt hp)]; exact ph_ne hp (by decide))
 have hx : Q.x = 0 := by
  have ad := hF.ad
  unfold On at hQ
  have : 4 * (Q.x * Q.x) = 0 := by grobner
  have := (hF.mul0 this).resolve_left hF.four
  exact (hF.mul0 this).elim id id
 have e : mul inv (ph p 486664) (ph p 486660) 2 Q = add inv (ph p 486664) (ph p 486660) Q Q := by
  show add inv _ _ (add inv _ _ (O p) Q) Q = _
  rw [add_comm hF (o_on _ _) hQ, add_o hF hQ]
 rw [e]
 have ex := add_x hF hQ hQ
 have ey := add_y hF hQ hQ
 rw [hx] at ex ey
 apply pt_ext
 ·show _ = 0
  grobner
 ·show _ = 1
  grobner
theorem mul_o {p : Nat} [NeZero p] (hp : p = 57896044618658097711785492504343953926634992332820282019728792003956564819949) : ∀ n, mul inv (ph p 486664) (ph p 486660) n (O p) = O p
 | 0 => rfl
 | n + 1 => by
  show add inv _ _ (mul inv _ _ n (O p)) (O p) = _
  rw [mul_o hp n, add_o (fld hp) (o_on _ _)]
theorem u_o {p : Nat} [NeZero p] (hp : p = 57896044618658097711785492504343953926634992332820282019728792003956564819949) : U inv (O p) = 0 := by
 have e : (1 : Fin p) - (O p).y = 0 := by
  show (1 : Fin p) - 1 = 0
  grobner
 unfold U
 rw [e, (fld hp).inv0, Fin.mul_zero]
theorem main {p : Nat} [NeZero p] (hp : p = 57896044618658097711785492504343953926634992332820282019728792003956564819949) {Q : Pt p} (hQ : On (ph p 486664) (ph p 486660) Q) (n : Nat) (hn : n < 2 ^ 255) (h2 : n % 2 = 0) : xn n (un Q) = un (mul inv (ph p 486664) (ph p 486660) n Q) := by
 have hF := fld hp
 by_cases h0 : U inv Q = 0
 ·have e : un Q = 0 := by unfold un; rw [h0]; simp
  have ek : n = 2 * (n / 2) := by omega
  rw [e, xn_nought, ek, ← mul_mul hF hQ, axis hp hQ h0, mul_o hp]
  unfold un
  rw [u_o hp]
  simp
 ·have p2 : 1 + Q.y ≠ 0 := fun q => h0 (by unfold U; rw [q, Fin.zero_mul])
  have p1 : 1 - Q.y ≠ 0 := fun q => h0 (by unfold U; rw [q, hF.inv0, Fin.mul_zero])
  have hu : ph p (un Q) * (1 - Q.y) = 1 + Q.y := by
   unfold un
   rw [ph_back]
   have := hF.hinv _ p1
   unfold U
   generalize inv (1 - Q.y) = j at *
   grobner
  obtain ⟨r, _⟩ := lad_rep hp hQ hu p1 p2 n hn 255 (by decide)
  rw [Nat.sub_self, Nat.pow_zero, Nat.div_one] at r
  have ho := rep_out hF r
  refine ph_inj hp (xn_el _ _) (un_el hp _) ?_
  unfold xn
  rw [ph_fm hp, ← inv_ph hp (lad_el _ _ _).2, ho]
  unfold un
  rw [ph_back]

/-! ### The point of 9 -/
def bp (p : Nat) [NeZero p] : Pt p := ⟨ph p 38213832894368730265794714087330135568483813637251082400757400312561599933396, ph p 46316835694926478169428394003475163141307993866256225615783033603165251855960⟩
theorem bp_on {p : Nat} [NeZero p] (hp : p = 57896044618658097711785492504343953926634992332820282019728792003956564819949) : On (ph p 486664) (ph p 486660) (bp p) := by
 unfold On bp
 simp only [← ph_mul, ← ph_add]
 rw [← ph_one (one_lt hp), ← ph_add]
 exact ph_cong hp (by decide +kernel)
theorem bp_un {p : Nat} [NeZero p] (hp : p = 57896044618658097711785492504343953926634992332820282019728792003956564819949) : un (bp p) = 9 := by
 have hF := fld hp
 have h1 : 1 - (bp p).y ≠ 0 := by
  rw [← ph_one (one_lt hp)]
  show ph p 1 - ph p 46316835694926478169428394003475163141307993866256225615783033603165251855960 ≠ 0
  rw [← ph_sub]
  exact ph_ne hp (by decide)
 have h2 : 1 + (bp p).y = ph p 9 * (1 - (bp p).y) := by
  rw [← ph_one (one_lt hp)]
  show ph p 1 + ph p 46316835694926478169428394003475163141307993866256225615783033603165251855960 = ph p 9 * (ph p 1 - ph p 46316835694926478169428394003475163141307993866256225615783033603165251855960)
  rw [← ph_add, ← ph_sub, ← ph_mul]
  exact ph_cong hp (by decide +kernel)
 have h3 : U inv (bp p) = ph p 9 := by
  unfold U
  rw [h2, Fin.mul_assoc, hF.hinv _ h1, Fin.mul_one]
 refine ph_inj hp (un_el hp _) ⟨by decide, by decide⟩ ?_
 unfold un
 rw [ph_back, h3]

/-! ### What two secrets make -/
theorem agree_at {p : Nat} [NeZero p] (hp : p = 57896044618658097711785492504343953926634992332820282019728792003956564819949) (m n : Nat) (hm : m < 2 ^ 255) (hn : n < 2 ^ 255) (m2 : m % 2 = 0) (n2 : n % 2 = 0) : xn m (xn n 9) = un (mul inv (ph p 486664) (ph p 486660) (n * m) (bp p)) := by
 rw [← bp_un hp, main hp (bp_on hp) n hn n2, main hp (mul_on (fld hp) (bp_on hp) n) m hm m2, mul_mul (fld hp) (bp_on hp)]
theorem three_at {p : Nat} [NeZero p] (hp : p = 57896044618658097711785492504343953926634992332820282019728792003956564819949) (l m n : Nat) (hl : l < 2 ^ 255) (hm : m < 2 ^ 255) (hn : n < 2 ^ 255) (l2 : l % 2 = 0) (m2 : m % 2 = 0) (n2 : n % 2 = 0) : xn l (xn m (xn n 9)) = un (mul inv (ph p 486664) (ph p 486660) (n * m * l) (bp p)) := by
 rw [agree_at hp m n hm hn m2 n2, main hp (mul_on (fld hp) (bp_on hp) _) l hl l2, mul_mul (fld hp) (bp_on hp)]
/-- Two even scalars, in either order. -/
theorem agree (m n : Nat) (hm : m < 2 ^ 255) (hn : n < 2 ^ 255) (m2 : m % 2 = 0) (n2 : n % 2 = 0) : xn m (xn n 9) = xn n (xn m 9) := by
 have : NeZero 57896044618658097711785492504343953926634992332820282019728792003956564819949 := ⟨by decide⟩
 rw [agree_at (p := 57896044618658097711785492504343953926634992332820282019728792003956564819949) rfl m n hm hn m2 n2, agree_at (p := 57896044618658097711785492504343953926634992332820282019728792003956564819949) rfl n m hn hm n2 m2, Nat.mul_comm]
theorem three (l m n : Nat) (hl : l < 2 ^ 255) (hm : m < 2 ^ 255) (hn : n < 2 ^ 255) (l2 : l % 2 = 0) (m2 : m % 2 = 0) (n2 : n % 2 = 0) : xn l (xn m (xn n 9)) = xn n (xn l (xn m 9)) ∧ xn l (xn m (xn n 9)) = xn m (xn n (xn l 9)) := by
 have : NeZero 57896044618658097711785492504343953926634992332820282019728792003956564819949 := ⟨by decide⟩
 rw [three_at (p := 57896044618658097711785492504343953926634992332820282019728792003956564819949) rfl l m n hl hm hn l2 m2 n2, three_at (p := 57896044618658097711785492504343953926634992332820282019728792003956564819949) rfl n l m hn hl hm n2 l2 m2, three_at (p := 57896044618658097711785492504343953926634992332820282019728792003956564819949) rfl m n l hm hn hl m2 n2 l2]
 constructor
 ·rw [Nat.mul_comm n m, Nat.mul_assoc, Nat.mul_comm n l, Nat.mul_assoc]
 ·rw [Nat.mul_comm, Nat.mul_assoc]
/-- X of 1: a point of order four. -/
theorem xn_one_at {p : Nat} [NeZero p] (hp : p = 57896044618658097711785492504343953926634992332820282019728792003956564819949) (n : Nat) (hn : n < 2 ^ 255) (h : n % 4 = 0) : xn n 1 = 0 := by
 have hF := fld hp
 have hc : ph p 48802004052532134862652268456126542835229456083994414501085850622543968879637 ≠ 0 := ph_ne hp (by decide)
 have hi := hF.hinv _ hc
 have hs := hF.sq
 have one0 : (1 : Fin p) ≠ 0 := by rw [← ph_one (one_lt hp)]; exact ph_ne hp (by decide)
 have hQ : On (ph p 486664) (ph p 486660) ⟨inv (ph p 48802004052532134862652268456126542835229456083994414501085850622543968879637), 0⟩ := by
  unfold On
  generalize inv (ph p 48802004052532134862652268456126542835229456083994414501085850622543968879637) = j at *
  grobner
 have i1 := hF.hinv _ one0
 have hu : U inv (⟨inv (ph p 48802004052532134862652268456126542835229456083994414501085850622543968879637), 0⟩ : Pt p) = 1 := by
  unfold U
  have e : (1 : Fin p) - 0 = 1 := by grobner
  rw [e]
  generalize inv (1 : Fin p) = j at *
  grobner
 have h1 : un (⟨inv (ph p 48802004052532134862652268456126542835229456083994414501085850622543968879637), 0⟩ : Pt p) = 1 := by
  refine ph_inj hp (un_el hp _) El.one ?_
  unfold un
  rw [ph_back, hu, ph_one (one_lt hp)]
 have e2 : mul inv (ph p 486664) (ph p 486660) 2 ⟨inv (ph p 48802004052532134862652268456126542835229456083994414501085850622543968879637), 0⟩ = add inv (ph p 486664) (ph p 486660) ⟨inv (ph p 48802004052532134862652268456126542835229456083994414501085850622543968879637), 0⟩ ⟨inv (ph p 48802004052532134862652268456126542835229456083994414501085850622543968879637), 0⟩ := by
  show add inv _ _ (add inv _ _ (O p) _) _ = _
  rw [add_comm hF (o_on _ _) hQ, add_o hF hQ]
 have ey := add_y hF hQ hQ
 rw [← e2] at ey
 have h2 : U inv (mul inv (ph p 486664) (ph p 486660) 2 ⟨inv (ph p 48802004052532134862652268456126542835229456083994414501085850622543968879637), 0⟩) = 0 := by
  have e3 : 1 + (mul inv (ph p 486664) (ph p 486660) 2 ⟨inv (ph p 48802004052532134862652268456126542835229456083994414501085850622543968879637), 0⟩).y = 0 := by
   simp only at ey
   generalize (mul inv (ph p 486664) (ph p 486660) 2 ⟨inv (ph p 48802004052532134862652268456126542835229456083994414501085850622543968879637), 0⟩).y = yy at *
   generalize inv (ph p 48802004052532134862652268456126542835229456083994414501085850622543968879637) = j at *
   grobner
  unfold U
  rw [e3, Fin.zero_mul]
 have h4 := axis hp (mul_on hF hQ 2) h2
 rw [mul_mul hF hQ] at h4
 rw [← h1, main hp hQ n hn (by omega), show n = 2 * 2 * (n / 4) by omega, ← mul_mul hF hQ, h4, mul_o hp]
 unfold un
 rw [u_o hp]
 simp
theorem xn_one (n : Nat) (hn : n < 2 ^ 255) (h : n % 4 = 0) : xn n 1 = 0 := by
 have : NeZero 57896044618658097711785492504343953926634992332820282019728792003956564819949 := ⟨by decide⟩
 exact xn_one_at (p := 57896044618658097711785492504343953926634992332820282019728792003956564819949) rfl n hn h
end Go.Proofs.YtlnbjehimabaiaaGreatDoor.Fc.Ed
