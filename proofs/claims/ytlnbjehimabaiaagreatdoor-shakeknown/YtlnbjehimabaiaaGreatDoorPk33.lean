/-
  Several texts of one's own, laid together. No statement of the seat is proved here.
-/
import Derived.Test.YtlnbjehimabaiaaGreatDoorPk30
import Derived.Test.YtlnbjehimabaiaaGreatDoorMLad
import Derived.Test.YtlnbjehimabaiaaGreatDoorPk9
import Derived.Test.YtlnbjehimabaiaaGreatDoorPk17
/-
 Clamped scalars, and numbers told as bytes, for the laws of the curve. No Go text in it; no statement of the seat is proved here.
-/
namespace Go.Proofs.YtlnbjehimabaiaaGreatDoor.Fc
open Go.RowKit
set_option maxRecDepth 8000

theorem thirty_two (l : List Int) (h : l.length = 32) : ∃ x m y, l = x :: (m ++ [y]) ∧ m.length = 30 := by
 match l, h with
 | x :: t, h =>
  have ht : t.length = 31 := by simpa using h
  refine ⟨x, t.take 30, t[30]'(by omega), ?_, by rw [List.length_take]; omega⟩
  have : t.drop 30 = [t[30]'(by omega)] := by
   rw [List.drop_eq_getElem_cons (by omega)]
   congr 1
   exact List.drop_eq_nil_of_le (by omega)
  rw [← this, List.take_append_drop]
theorem cl_form (x y : Int) (m : List Int) (hm : m.length = 30) : cl (x :: (m ++ [y])) = (x - x % 8) :: (m ++ [y % 64 + 64]) := by
 have h31 : (x :: (m ++ [y]))[31]! = y := by
  have : (x :: (m ++ [y]))[31]? = some y := by
   rw [List.getElem?_cons_succ, List.getElem?_append_right (by omega), hm]
   rfl
  rw [List.getElem!_eq_getElem?_getD, this]
  rfl
 unfold cl
 rw [h31, List.set_cons_zero, List.set_cons_succ, List.set_append_right _ _ (by omega), hm]
 rfl
theorem leN_form (x y : Int) (m : List Int) (hm : m.length = 30) : leN (x :: (m ++ [y])) = x + 256 * leN m + 452312848583266388373324160190187140051835877600158453279131187530910662656 * y := by
 rw [leN, leN_app, hm, show (256 : Int) ^ 30 = 1766847064778384329583297500742918515827483896875618958121606201292619776 from by decide]
 simp only [leN]
 omega
theorem cl_num {l : List Int} (h : By l) : ∃ n : Nat, leN (cl l) = n ∧ n < 2 ^ 255 ∧ n % 8 = 0 ∧ 2 ^ 254 ≤ n := by
 obtain ⟨x, m, y, rfl, hm⟩ := thirty_two l h.len
 have hx := h.byt x (by simp)
 have hy := h.byt y (by simp)
 have hb := leN_bound m (fun z hz => h.byt z (by simp [hz]))
 rw [hm, show (256 : Int) ^ 30 = 1766847064778384329583297500742918515827483896875618958121606201292619776 from by decide] at hb
 rw [cl_form _ _ _ hm, leN_form _ _ _ hm, show 2 ^ 255 = 57896044618658097711785492504343953926634992332820282019728792003956564819968 from by decide, show 2 ^ 254 = 28948022309329048855892746252171976963317496166410141009864396001978282409984 from by decide]
 generalize leN m = q at *
 refine ⟨(x - x % 8 + 256 * q + 452312848583266388373324160190187140051835877600158453279131187530910662656 * (y % 64 + 64)).toNat, ?_, ?_, ?_, ?_⟩ <;> omega
theorem cl_cl {l : List Int} (h : By l) : cl (cl l) = cl l := by
 obtain ⟨x, m, y, rfl, hm⟩ := thirty_two l h.len
 rw [cl_form _ _ _ hm, cl_form _ _ _ hm]
 congr 1
 ·omega
 ·congr 2
  omega
theorem xor128 : ∀ t : Fin 256, bits .xor .u8 ((t.val : Nat) : Int) 128 = (((t.val + 128) % 256 : Nat) : Int) := by decide +kernel
theorem num_turn (x y : Int) (m : List Int) (hm : m.length = 30) : num (x :: (m ++ [(y + 128) % 256])) = num (x :: (m ++ [y])) := by
 unfold num
 rw [leN_form _ _ _ hm, leN_form _ _ _ hm]
 congr 1
 omega
theorem num_laid (x : Int) (hx : El x) : num (lay 32 x) = x := by
 have h1 := hx.h0
 have h2 := hx.h1
 unfold num
 rw [leN_lay, Int.emod_eq_of_lt h1 (Int.lt_trans h2 (by decide)), Int.emod_eq_of_lt h1 (Int.lt_trans h2 (by decide)), hx.em]
theorem agree_l {a b : List Int} (ha : By a) (hb : By b) : xn (leN (cl a)) (num (lay 32 (xn (leN (cl b)) 9))) = xn (leN (cl b)) (num (lay 32 (xn (leN (cl a)) 9))) := by
 obtain ⟨m, em, m1, m2, _⟩ := cl_num ha
 obtain ⟨n, en, n1, n2, _⟩ := cl_num hb
 rw [em, en, num_laid _ (Ed.xn_el _ _), num_laid _ (Ed.xn_el _ _)]
 exact Ed.agree m n m1 n1 (by omega) (by omega)
theorem three_l {a b c : List Int} (ha : By a) (hb : By b) (hc : By c) :
  xn (leN (cl a)) (num (lay 32 (xn (leN (cl b)) (num (lay 32 (xn (leN (cl c)) 9)))))) = xn (leN (cl c)) (num (lay 32 (xn (leN (cl a)) (num (lay 32 (xn (leN (cl b)) 9)))))) ∧
  xn (leN (cl a)) (num (lay 32 (xn (leN (cl b)) (num (lay 32 (xn (leN (cl c)) 9)))))) = xn (leN (cl b)) (num (lay 32 (xn (leN (cl c)) (num (lay 32 (xn (leN (cl a)) 9)))))) := by
 obtain ⟨l, el, l1, l2, _⟩ := cl_num ha
 obtain ⟨m, em, m1, m2, _⟩ := cl_num hb
 obtain ⟨n, en, n1, n2, _⟩ := cl_num hc
 rw [el, em, en, num_laid _ (Ed.xn_el _ _), num_laid _ (Ed.xn_el _ _), num_laid _ (Ed.xn_el _ _), num_laid _ (Ed.xn_el _ _), num_laid _ (Ed.xn_el _ _), num_laid _ (Ed.xn_el _ _)]
 exact Ed.three l m n l1 m1 n1 (by omega) (by omega) (by omega)
theorem lay_nought : lay 32 0 = bz 0 := by decide
theorem x_one {a : List Int} (ha : By a) : lay 32 (xn (leN (cl a)) (num (bz 1))) = bz 0 := by
 obtain ⟨m, em, m1, m2, _⟩ := cl_num ha
 rw [em, num_bz 1 (by decide) (by decide), Ed.xn_one m m1 (by omega), lay_nought]
theorem x_nought {a : List Int} : lay 32 (xn (leN (cl a)) (num (bz 0))) = bz 0 := by
 rw [num_bz 0 (by decide) (by decide), Ed.xn_nought, lay_nought]
theorem x_zero_c (k : List Int) (hk : By k) (w : World) : Calls Tryz.prog 37 #[(.agg (List.map (Value.int .u8) k).toArray), (.agg (List.map (Value.int .u8) (bz 0)).toArray)] w fun e w' => e = .returned (.agg (List.map (Value.int .u8) (bz 0)).toArray) ∧ Below w.heap.size w w' := by
 refine (x_c k (bz 0) hk (bz_by 0 (by decide) (by decide)) w).mono ?_
 rintro e w' ⟨rfl, hb⟩
 exact ⟨by rw [x_nought], hb⟩
theorem shared_one_c (k : List Int) (hk : By k) (w : World) : Calls Tryz.prog 128 #[(.agg (List.map (Value.int .u8) k).toArray), (.agg (List.map (Value.int .u8) (bz 1)).toArray)] w fun e w' => e = .returned (.tuple #[(.agg (List.map (Value.int .u8) (bz 0)).toArray), .int .i64 10]) ∧ Below w.heap.size w w' := by
 refine (shared_c k (bz 1) hk (bz_by 1 (by decide) (by decide)) w).mono ?_
 rintro e w' ⟨h, hb⟩
 rcases h with ⟨-, rfl⟩ | ⟨hne, -⟩
 ·exact ⟨rfl, hb⟩
 ·exact absurd (x_one hk) hne
/-- X and Public, by letters. -/
theorem x_l (k l : List Int) (hk : By k) (hl : By l) (w : World) : Calls Tryz.prog 37 #[(.agg (List.map (Value.int .u8) k).toArray), (.agg (List.map (Value.int .u8) l).toArray)] w fun e w' => ∃ z, e = .returned (.agg (List.map (Value.int .u8) (lay 32 z)).toArray) ∧ El z ∧ Hid (z = xn (leN (cl k)) (num l)) ∧ Below w.heap.size w w' := by
 refine (x_c k l hk hl w).mono ?_
 rintro e w' ⟨rfl, hb⟩
 exact ⟨_, rfl, Ed.xn_el _ _, rfl, hb⟩
theorem public_l (k : List Int) (hk : By k) (w : World) : Calls Tryz.prog 15 #[(.agg (List.map (Value.int .u8) k).toArray)] w fun e w' => ∃ z, e = .returned (.agg (List.map (Value.int .u8) (lay 32 z)).toArray) ∧ El z ∧ Hid (z = xn (leN (cl k)) 9) ∧ Below w.heap.size w w' := by
 refine (public_c k hk w).mono ?_
 rintro e w' ⟨rfl, hb⟩
 exact ⟨_, rfl, Ed.xn_el _ _, rfl, hb⟩
theorem shared_l (k l : List Int) (hk : By k) (hl : By l) (w : World) : Calls Tryz.prog 128 #[(.agg (List.map (Value.int .u8) k).toArray), (.agg (List.map (Value.int .u8) l).toArray)] w fun e w' => ∃ z, El z ∧ Hid (z = xn (leN (cl k)) (num l)) ∧ ((z = 0 ∧ e = .returned (.tuple #[(.agg (List.map (Value.int .u8) (bz 0)).toArray), .int .i64 10])) ∨ (z ≠ 0 ∧ e = .returned (.tuple #[(.agg (List.map (Value.int .u8) (lay 32 z)).toArray), .int .i64 0]))) ∧ Below w.heap.size w w' := by
 refine (shared_c k l hk hl w).mono ?_
 rintro e w' ⟨h, hb⟩
 refine ⟨_, Ed.xn_el _ _, rfl, ?_, hb⟩
 have hel := Ed.xn_el (leN (cl k)) (num l)
 generalize xn (leN (cl k)) (num l) = z at *
 rcases h with ⟨h, he⟩ | ⟨h, he⟩
 ·refine .inl ⟨?_, he⟩
  rw [← num_laid z hel, h, num_bz 0 (by decide) (by decide)]
 ·refine .inr ⟨fun h0 => h ?_, he⟩
  rw [h0, lay_nought]
end Go.Proofs.YtlnbjehimabaiaaGreatDoor.Fc
/-
 The point of 9 has a prime order: what two secrets make of each other's Public is never 0. No Go text in it; no statement of the seat is proved here.
-/
namespace Go.Proofs.YtlnbjehimabaiaaGreatDoor.Fc.Ed
open Nt
set_option maxRecDepth 8000

theorem pr_1224481 : Pr 1224481 := small_prime 1224481 1107 (by decide) (by decide) (by decide +kernel)
theorem pr_531581 : Pr 531581 := small_prime 531581 730 (by decide) (by decide) (by decide +kernel)
theorem pr_1257559732178653 : Pr 1257559732178653 :=
 pk2 2 2 pr_1224481 pr_531581 (by decide +kernel) (by decide +kernel) (by decide +kernel) (by decide +kernel) (by decide +kernel) (by decide +kernel) (by decide +kernel) (by decide +kernel) (by decide +kernel) (by decide +kernel)
theorem pr_4434155615661930479 : Pr 4434155615661930479 :=
 pk1 2 pr_1257559732178653 (by decide +kernel) (by decide +kernel) (by decide +kernel) (by decide +kernel) (by decide +kernel) (by decide +kernel)
theorem pr_172054593956031949258510691 : Pr 172054593956031949258510691 :=
 pk1 2 pr_4434155615661930479 (by decide +kernel) (by decide +kernel) (by decide +kernel) (by decide +kernel) (by decide +kernel) (by decide +kernel)
theorem pr_19757330305831588566944191468367130476339 : Pr 19757330305831588566944191468367130476339 :=
 pk1 2 pr_172054593956031949258510691 (by decide +kernel) (by decide +kernel) (by decide +kernel) (by decide +kernel) (by decide +kernel) (by decide +kernel)
theorem pr_276602624281642239937218680557139826668747 : Pr 276602624281642239937218680557139826668747 :=
 pk1 2 pr_19757330305831588566944191468367130476339 (by decide +kernel) (by decide +kernel) (by decide +kernel) (by decide +kernel) (by decide +kernel) (by decide +kernel)
theorem pr_7237005577332262213973186563042994240857116359379907606001950938285454250989 : Pr 7237005577332262213973186563042994240857116359379907606001950938285454250989 :=
 pk1 2 pr_276602624281642239937218680557139826668747 (by decide +kernel) (by decide +kernel) (by decide +kernel) (by decide +kernel) (by decide +kernel) (by decide +kernel)

theorem unit {q n : Nat} (hq : Pr q) (h : ¬ q ∣ n) : ∃ k m, n * k = 1 + q * m := by
 have hf := fermat hq h
 have h2 := hq.two
 refine ⟨n ^ (q - 2), n ^ (q - 1) / q, ?_⟩
 have e : n * n ^ (q - 2) = n ^ (q - 1) := by
  rw [Nat.mul_comm, ← Nat.pow_succ]
  congr 1
  omega
 rw [e]
 have := Nat.div_add_mod (n ^ (q - 1)) q
 omega
theorem lad_order : (lad ((7237005577332262213973186563042994240857116359379907606001950938285454250989 : Nat) : Int) 9 255).2.1 = 0 := by decide +kernel
theorem bp_hu {p : Nat} [NeZero p] (hp : p = 57896044618658097711785492504343953926634992332820282019728792003956564819949) : ph p 9 * (1 - (bp p).y) = 1 + (bp p).y ∧ 1 - (bp p).y ≠ 0 ∧ 1 + (bp p).y ≠ 0 := by
 rw [← ph_one (one_lt hp)]
 show ph p 9 * (ph p 1 - ph p 46316835694926478169428394003475163141307993866256225615783033603165251855960) = ph p 1 + ph p 46316835694926478169428394003475163141307993866256225615783033603165251855960 ∧ ph p 1 - ph p 46316835694926478169428394003475163141307993866256225615783033603165251855960 ≠ 0 ∧ ph p 1 + ph p 46316835694926478169428394003475163141307993866256225615783033603165251855960 ≠ 0
 rw [← ph_add, ← ph_sub, ← ph_mul]
 exact ⟨ph_cong hp (by decide +kernel), ph_ne hp (by decide), ph_ne hp (by decide)⟩
theorem order {p : Nat} [NeZero p] (hp : p = 57896044618658097711785492504343953926634992332820282019728792003956564819949) (n : Nat) (hn : n < 2 ^ 255) (hz : (lad (n : Int) 9 255).2.1 = 0) : mul inv (ph p 486664) (ph p 486660) n (bp p) = O p := by
 have hF := fld hp
 obtain ⟨hu, p1, p2⟩ := bp_hu (p := p) hp
 obtain ⟨r, _⟩ := lad_rep hp (bp_on hp) hu p1 p2 n hn 255 (by decide)
 rw [Nat.sub_self, Nat.pow_zero, Nat.div_one, hz] at r
 have hQ := mul_on hF (bp_on hp) n
 generalize mul inv (ph p 486664) (ph p 486660) n (bp p) = Q at *
 obtain ⟨r1, e⟩ := r
 rw [ph_zero] at r1 e
 generalize ph p (lad (n : Int) 9 255).1 = X at *
 have hX : X ≠ 0 := fun h => r1 (by rw [h]; grobner)
 have hy : Q.y = 1 := hF.canc hX (by grobner)
 have hx : Q.x = 0 := by
  have ad := hF.ad
  unfold On at hQ
  have h4 : 4 * (Q.x * Q.x) = 0 := by grobner
  have := (hF.mul0 h4).resolve_left hF.four
  exact (hF.mul0 this).elim id id
 exact pt_ext hx hy
theorem un_ne {p : Nat} [NeZero p] (hp : p = 57896044618658097711785492504343953926634992332820282019728792003956564819949) {q : Nat} (hq : Pr q) (ho : mul inv (ph p 486664) (ph p 486660) q (bp p) = O p) (n : Nat) (hn : ¬ q ∣ n * 2) : un (mul inv (ph p 486664) (ph p 486660) n (bp p)) ≠ 0 := fun h => by
 have hF := fld hp
 have hB := bp_on (p := p) hp
 have hU : U inv (mul inv (ph p 486664) (ph p 486660) n (bp p)) = 0 := fin_ext (by
  unfold un at h
  rw [h]
  simp)
 have h2 := axis hp (mul_on hF hB n) hU
 rw [mul_mul hF hB] at h2
 obtain ⟨k, m, e⟩ := unit hq hn
 have h3 : mul inv (ph p 486664) (ph p 486660) (n * 2 * k) (bp p) = O p := by rw [← mul_mul hF hB, h2, mul_o hp]
 rw [e, mul_add hF hB, ← mul_mul hF hB, ho, mul_o hp, add_o hF (mul_on hF hB 1)] at h3
 have e1 : mul inv (ph p 486664) (ph p 486660) 1 (bp p) = bp p := by
  show add inv _ _ (O p) (bp p) = bp p
  rw [add_comm hF (o_on _ _) hB, add_o hF hB]
 rw [e1] at h3
 have h4 : (bp p).y = 1 := by rw [h3]; rfl
 have := (bp_hu (p := p) hp).2.1
 rw [h4] at this
 exact this (by grobner)
theorem not_dvd {q : Nat} (hq : Pr q) (hb : 7237005577332262213973186563042994240829374041602535252466099000494570602496 ≤ q) (n : Nat) (h8 : n % 8 = 0) (h0 : 0 < n) (h1 : n < 2 ^ 255) : ¬ q ∣ n := fun h => by
 rw [show (2 : Nat) ^ 255 = 57896044618658097711785492504343953926634992332820282019728792003956564819968 from by decide] at h1
 obtain ⟨k, rfl⟩ : ∃ k, n = 8 * k := ⟨n / 8, by omega⟩
 rcases hq.dvd_mul h with h | h
 ·have := Nat.le_of_dvd (by decide) h
  omega
 ·have := Nat.le_of_dvd (by omega) h
  omega
theorem pub_at {p : Nat} [NeZero p] (hp : p = 57896044618658097711785492504343953926634992332820282019728792003956564819949) {q : Nat} (hq : Pr q) (ho : mul inv (ph p 486664) (ph p 486660) q (bp p) = O p) (h2 : ¬ q ∣ 2) (m n : Nat) (hm : m < 2 ^ 255) (hn : n < 2 ^ 255) (m2 : m % 2 = 0) (n2 : n % 2 = 0) (dm : ¬ q ∣ m) (dn : ¬ q ∣ n) : xn m (xn n 9) ≠ 0 := by
 rw [agree_at hp m n hm hn m2 n2]
 refine un_ne hp hq ho _ (fun h => ?_)
 rcases hq.dvd_mul h with h | h
 ·rcases hq.dvd_mul h with h | h
  ·exact dn h
  ·exact dm h
 ·exact h2 h
theorem pub_ne (m n : Nat) (hm : m < 2 ^ 255) (hn : n < 2 ^ 255) (m8 : m % 8 = 0) (n8 : n % 8 = 0) (m0 : 0 < m) (n0 : 0 < n) : xn m (xn n 9) ≠ 0 := by
 have : NeZero 57896044618658097711785492504343953926634992332820282019728792003956564819949 := ⟨by decide⟩
 exact pub_at (p := 57896044618658097711785492504343953926634992332820282019728792003956564819949) rfl pr_7237005577332262213973186563042994240857116359379907606001950938285454250989 (order (p := 57896044618658097711785492504343953926634992332820282019728792003956564819949) rfl 7237005577332262213973186563042994240857116359379907606001950938285454250989 (by decide) lad_order) (fun h => absurd (Nat.le_of_dvd (by decide) h) (by decide)) m n hm hn (by omega) (by omega) (not_dvd pr_7237005577332262213973186563042994240857116359379907606001950938285454250989 (by decide) m m8 m0 hm) (not_dvd pr_7237005577332262213973186563042994240857116359379907606001950938285454250989 (by decide) n n8 n0 hn)
end Go.Proofs.YtlnbjehimabaiaaGreatDoor.Fc.Ed
namespace Go.Proofs.YtlnbjehimabaiaaGreatDoor.Fc
open Go.RowKit
theorem public_l_ne {a b : List Int} (ha : By a) (hb : By b) : xn (leN (cl b)) (num (lay 32 (xn (leN (cl a)) 9))) ≠ 0 := by
 obtain ⟨m, em, m1, m2, m3⟩ := cl_num ha
 obtain ⟨n, en, n1, n2, n3⟩ := cl_num hb
 rw [show (2 : Nat) ^ 254 = 28948022309329048855892746252171976963317496166410141009864396001978282409984 from by decide] at m3 n3
 rw [em, en, num_laid _ (Ed.xn_el _ _)]
 exact Ed.pub_ne n m n1 m1 n2 m2 (by omega) (by omega)
end Go.Proofs.YtlnbjehimabaiaaGreatDoor.Fc
/-
 A handshake on lists: what both sides have in common, and what each message makes of it. No statement of the seat is proved here.
-/
namespace Go.Proofs.YtlnbjehimabaiaaGreatDoor
open Fc
set_option maxRecDepth 8000

theorem by_bn {l : List Int} (h : Bn 32 l) : Fc.By l := ⟨h.len, h.byt⟩
theorem bn_by {l : List Int} (h : Fc.By l) : Bn 32 l := ⟨h.len, h.byt⟩
theorem lay_bn (n : Nat) (x : Int) : Bn n (lay n x) := ⟨lay_length _ _, lay_byt _ _⟩
/-- What both sides have in common. -/
structure S11 where
 k : List Int
 h : Bool
 n : Int
 H : List Int
 C : List Int
/-- The public key of a secret, and the number that a secret and a public key make. -/
def pb (s : List Int) : List Int := lay 32 (xn (leN (cl s)) 9)
def dh (s o : List Int) : Int := xn (leN (cl s)) (num o)
theorem pb_bn (s : List Int) : Bn 32 (pb s) := lay_bn _ _
theorem dh_agree {a b : List Int} (ha : Bn 32 a) (hb : Bn 32 b) : dh a (pb b) = dh b (pb a) := agree_l (by_bn ha) (by_bn hb)
theorem dh_ne {a b : List Int} (ha : Bn 32 a) (hb : Bn 32 b) : dh a (pb b) ≠ 0 := public_l_ne (by_bn hb) (by_bn ha)
def S11.mh (S : S11) (x : List Int) : S11 := { S with H := sum7 (S.H ++ x) }
def S11.mk' (S : S11) (z : Int) : S11 := { S with k := ky8 (hm8 S.C (lay 32 z)) 2, h := true, n := 0, C := ky8 (hm8 S.C (lay 32 z)) 1 }
def S11.bx (S : S11) (t : List Int) : List Int := sx9 S.k S.h S.n S.H t
def S11.sq (S : S11) (t : List Int) : S11 := { S with n := sn9 S.h S.n, H := h10 (se9 S.h S.n) S.H (S.bx t) }
theorem se9_zero (h : Bool) {n : Int} (hn : n ≠ 18446744073709551615) : se9 h n = 0 := by
 unfold se9
 cases h with
 | false => rfl
 | true => rw [if_pos rfl, if_neg hn]
theorem oe9_back (k : List Int) (h : Bool) {n : Int} (H t : List Int) (hn : n ≠ 18446744073709551615) : oe9 k h n H (sx9 k h n H t) = 0 := by
 unfold oe9 sx9
 cases h with
 | false => rfl
 | true => rw [if_pos rfl, if_neg hn, if_pos rfl, if_neg hn]; exact er6_back _ _ _ _
theorem ox9_back (k : List Int) (h : Bool) {n : Int} (H : List Int) {t : List Int} (hn : n ≠ 18446744073709551615) (ht : Byt t) : ox9 k h n H (sx9 k h n H t) = t := by
 unfold ox9 sx9
 cases h with
 | false => rfl
 | true => rw [if_pos rfl, if_neg hn, if_pos rfl, if_neg hn]; exact op6_back _ _ _ ht
theorem on9_back (k : List Int) (h : Bool) {n : Int} (H t : List Int) (hn : n ≠ 18446744073709551615) : on9 k h n H (sx9 k h n H t) = sn9 h n := by
 unfold on9 sx9 sn9
 cases h with
 | false => rfl
 | true => rw [if_pos rfl, if_neg hn, if_pos rfl, if_neg hn, if_pos (er6_back _ _ _ _), if_pos rfl, if_neg hn]
theorem sx9_len (k : List Int) (h : Bool) {n : Int} (H t : List Int) (hn : n ≠ 18446744073709551615) : (sx9 k h n H t).length = t.length + (if h = true then 16 else 0) := by
 unfold sx9
 cases h with
 | false => rfl
 | true => rw [if_pos rfl, if_neg hn, if_pos rfl, se6_len]
/-- The secret and the public key that a token names. -/
def pr11 (f : Bool) (ss sf os oF : List Int) (t : Int) : List Int × List Int := if t = 61 then (sf, oF) else if (decide (t = 62) == f) = true then (sf, os) else (ss, oF)
/-- A token that goes out: what is in common then, the bytes, whether it can be. -/
def wq (f : Bool) (ss sf os oF : List Int) (t : Int) (S : S11) : S11 := if t = 101 then S.mh (pb sf) else if t = 115 then S.sq (pb ss) else S.mk' (dh (pr11 f ss sf os oF t).1 (pr11 f ss sf os oF t).2)
def wx (sf ss : List Int) (t : Int) (S : S11) : List Int := if t = 101 then pb sf else if t = 115 then S.bx (pb ss) else []
def wk (f : Bool) (ss sf os oF : List Int) (t : Int) (S : S11) : Prop := if t = 101 then True else if t = 115 then S.n ≠ 18446744073709551615 else dh (pr11 f ss sf os oF t).1 (pr11 f ss sf os oF t).2 ≠ 0
/-- All of a message's tokens. -/
def wqs (f : Bool) (ss sf os oF : List Int) : List Int → S11 → S11
 | [], S => S
 | t :: ts, S => wqs f ss sf os oF ts (wq f ss sf os oF t S)
def wxs (f : Bool) (ss sf os oF : List Int) : List Int → S11 → List Int
 | [], _ => []
 | t :: ts, S => wx sf ss t S ++ wxs f ss sf os oF ts (wq f ss sf os oF t S)
def wks (f : Bool) (ss sf os oF : List Int) : List Int → S11 → Prop
 | [], _ => True
 | t :: ts, S => wk f ss sf os oF t S ∧ wks f ss sf os oF ts (wq f ss sf os oF t S)
/-- What is read of the other. -/
structure P11 where
 os : List Int
 oF : List Int
 met : Bool
/-- A token that is read, of the bytes m: what is in common then, what is known of the other, what is left, whether it can be. -/
def rz (S : S11) : Nat := if S.h = true then 48 else 32
def rq (f : Bool) (ss sf : List Int) (t : Int) (m : List Int) (S : S11) (p : P11) : S11 :=
 if t = 101 then S.mh (m.take 32) else if t = 115 then { S with n := on9 S.k S.h S.n S.H (m.take (rz S)), H := h10 (oe9 S.k S.h S.n S.H (m.take (rz S))) S.H (m.take (rz S)) } else S.mk' (dh (pr11 f ss sf p.os p.oF t).1 (pr11 f ss sf p.os p.oF t).2)
def rp (t : Int) (m : List Int) (S : S11) (p : P11) : P11 :=
 if t = 101 then { p with oF := m.take 32 } else if t = 115 then { p with os := ox9 S.k S.h S.n S.H (m.take (rz S)), met := true } else p
def rm (t : Int) (m : List Int) (S : S11) : List Int := if t = 101 then m.drop 32 else if t = 115 then m.drop (rz S) else m
def rk (f : Bool) (ss sf : List Int) (t : Int) (m : List Int) (S : S11) (p : P11) : Prop :=
 if t = 101 then 32 ≤ m.length else if t = 115 then rz S ≤ m.length ∧ oe9 S.k S.h S.n S.H (m.take (rz S)) = 0 ∧ (ox9 S.k S.h S.n S.H (m.take (rz S))).length = 32 else dh (pr11 f ss sf p.os p.oF t).1 (pr11 f ss sf p.os p.oF t).2 ≠ 0
/-- All of a message's tokens: what is in common, what is known, what is left. -/
def rqs (f : Bool) (ss sf : List Int) : List Int → List Int → S11 → P11 → S11 × P11 × List Int
 | [], m, S, p => (S, p, m)
 | t :: ts, m, S, p => rqs f ss sf ts (rm t m S) (rq f ss sf t m S p) (rp t m S p)
def rks (f : Bool) (ss sf : List Int) : List Int → List Int → S11 → P11 → Prop
 | [], _, _, _ => True
 | t :: ts, m, S, p => rk f ss sf t m S p ∧ rks f ss sf ts (rm t m S) (rq f ss sf t m S p) (rp t m S p)
/-- The tokens of each step. -/
def tk11 (st : Nat) : List Int := if st = 0 then [101] else if st = 1 then [101, 61, 115, 62] else [115, 60]
/-- Who writes in a step. -/
def wr11 (f : Bool) (st : Nat) : Bool := f == decide (st % 2 = 0)
section
variable {f : Bool} {ss sf os oF : List Int} {S : S11} {p : P11}
theorem w_e : wq f ss sf os oF 101 S = S.mh (pb sf) ∧ wx sf ss 101 S = pb sf ∧ wk f ss sf os oF 101 S := ⟨rfl, rfl, trivial⟩
theorem w_s : wq f ss sf os oF 115 S = S.sq (pb ss) ∧ wx sf ss 115 S = S.bx (pb ss) ∧ (wk f ss sf os oF 115 S ↔ S.n ≠ 18446744073709551615) := ⟨rfl, rfl, Iff.rfl⟩
theorem r_e (x r : List Int) (hx : x.length = 32) : rq f ss sf 101 (x ++ r) S p = S.mh x ∧ rp 101 (x ++ r) S p = { p with oF := x } ∧ rm 101 (x ++ r) S = r ∧ rk f ss sf 101 (x ++ r) S p := by
 have h1 : (x ++ r).take 32 = x := List.take_left' hx
 have h2 : (x ++ r).drop 32 = r := List.drop_left' hx
 refine ⟨?_, ?_, ?_, ?_⟩
 ·show S.mh ((x ++ r).take 32) = _
  rw [h1]
 ·show ({ p with oF := (x ++ r).take 32 } : P11) = _
  rw [h1]
 ·exact h2
 ·show 32 ≤ (x ++ r).length
  rw [List.length_append, hx]
  omega
theorem bx_len (hn : S.n ≠ 18446744073709551615) {t : List Int} (ht : t.length = 32) : (S.bx t).length = rz S := by
 unfold S11.bx rz
 rw [sx9_len _ _ _ _ hn, ht]
 cases S.h <;> rfl
theorem r_s (t r : List Int) (ht : Bn 32 t) (hn : S.n ≠ 18446744073709551615) : rq f ss sf 115 (S.bx t ++ r) S p = S.sq t ∧ rp 115 (S.bx t ++ r) S p = { p with os := t, met := true } ∧ rm 115 (S.bx t ++ r) S = r ∧ rk f ss sf 115 (S.bx t ++ r) S p := by
 have hl := bx_len hn ht.len
 have h1 : (S.bx t ++ r).take (rz S) = S.bx t := List.take_left' hl
 have h2 : (S.bx t ++ r).drop (rz S) = r := List.drop_left' hl
 have e1 : oe9 S.k S.h S.n S.H (S.bx t) = 0 := oe9_back _ _ _ _ hn
 have e2 : ox9 S.k S.h S.n S.H (S.bx t) = t := ox9_back _ _ _ hn ht.byt
 have e3 : on9 S.k S.h S.n S.H (S.bx t) = sn9 S.h S.n := on9_back _ _ _ _ hn
 refine ⟨?_, ?_, h2, ?_⟩
 ·show ({ S with n := on9 S.k S.h S.n S.H ((S.bx t ++ r).take (rz S)), H := h10 (oe9 S.k S.h S.n S.H ((S.bx t ++ r).take (rz S))) S.H ((S.bx t ++ r).take (rz S)) } : S11) = _
  rw [h1, e1, e3]
  unfold S11.sq
  rw [se9_zero _ hn]
 ·show ({ p with os := ox9 S.k S.h S.n S.H ((S.bx t ++ r).take (rz S)), met := true } : P11) = _
  rw [h1, e2]
 ·show rz S ≤ (S.bx t ++ r).length ∧ oe9 S.k S.h S.n S.H ((S.bx t ++ r).take (rz S)) = 0 ∧ (ox9 S.k S.h S.n S.H ((S.bx t ++ r).take (rz S))).length = 32
  rw [h1, e1, e2, List.length_append, hl]
  exact ⟨by omega, rfl, ht.len⟩
end
/-- The three messages: what is in common behind each, of the first one's secrets a, x and the other's b, y. -/
def c0 (x p : List Int) (S : S11) : S11 := (S.mh (pb x)).sq p
def c1a (x b y : List Int) (S : S11) : S11 := ((S.mh (pb y)).mk' (dh x (pb y))).sq (pb b)
def c1b (x b y : List Int) (S : S11) : S11 := (c1a x b y S).mk' (dh x (pb b))
def c1 (x b y p : List Int) (S : S11) : S11 := (c1b x b y S).sq p
def c2a (a y : List Int) (S : S11) : S11 := (S.sq (pb a)).mk' (dh a (pb y))
def c2 (a y p : List Int) (S : S11) : S11 := (c2a a y S).sq p
def x0 (x p : List Int) (S : S11) : List Int := pb x ++ (S.mh (pb x)).bx p
def x1 (x b y p : List Int) (S : S11) : List Int := pb y ++ (((S.mh (pb y)).mk' (dh x (pb y))).bx (pb b) ++ (c1b x b y S).bx p)
def x2 (a y p : List Int) (S : S11) : List Int := S.bx (pb a) ++ (c2a a y S).bx p
theorem n_sq {S : S11} (t : List Int) (h : 0 ≤ S.n ∧ S.n < 1000) : 0 ≤ (S.sq t).n ∧ (S.sq t).n < 1001 := by
 show 0 ≤ sn9 S.h S.n ∧ sn9 S.h S.n < 1001
 unfold sn9
 split
 ·split <;> omega
 ·omega
theorem w0 {a x : List Int} (S : S11) (os oF : List Int) : wqs true a x os oF (tk11 0) S = S.mh (pb x) ∧ wxs true a x os oF (tk11 0) S = pb x ∧ wks true a x os oF (tk11 0) S :=
 ⟨rfl, by show pb x ++ [] = _; rw [List.append_nil], trivial, trivial⟩
theorem r0 {x b y : List Int} (S : S11) (p : P11) (r : List Int) : rqs false b y (tk11 0) (pb x ++ r) S p = (S.mh (pb x), { p with oF := pb x }, r) ∧ rks false b y (tk11 0) (pb x ++ r) S p := by
 obtain ⟨h1, h2, h3, h4⟩ := r_e (f := false) (ss := b) (sf := y) (S := S) (p := p) (pb x) r (pb_bn x).len
 refine ⟨?_, h4, trivial⟩
 show (rq false b y 101 (pb x ++ r) S p, rp 101 (pb x ++ r) S p, rm 101 (pb x ++ r) S) = _
 rw [h1, h2, h3]
theorem w1 {x b y : List Int} (hx : Bn 32 x) (hb : Bn 32 b) (hy : Bn 32 y) (S : S11) (os : List Int) : wqs false b y os (pb x) (tk11 1) S = c1b x b y S ∧ wxs false b y os (pb x) (tk11 1) S = pb y ++ ((S.mh (pb y)).mk' (dh x (pb y))).bx (pb b) ∧ wks false b y os (pb x) (tk11 1) S := by
 have e1 : dh y (pb x) = dh x (pb y) := dh_agree hy hx
 have e2 : dh b (pb x) = dh x (pb b) := dh_agree hb hx
 refine ⟨?_, ?_, trivial, ?_, ?_, ?_, trivial⟩
 ·show ((((S.mh (pb y)).mk' (dh y (pb x))).sq (pb b)).mk' (dh b (pb x))) = _
  rw [e1, e2]
  rfl
 ·show pb y ++ ([] ++ (((S.mh (pb y)).mk' (dh y (pb x))).bx (pb b) ++ ([] ++ []))) = _
  rw [e1, List.nil_append, List.nil_append, List.append_nil]
 ·show dh y (pb x) ≠ 0
  exact dh_ne hy hx
 ·show (0 : Int) ≠ 18446744073709551615
  decide
 ·show dh b (pb x) ≠ 0
  exact dh_ne hb hx
theorem r1 {a x b y : List Int} (hx : Bn 32 x) (hb : Bn 32 b) (hy : Bn 32 y) (S : S11) (p : P11) (r : List Int) : rqs true a x (tk11 1) (pb y ++ (((S.mh (pb y)).mk' (dh x (pb y))).bx (pb b) ++ r)) S p = (c1b x b y S, { os := pb b, oF := pb y, met := true }, r) ∧ rks true a x (tk11 1) (pb y ++ (((S.mh (pb y)).mk' (dh x (pb y))).bx (pb b) ++ r)) S p := by
 obtain ⟨h1, h2, h3, h4⟩ := r_e (f := true) (ss := a) (sf := x) (S := S) (p := p) (pb y) (((S.mh (pb y)).mk' (dh x (pb y))).bx (pb b) ++ r) (pb_bn y).len
 obtain ⟨g1, g2, g3, g4⟩ := r_s (f := true) (ss := a) (sf := x) (S := (S.mh (pb y)).mk' (dh x (pb y))) (p := { p with oF := pb y }) (pb b) r (pb_bn b) (by show (0 : Int) ≠ 18446744073709551615; decide)
 unfold tk11
 rw [if_neg (by decide), if_pos rfl]
 constructor
 ·unfold rqs
  rw [h1, h2, h3]
  unfold rqs
  show rqs true a x [115, 62] (((S.mh (pb y)).mk' (dh x (pb y))).bx (pb b) ++ r) ((S.mh (pb y)).mk' (dh x (pb y))) { p with oF := pb y } = _
  unfold rqs
  rw [g1, g2, g3]
  rfl
 ·unfold rks
  rw [h1, h2, h3]
  refine ⟨h4, ?_⟩
  unfold rks
  refine ⟨dh_ne hx hy, ?_⟩
  show rks true a x [115, 62] (((S.mh (pb y)).mk' (dh x (pb y))).bx (pb b) ++ r) ((S.mh (pb y)).mk' (dh x (pb y))) { p with oF := pb y }
  unfold rks
  rw [g1, g2, g3]
  exact ⟨g4, dh_ne hx hb, trivial⟩
theorem w2 {a x y : List Int} (ha : Bn 32 a) (hy : Bn 32 y) (S : S11) (os : List Int) (hn : S.n ≠ 18446744073709551615) : wqs true a x os (pb y) (tk11 2) S = c2a a y S ∧ wxs true a x os (pb y) (tk11 2) S = S.bx (pb a) ∧ wks true a x os (pb y) (tk11 2) S := by
 refine ⟨rfl, ?_, hn, ?_, trivial⟩
 ·show S.bx (pb a) ++ ([] ++ []) = _
  rw [List.nil_append, List.append_nil]
 ·show dh a (pb y) ≠ 0
  exact dh_ne ha hy
theorem r2 {a b y : List Int} (ha : Bn 32 a) (hy : Bn 32 y) (S : S11) (p : P11) (r : List Int) (hn : S.n ≠ 18446744073709551615) : rqs false b y (tk11 2) (S.bx (pb a) ++ r) S p = (c2a a y S, { p with os := pb a, met := true }, r) ∧ rks false b y (tk11 2) (S.bx (pb a) ++ r) S p := by
 obtain ⟨g1, g2, g3, g4⟩ := r_s (f := false) (ss := b) (sf := y) (S := S) (p := p) (pb a) r (pb_bn a) hn
 have e1 : dh y (pb a) = dh a (pb y) := dh_agree hy ha
 unfold tk11
 rw [if_neg (by decide), if_neg (by decide)]
 constructor
 ·unfold rqs
  rw [g1, g2, g3]
  show ((S.sq (pb a)).mk' (dh y (pb a)), ({ p with os := pb a, met := true } : P11), r) = _
  rw [e1]
  rfl
 ·unfold rks
  rw [g1, g2, g3]
  refine ⟨g4, ?_, trivial⟩
  show dh y (pb a) ≠ 0
  exact dh_ne hy ha
end Go.Proofs.YtlnbjehimabaiaaGreatDoor
