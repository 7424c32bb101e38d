/-
  The point of 9 has a prime order: what two secrets make of each other's Public is never 0. No Go text in it; no statement of the seat is proved here.
-/
import Derived.Test.YtdfmbknofdkffaaCLaw
namespace Go.Proofs.Ytdfmbknofdkffaa.Ed
open Nt

theorem pr_1224481 : Pr 1224481 := small_prime 1224481 1107 (by decide) (by decide) (by decide +kernel)
theorem pr_531581 : Pr 531581 := small_prime 531581 730 (by decide) (by decide) (by decide +kernel)
theorem pr_1257559732178653 : Pr 1257559732178653 :=
  pk2 2 2 pr_1224481 pr_531581 (by decide +kernel) (by decide +kernel) (by decide +kernel) (by decide +kernel) (by decide +kernel) (by decide +kernel) (by decide +kernel) (by decide +kernel) (by decide +kernel) (by decide +kernel)
theorem pr_4434155615661930479 : Pr 4434155615661930479 :=
  pk1 2 pr_1257559732178653 (by decide +kernel) (by decide +kernel) (by decide +kernel) (by decide +kernel) (by decide +kernel) (by decide +kernel)
theorem pr_172054593956031949258510691 : Pr 172054593956031949258510691 :=
  pk1 2 pr_4434155615661930479 (by decide +kernel) (by decide +kernel) (by decide +kernel) (by decide +kernel) (by decide +kernel) (by decide +kernel)
theorem pr_19757330305831588566944191468367130476339 : Pr 19757330305831588566944191468367130476339 :=
  pk1 2 pr_172054593956031949258510691 (by decide +kernel) (by decide +kernel) (by decide +kernel) (by decide +kernel) (by decide +kernel) (by decide +kernel)
theorem pr_276602624281642239937218680557139826668747 : Pr 276602624281642239937218680557139826668747 :=
  pk1 2 pr_19757330305831588566944191468367130476339 (by decide +kernel) (by decide +kernel) (by decide +kernel) (by decide +kernel) (by decide +kernel) (by decide +kernel)
theorem pr_7237005577332262213973186563042994240857116359379907606001950938285454250989 : Pr 7237005577332262213973186563042994240857116359379907606001950938285454250989 :=
  pk1 2 pr_276602624281642239937218680557139826668747 (by decide +kernel) (by decide +kernel) (by decide +kernel) (by decide +kernel) (by decide +kernel) (by decide +kernel)

theorem unit {q n : Nat} (hq : Pr q) (h : ¬ q ∣ n) : ∃ k m, n * k = 1 + q * m := by
  have hf := fermat hq h
  have h2 := hq.two
  refine ⟨n ^ (q - 2), n ^ (q - 1) / q, ?_⟩
  have e : n * n ^ (q - 2) = n ^ (q - 1) := by
    rw [Nat.mul_comm, ← Nat.pow_succ]
    congr 1
    omega
  rw [e]
  have := Nat.div_add_mod (n ^ (q - 1)) q
  omega
theorem lad_order : (lad ((7237005577332262213973186563042994240857116359379907606001950938285454250989 : Nat) : Int) 9 255).2.1 = 0 := by decide +kernel
theorem bp_hu {p : Nat} [NeZero p] (hp : p = 57896044618658097711785492504343953926634992332820282019728792003956564819949) : ph p 9 * (1 - (bp p).y) = 1 + (bp p).y ∧ 1 - (bp p).y ≠ 0 ∧ 1 + (bp p).y ≠ 0 := by
  rw [← ph_one (one_lt hp)]
  show ph p 9 * (ph p 1 - ph p 46316835694926478169428394003475163141307993866256225615783033603165251855960) = ph p 1 + ph p 46316835694926478169428394003475163141307993866256225615783033603165251855960 ∧ ph p 1 - ph p 46316835694926478169428394003475163141307993866256225615783033603165251855960 ≠ 0 ∧ ph p 1 + ph p 46316835694926478169428394003475163141307993866256225615783033603165251855960 ≠ 0
  rw [← ph_add, ← ph_sub, ← ph_mul]
  exact ⟨ph_cong hp (by decide +kernel), ph_ne hp (by decide), ph_ne hp (by decide)⟩
theorem order {p : Nat} [NeZero p] (hp : p = 57896044618658097711785492504343953926634992332820282019728792003956564819949) (n : Nat) (hn : n < 2 ^ 255) (hz : (lad (n : Int) 9 255).2.1 = 0) : mul inv (ph p 486664) (ph p 486660) n (bp p) = O p := by
  have hF := fld hp
  obtain ⟨hu, p1, p2⟩ := bp_hu (p := p) hp
  obtain ⟨r, _⟩ := lad_rep hp (bp_on hp) hu p1 p2 n hn 255 (by decide)
  rw [Nat.sub_self, Nat.pow_zero, Nat.div_one, hz] at r
  have hQ := mul_on hF (bp_on hp) n
  generalize mul inv (ph p 486664) (ph p 486660) n (bp p) = Q at *
  obtain ⟨r1, e⟩ := r
  rw [ph_zero] at r1 e
  generalize ph p (lad (n : Int) 9 255).1 = X at *
  have hX : X ≠ 0 := fun h => r1 (by rw [h]; grobner)
  have hy : Q.y = 1 := hF.canc hX (by grobner)
  have hx : Q.x = 0 := by
    have ad := hF.ad
    unfold On at hQ
    have h4 : 4 * (Q.x * Q.x) = 0 := by grobner
    have := (hF.mul0 h4).resolve_left hF.four
    exact (hF.mul0 this).elim id id
  exact pt_ext hx hy
theorem un_ne {p : Nat} [NeZero p] (hp : p = 57896044618658097711785492504343953926634992332820282019728792003956564819949) {q : Nat} (hq : Pr q) (ho : mul inv (ph p 486664) (ph p 486660) q (bp p) = O p) (n : Nat) (hn : ¬ q ∣ n * 2) : un (mul inv (ph p 486664) (ph p 486660) n (bp p)) ≠ 0 := fun h => by
  have hF := fld hp
  have hB := bp_on (p := p) hp
  have hU : U inv (mul inv (ph p 486664) (ph p 486660) n (bp p)) = 0 := fin_ext (by
    unfold un at h
    rw [h]
    simp)
  have h2 := axis hp (mul_on hF hB n) hU
  rw [mul_mul hF hB] at h2
  obtain ⟨k, m, e⟩ := unit hq hn
  have h3 : mul inv (ph p 486664) (ph p 486660) (n * 2 * k) (bp p) = O p := by rw [← mul_mul hF hB, h2, mul_o hp]
  rw [e, mul_add hF hB, ← mul_mul hF hB, ho, mul_o hp, add_o hF (mul_on hF hB 1)] at h3
  have e1 : mul inv (ph p 486664) (ph p 486660) 1 (bp p) = bp p := by
    show add inv _ _ (O p) (bp p) = bp p
    rw [add_comm hF (o_on _ _) hB, add_o hF hB]
  rw [e1] at h3
  have h4 : (bp p).y = 1 := by rw [h3]; rfl
  have := (bp_hu (p := p) hp).2.1
  rw [h4] at this
  exact this (by grobner)
theorem not_dvd {q : Nat} (hq : Pr q) (hb : 7237005577332262213973186563042994240829374041602535252466099000494570602496 ≤ q) (n : Nat) (h8 : n % 8 = 0) (h0 : 0 < n) (h1 : n < 2 ^ 255) : ¬ q ∣ n := fun h => by
  rw [show (2 : Nat) ^ 255 = 57896044618658097711785492504343953926634992332820282019728792003956564819968 from by decide] at h1
  obtain ⟨k, rfl⟩ : ∃ k, n = 8 * k := ⟨n / 8, by omega⟩
  rcases hq.dvd_mul h with h | h
  · have := Nat.le_of_dvd (by decide) h
    omega
  · have := Nat.le_of_dvd (by omega) h
    omega
theorem pub_at {p : Nat} [NeZero p] (hp : p = 57896044618658097711785492504343953926634992332820282019728792003956564819949) {q : Nat} (hq : Pr q) (ho : mul inv (ph p 486664) (ph p 486660) q (bp p) = O p) (h2 : ¬ q ∣ 2) (m n : Nat) (hm : m < 2 ^ 255) (hn : n < 2 ^ 255) (m2 : m % 2 = 0) (n2 : n % 2 = 0) (dm : ¬ q ∣ m) (dn : ¬ q ∣ n) : xn m (xn n 9) ≠ 0 := by
  rw [agree_at hp m n hm hn m2 n2]
  refine un_ne hp hq ho _ (fun h => ?_)
  rcases hq.dvd_mul h with h | h
  · rcases hq.dvd_mul h with h | h
    · exact dn h
    · exact dm h
  · exact h2 h
theorem pub_ne (m n : Nat) (hm : m < 2 ^ 255) (hn : n < 2 ^ 255) (m8 : m % 8 = 0) (n8 : n % 8 = 0) (m0 : 0 < m) (n0 : 0 < n) : xn m (xn n 9) ≠ 0 := by
  have : NeZero 57896044618658097711785492504343953926634992332820282019728792003956564819949 := ⟨by decide⟩
  exact pub_at (p := 57896044618658097711785492504343953926634992332820282019728792003956564819949) rfl pr_7237005577332262213973186563042994240857116359379907606001950938285454250989 (order (p := 57896044618658097711785492504343953926634992332820282019728792003956564819949) rfl 7237005577332262213973186563042994240857116359379907606001950938285454250989 (by decide) lad_order) (fun h => absurd (Nat.le_of_dvd (by decide) h) (by decide)) m n hm hn (by omega) (by omega) (not_dvd pr_7237005577332262213973186563042994240857116359379907606001950938285454250989 (by decide) m m8 m0 hm) (not_dvd pr_7237005577332262213973186563042994240857116359379907606001950938285454250989 (by decide) n n8 n0 hn)
end Go.Proofs.Ytdfmbknofdkffaa.Ed
namespace Go.Proofs.Ytdfmbknofdkffaa
open Go.RowKit
theorem public_l_ne {a b : List Int} (ha : By a) (hb : By b) : xn (leN (cl b)) (num (lay 32 (xn (leN (cl a)) 9))) ≠ 0 := by
  obtain ⟨m, em, m1, m2, m3⟩ := cl_num ha
  obtain ⟨n, en, n1, n2, n3⟩ := cl_num hb
  rw [show (2 : Nat) ^ 254 = 28948022309329048855892746252171976963317496166410141009864396001978282409984 from by decide] at m3 n3
  rw [em, en, num_laid _ (Ed.xn_el _ _)]
  exact Ed.pub_ne n m n1 m1 n2 m2 (by omega) (by omega)
end Go.Proofs.Ytdfmbknofdkffaa
