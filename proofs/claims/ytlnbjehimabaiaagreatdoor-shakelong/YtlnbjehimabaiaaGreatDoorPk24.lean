/-
  Several texts of one's own, laid together. No statement of the seat is proved here.
-/
import Derived.Test.YtlnbjehimabaiaaGreatDoorFInv
import Derived.Test.YtlnbjehimabaiaaGreatDoorFByte
import Derived.Stop.BytesEq
import Derived.Test.YtlnbjehimabaiaaGreatDoorPk1
import Derived.BigFrame
/-
  Plain number theory: 2^255 - 19 is a prime (by Pocklington's criterion, over a chain of primes), and what Fermat says of it. No Go text in it; no statement of the seat is proved here.
-/
namespace Go.Proofs.YtlnbjehimabaiaaGreatDoor.Fc.Nt

/-- A prime. -/
structure Pr (p : Nat) : Prop where
  two : 2 ≤ p
  only : ∀ m, m ∣ p → m = 1 ∨ m = p

set_option maxRecDepth 8000 in
theorem Pr.coprime {p a : Nat} (hp : Pr p) (h : ¬ p ∣ a) : Nat.gcd a p = 1 := by
  rcases hp.only _ (Nat.gcd_dvd_right a p) with h1 | h1
  · exact h1
  · exact absurd (h1 ▸ Nat.gcd_dvd_left a p) h
set_option maxRecDepth 8000 in
theorem Pr.dvd_mul {p a b : Nat} (hp : Pr p) (h : p ∣ a * b) : p ∣ a ∨ p ∣ b := by
  by_cases ha : p ∣ a
  · exact .inl ha
  · refine .inr (Nat.Coprime.dvd_of_dvd_mul_left (k := p) (m := a) ?_ h)
    rw [Nat.Coprime, Nat.gcd_comm]
    exact hp.coprime ha

/-! ### Products of lists -/
def prod : List Nat → Nat
  | [] => 1
  | x :: l => x * prod l
set_option maxRecDepth 8000 in
theorem prod_perm {l l' : List Nat} (h : l.Perm l') : prod l = prod l' := by
  induction h with
  | nil => rfl
  | cons x _ ih => simp [prod, ih]
  | swap x y l => simp [prod, Nat.mul_left_comm]
  | trans _ _ a b => exact a.trans b
set_option maxRecDepth 8000 in
theorem prod_mod (p a : Nat) : ∀ l : List Nat, prod (l.map fun i => a * i % p) % p = a ^ l.length * prod l % p
  | [] => by simp [prod]
  | x :: l => by
    have ih := prod_mod p a l
    simp only [List.map_cons, prod, List.length_cons]
    rw [Nat.mul_mod, ih, Nat.mod_mod, ← Nat.mul_mod, Nat.pow_succ]
    congr 1
    rw [Nat.mul_mul_mul_comm, Nat.mul_comm (a ^ l.length) a, Nat.mul_assoc]
set_option maxRecDepth 8000 in
theorem prod_cop {p : Nat} (hp : Pr p) : ∀ l : List Nat, (∀ x ∈ l, ¬ p ∣ x) → ¬ p ∣ prod l
  | [], _ => fun h => by
    have := Nat.le_of_dvd (by decide) h
    have := hp.two
    simp [prod] at *
    omega
  | x :: l, h => fun hd => by
    rcases hp.dvd_mul (show p ∣ x * prod l from hd) with h1 | h1
    · exact h x (by simp) h1
    · exact prod_cop hp l (fun y hy => h y (by simp [hy])) h1
set_option maxRecDepth 8000 in
/-- A list without repeats, all of it in another one that is no longer, is that list in another order. -/
theorem perm_of {l l' : List Nat} (hn : l.Nodup) (hs : ∀ x ∈ l, x ∈ l') (hl : l'.length ≤ l.length) : l.Perm l' := by
  induction l generalizing l' with
  | nil =>
    have : l' = [] := List.eq_nil_of_length_eq_zero (by simpa using hl)
    rw [this]
  | cons x l ih =>
    have hx : x ∈ l' := hs x (by simp)
    have hp := List.perm_cons_erase hx
    refine (List.Perm.cons x (ih (l' := l'.erase x) (List.nodup_cons.1 hn).2 ?_ ?_)).trans hp.symm
    · intro y hy
      have hne : y ≠ x := fun e => (List.nodup_cons.1 hn).1 (e ▸ hy)
      exact (List.mem_erase_of_ne hne).2 (hs y (by simp [hy]))
    · rw [List.length_erase_of_mem hx]
      simp at hl
      omega

set_option maxRecDepth 8000 in
theorem mod_sub {a b n : Nat} (h : a ≤ b) (e : a % n = b % n) : n ∣ b - a := by
  have h1 := Nat.div_add_mod a n
  have h2 := Nat.div_add_mod b n
  refine ⟨b / n - a / n, ?_⟩
  have hq : a / n ≤ b / n := Nat.div_le_div_right h
  rw [Nat.mul_sub]
  omega
set_option maxRecDepth 8000 in
theorem inj_mod {p a i j : Nat} (hp : Pr p) (ha : ¬ p ∣ a) (hij : i ≤ j) (hj : j < p) (e : a * i % p = a * j % p) : i = j := by
  have h := mod_sub (Nat.mul_le_mul_left a hij) e
  rw [← Nat.mul_sub] at h
  rcases hp.dvd_mul h with h1 | h1
  · exact absurd h1 ha
  · by_cases hz : j - i = 0
    · omega
    · have := Nat.le_of_dvd (by omega) h1
      omega

set_option maxRecDepth 8000 in
/-- Fermat's little theorem. -/
theorem fermat {p a : Nat} (hp : Pr p) (ha : ¬ p ∣ a) : a ^ (p - 1) % p = 1 := by
  have h2 := hp.two
  let l := List.range' 1 (p - 1)
  have hm : ∀ x ∈ l, 1 ≤ x ∧ x < p := fun x hx => by
    have := List.mem_range'_1.1 hx
    omega
  have hnd : (l.map fun i => a * i % p).Nodup := by
    rw [List.nodup_iff_pairwise_ne, List.pairwise_map]
    refine List.Pairwise.imp_of_mem ?_ (List.pairwise_lt_range' (s := 1) (n := p - 1))
    intro i j hi hj hlt e
    have := inj_mod hp ha (Nat.le_of_lt hlt) (hm j hj).2 e
    omega
  have hsub : ∀ x ∈ l.map fun i => a * i % p, x ∈ l := by
    intro x hx
    obtain ⟨i, hi, rfl⟩ := List.mem_map.1 hx
    have hb := hm i hi
    have hlt : a * i % p < p := Nat.mod_lt _ (by omega)
    have hne : a * i % p ≠ 0 := fun e => by
      rcases hp.dvd_mul (Nat.dvd_of_mod_eq_zero e) with h | h
      · exact ha h
      · have := Nat.le_of_dvd (by omega) h
        omega
    refine List.mem_range'_1.2 ⟨by omega, by omega⟩
  have hperm := perm_of hnd hsub (by simp)
  have e1 := prod_mod p a l
  rw [prod_perm hperm] at e1
  have hlen : l.length = p - 1 := by simp [l]
  rw [hlen] at e1
  have hc : ¬ p ∣ prod l := prod_cop hp l (fun x hx h => by
    have := hm x hx
    have := Nat.le_of_dvd (by omega) h
    omega)
  have hpos : 1 ≤ a ^ (p - 1) := Nat.pos_of_ne_zero (fun e => ha (by
    have : a = 0 := by
      rcases Nat.eq_zero_or_pos a with h | h
      · exact h
      · exact absurd e (Nat.ne_of_gt (Nat.pow_pos h))
    rw [this]; exact Nat.dvd_zero p))
  have hd := mod_sub (show prod l ≤ a ^ (p - 1) * prod l from Nat.le_mul_of_pos_left _ hpos) e1
  have e2 : a ^ (p - 1) * prod l - prod l = (a ^ (p - 1) - 1) * prod l := by rw [Nat.sub_mul, Nat.one_mul]
  rw [e2] at hd
  rcases hp.dvd_mul hd with h | h
  · obtain ⟨k, hk⟩ := h
    have : a ^ (p - 1) = 1 + p * k := by omega
    rw [this, Nat.add_mul_mod_self_left, Nat.mod_eq_of_lt (by omega)]
  · exact absurd h hc

/-! ### Pocklington -/
set_option maxRecDepth 8000 in
theorem pow_mod_one {a n m : Nat} (h : a ^ m % n = 1 % n) (k : Nat) : a ^ (m * k) % n = 1 % n := by
  rw [Nat.pow_mul, Nat.pow_mod, h, ← Nat.pow_mod, Nat.one_pow]
set_option maxRecDepth 8000 in
theorem pow_gcd {a n : Nat} : ∀ (x y : Nat), a ^ x % n = 1 % n → a ^ y % n = 1 % n → a ^ (Nat.gcd x y) % n = 1 % n := by
  intro x y
  induction x, y using Nat.gcd.induction with
  | H0 y => intro _ hy; rw [Nat.gcd_zero_left]; exact hy
  | H1 x y hx ih =>
    intro h1 h2
    rw [Nat.gcd_rec]
    refine ih ?_ h1
    have e : a ^ y = a ^ (x * (y / x)) * a ^ (y % x) := by rw [← Nat.pow_add, Nat.div_add_mod]
    rw [e, Nat.mul_mod, pow_mod_one h1, ← Nat.mul_mod, Nat.one_mul] at h2
    exact h2
set_option maxRecDepth 8000 in
/-- Each number from 2 on has a prime that divides it. -/
theorem has_prime : ∀ n : Nat, 2 ≤ n → ∃ r, Pr r ∧ r ∣ n := by
  intro n
  induction n using Nat.strongRecOn with
  | _ n ih =>
    intro h
    by_cases hp : Pr n
    · exact ⟨n, hp, Nat.dvd_refl n⟩
    · have : ∃ m, m ∣ n ∧ m ≠ 1 ∧ m ≠ n := Classical.byContradiction fun hn => hp ⟨h, fun m hm => by
        by_cases h1 : m = 1
        · exact .inl h1
        · by_cases h2 : m = n
          · exact .inr h2
          · exact absurd ⟨m, hm, h1, h2⟩ hn⟩
      obtain ⟨m, hm, h1, h2⟩ := this
      have hle := Nat.le_of_dvd (by omega) hm
      have hm0 : m ≠ 0 := fun e => by
        subst e
        have := Nat.eq_zero_of_zero_dvd hm
        omega
      obtain ⟨r, hr, hd⟩ := ih m (by omega) (by omega)
      exact ⟨r, hr, Nat.dvd_trans hd hm⟩
set_option maxRecDepth 8000 in
/-- A prime q of N - 1 divides r - 1, for each prime r of N, where a tells so. -/
theorem pock_dvd {N q a r : Nat} (hq : Pr q) (hN : 2 ≤ N) (hqN : q ∣ N - 1) (h1 : a ^ (N - 1) % N = 1) (h2 : Nat.gcd (a ^ ((N - 1) / q) % N + (N - 1)) N = 1) (hr : Pr r) (hd : r ∣ N) : q ∣ r - 1 := by
  apply Classical.byContradiction
  intro hn
  have hr2 := hr.two
  have m1 : a ^ (N - 1) % r = 1 % r := by
    rw [← Nat.mod_mod_of_dvd (a ^ (N - 1)) hd, h1]
  have ha : ¬ r ∣ a := fun h => by
    have : a ^ (N - 1) % r = 0 := by
      obtain ⟨k, hk⟩ := Nat.exists_eq_succ_of_ne_zero (show N - 1 ≠ 0 by omega)
      rw [hk, Nat.succ_eq_add_one, Nat.pow_succ]
      exact Nat.mod_eq_zero_of_dvd (Nat.dvd_mul_left_of_dvd h _)
    rw [this, Nat.mod_eq_of_lt (by omega)] at m1
    omega
  have m2 : a ^ (r - 1) % r = 1 % r := by
    rw [fermat hr ha, Nat.mod_eq_of_lt (by omega)]
  have mg := pow_gcd _ _ m2 m1
  have hcop : Nat.gcd (Nat.gcd (r - 1) (N - 1)) q = 1 := hq.coprime fun h => hn (Nat.dvd_trans h (Nat.gcd_dvd_left _ _))
  have hg : Nat.gcd (r - 1) (N - 1) ∣ (N - 1) / q := by
    have e : q * ((N - 1) / q) = N - 1 := Nat.mul_div_cancel' hqN
    refine Nat.Coprime.dvd_of_dvd_mul_left (k := Nat.gcd (r - 1) (N - 1)) (m := q) hcop ?_
    rw [e]
    exact Nat.gcd_dvd_right _ _
  obtain ⟨k, hk⟩ := hg
  have m3 : a ^ ((N - 1) / q) % r = 1 % r := by rw [hk]; exact pow_mod_one mg k
  have hdv : r ∣ a ^ ((N - 1) / q) % N + (N - 1) := by
    apply Nat.dvd_of_mod_eq_zero
    rw [Nat.add_mod, Nat.mod_mod_of_dvd _ hd, m3]
    have e : (N - 1) % r = r - 1 := by
      obtain ⟨c, hc⟩ := hd
      have hc0 : c ≠ 0 := fun e => by rw [e] at hc; omega
      obtain ⟨c', rfl⟩ := Nat.exists_eq_succ_of_ne_zero hc0
      have : N - 1 = r - 1 + r * c' := by rw [hc, Nat.mul_succ]; omega
      rw [this, Nat.add_mul_mod_self_left, Nat.mod_eq_of_lt (by omega)]
    rw [e, Nat.mod_eq_of_lt (show 1 < r by omega)]
    have : 1 + (r - 1) = r := by omega
    rw [this, Nat.mod_self]
  have := Nat.dvd_gcd hdv hd
  rw [h2] at this
  have := Nat.le_of_dvd (by decide) this
  omega
set_option maxRecDepth 8000 in
/-- A number all of whose primes are greater than its root is a prime. -/
theorem prime_of_big {N F : Nat} (hN : 2 ≤ N) (hF : N < (F + 1) * (F + 1)) (h : ∀ r, Pr r → r ∣ N → F ≤ r - 1) : Pr N := by
  refine ⟨hN, fun m hm => ?_⟩
  by_cases h1 : m = 1
  · exact .inl h1
  · obtain ⟨k, hk⟩ := hm
    have hm0 : m ≠ 0 := fun e => by rw [e] at hk; omega
    by_cases h2 : k = 1
    · exact .inr (by rw [hk, h2, Nat.mul_one])
    · have hk0 : k ≠ 0 := fun e => by rw [e] at hk; omega
      obtain ⟨r, hr, hd⟩ := has_prime m (by omega)
      obtain ⟨s, hs, hds⟩ := has_prime k (by omega)
      have a1 := h r hr (Nat.dvd_trans hd ⟨k, hk⟩)
      have a2 := h s hs (Nat.dvd_trans hds ⟨m, by rw [Nat.mul_comm]; exact hk⟩)
      have b1 := Nat.le_of_dvd (by omega) hd
      have b2 := Nat.le_of_dvd (by omega) hds
      have r2 := hr.two
      have s2 := hs.two
      have : (F + 1) * (F + 1) ≤ m * k := Nat.mul_le_mul (by omega) (by omega)
      omega
set_option maxRecDepth 8000 in
theorem pock1 {N q : Nat} (a : Nat) (hq : Pr q) (hN : 2 ≤ N) (hqN : q ∣ N - 1) (h1 : a ^ (N - 1) % N = 1) (h2 : Nat.gcd (a ^ ((N - 1) / q) % N + (N - 1)) N = 1) (hF : N < (q + 1) * (q + 1)) : Pr N :=
  prime_of_big hN hF fun r hr hd => by
    have := pock_dvd hq hN hqN h1 h2 hr hd
    have := hr.two
    exact Nat.le_of_dvd (by omega) (pock_dvd hq hN hqN h1 h2 hr hd)
set_option maxRecDepth 8000 in
theorem pock2 {N q s : Nat} (a b : Nat) (hq : Pr q) (hs : Pr s) (hne : Nat.gcd q s = 1) (hN : 2 ≤ N) (hqN : q ∣ N - 1) (hsN : s ∣ N - 1) (h1 : a ^ (N - 1) % N = 1) (h2 : Nat.gcd (a ^ ((N - 1) / q) % N + (N - 1)) N = 1)
    (h3 : b ^ (N - 1) % N = 1) (h4 : Nat.gcd (b ^ ((N - 1) / s) % N + (N - 1)) N = 1) (hF : N < (q * s + 1) * (q * s + 1)) : Pr N :=
  prime_of_big hN hF fun r hr hd => by
    have := hr.two
    exact Nat.le_of_dvd (by omega) (Nat.Coprime.mul_dvd_of_dvd_of_dvd hne (pock_dvd hq hN hqN h1 h2 hr hd) (pock_dvd hs hN hsN h3 h4 hr hd))

/-! ### Powers by squaring, for the kernel -/
def pm (n : Nat) : Nat → Nat → Nat → Nat
  | 0, _, _ => 1 % n
  | k + 1, a, e => if e = 0 then 1 % n else if e % 2 = 1 then a * pm n k (a * a % n) (e / 2) % n else pm n k (a * a % n) (e / 2)
set_option maxRecDepth 8000 in
theorem pm_eq (n : Nat) : ∀ (k a e : Nat), e < 2 ^ k → pm n k a e = a ^ e % n
  | 0, a, e, h => by
    have : e = 0 := by simpa using h
    rw [pm, this, Nat.pow_zero]
  | k + 1, a, e, h => by
    have hlt : e / 2 < 2 ^ k := by rw [Nat.pow_succ] at h; omega
    have ih := pm_eq n k (a * a % n) (e / 2) hlt
    have e2 : (a * a % n) ^ (e / 2) % n = a ^ (2 * (e / 2)) % n := by
      rw [← Nat.pow_mod, Nat.pow_mul]
      congr 2
      rw [Nat.pow_succ, Nat.pow_one]
    rw [pm]
    split
    · next h0 => rw [h0, Nat.pow_zero]
    · split
      · next h1 =>
        rw [ih, e2, Nat.mul_mod_mod]
        have : e = 2 * (e / 2) + 1 := by omega
        conv => rhs; rw [this, Nat.pow_succ, Nat.mul_comm]
      · next h1 =>
        rw [ih, e2]
        have : e = 2 * (e / 2) := by omega
        conv => rhs; rw [this]
/-- No divisor from d on, while fuel lasts. -/
def nodiv (n : Nat) : Nat → Nat → Bool
  | 0, _ => true
  | k + 1, d => n % d != 0 && nodiv n k (d + 1)
set_option maxRecDepth 8000 in
theorem nodiv_at (n : Nat) : ∀ (k d : Nat), nodiv n k d = true → ∀ i, d ≤ i → i < d + k → ¬ i ∣ n
  | 0, d, _, i, h1, h2 => by omega
  | k + 1, d, h, i, h1, h2 => by
    rw [nodiv, Bool.and_eq_true] at h
    by_cases e : i = d
    · subst e
      intro hd
      have := Nat.mod_eq_zero_of_dvd hd
      simp [this] at h
    · exact nodiv_at n k (d + 1) h.2 i (by omega) (by omega)
set_option maxRecDepth 8000 in
theorem small_prime (n F : Nat) (h2 : 2 ≤ n) (hF : n < (F + 2) * (F + 2)) (h : nodiv n F 2 = true) : Pr n :=
  prime_of_big (F := F + 1) h2 (by simpa using hF) fun r hr hd => by
    have hr2 := hr.two
    apply Classical.byContradiction
    intro hlt
    exact nodiv_at n F 2 h r hr2 (by omega) hd
end Go.Proofs.YtlnbjehimabaiaaGreatDoor.Fc.Nt
/-
 2^255 - 19 is a prime; so each number below it but 0 has an inverse, the power p - 2. No Go text in it; no statement of the seat is proved here.
-/
namespace Go.Proofs.YtlnbjehimabaiaaGreatDoor.Fc
open Nt
set_option maxRecDepth 8000

theorem pk1 {N q : Nat} (a : Nat) (hq : Pr q) (hN : 2 ≤ N) (hqN : (N - 1) % q = 0) (hb : N < 2 ^ 256) (h1 : pm N 256 a (N - 1) = 1) (h2 : Nat.gcd (pm N 256 a ((N - 1) / q) + (N - 1)) N = 1) (hF : N < (q + 1) * (q + 1)) : Pr N := by
 rw [pm_eq N 256 a _ (Nat.lt_of_le_of_lt (Nat.sub_le _ _) hb)] at h1
 rw [pm_eq N 256 a _ (Nat.lt_of_le_of_lt (Nat.div_le_self _ _) (Nat.lt_of_le_of_lt (Nat.sub_le _ _) hb))] at h2
 exact pock1 a hq hN (Nat.dvd_of_mod_eq_zero hqN) h1 h2 hF
theorem pk2 {N q s : Nat} (a b : Nat) (hq : Pr q) (hs : Pr s) (hne : Nat.gcd q s = 1) (hN : 2 ≤ N) (hqN : (N - 1) % q = 0) (hsN : (N - 1) % s = 0) (hb : N < 2 ^ 256) (h1 : pm N 256 a (N - 1) = 1) (h2 : Nat.gcd (pm N 256 a ((N - 1) / q) + (N - 1)) N = 1)
  (h3 : pm N 256 b (N - 1) = 1) (h4 : Nat.gcd (pm N 256 b ((N - 1) / s) + (N - 1)) N = 1) (hF : N < (q * s + 1) * (q * s + 1)) : Pr N := by
 rw [pm_eq N 256 a _ (Nat.lt_of_le_of_lt (Nat.sub_le _ _) hb)] at h1
 rw [pm_eq N 256 a _ (Nat.lt_of_le_of_lt (Nat.div_le_self _ _) (Nat.lt_of_le_of_lt (Nat.sub_le _ _) hb))] at h2
 rw [pm_eq N 256 b _ (Nat.lt_of_le_of_lt (Nat.sub_le _ _) hb)] at h3
 rw [pm_eq N 256 b _ (Nat.lt_of_le_of_lt (Nat.div_le_self _ _) (Nat.lt_of_le_of_lt (Nat.sub_le _ _) hb))] at h4
 exact pock2 a b hq hs hne hN (Nat.dvd_of_mod_eq_zero hqN) (Nat.dvd_of_mod_eq_zero hsN) h1 h2 h3 h4 hF
theorem inv_gen {p : Nat} (hp : Pr p) (e : Nat) (he : e + 1 = p - 1) (n : Nat) (h : ¬ p ∣ n) : (n : Int) * ((n : Int) ^ e % (p : Int)) % (p : Int) = 1 := by
 have hf := fermat hp h
 rw [← he] at hf
 rw [Int.mul_emod, Int.emod_emod, ← Int.mul_emod, Int.mul_comm, ← Int.pow_succ, ← Int.natCast_pow, ← Int.natCast_emod, hf]
 rfl

theorem pr_127 : Pr 127 := small_prime 127 12 (by decide) (by decide) (by decide +kernel)
theorem pr_8574133 : Pr 8574133 := small_prime 8574133 3000 (by decide) (by decide) (by decide +kernel)
theorem pr_75707 : Pr 75707 := small_prime 75707 300 (by decide) (by decide) (by decide +kernel)
theorem pr_132049 : Pr 132049 := small_prime 132049 400 (by decide) (by decide) (by decide +kernel)
theorem pr_1919519569386763 : Pr 1919519569386763 :=
 pk2 2 2 pr_8574133 pr_127 (by decide +kernel) (by decide +kernel) (by decide +kernel) (by decide +kernel) (by decide +kernel) (by decide +kernel) (by decide +kernel) (by decide +kernel) (by decide +kernel) (by decide +kernel)
theorem pr_75445702479781427272750846543864801 : Pr 75445702479781427272750846543864801 :=
 pk2 2 2 pr_1919519569386763 pr_75707 (by decide +kernel) (by decide +kernel) (by decide +kernel) (by decide +kernel) (by decide +kernel) (by decide +kernel) (by decide +kernel) (by decide +kernel) (by decide +kernel) (by decide +kernel)
theorem pr_74058212732561358302231226437062788676166966415465897661863160754340907 : Pr 74058212732561358302231226437062788676166966415465897661863160754340907 :=
 pk2 2 2 pr_75445702479781427272750846543864801 pr_132049 (by decide +kernel) (by decide +kernel) (by decide +kernel) (by decide +kernel) (by decide +kernel) (by decide +kernel) (by decide +kernel) (by decide +kernel) (by decide +kernel) (by decide +kernel)
theorem pr_57896044618658097711785492504343953926634992332820282019728792003956564819949 : Pr 57896044618658097711785492504343953926634992332820282019728792003956564819949 :=
 pk1 2 pr_74058212732561358302231226437062788676166966415465897661863160754340907 (by decide +kernel) (by decide +kernel) (by decide +kernel) (by decide +kernel) (by decide +kernel) (by decide +kernel)

/-- The power p - 2 of a number that is not 0 is its inverse. -/
theorem inv_mul (x : Int) (hx : El x) (h0 : x ≠ 0) : x * pw x 57896044618658097711785492504343953926634992332820282019728792003956564819947 % 57896044618658097711785492504343953926634992332820282019728792003956564819949 = 1 := by
 obtain ⟨a, b⟩ := hx
 obtain ⟨n, rfl⟩ := Int.eq_ofNat_of_zero_le a
 have hd : ¬ 57896044618658097711785492504343953926634992332820282019728792003956564819949 ∣ n := fun h => by
  have := Nat.le_of_dvd (by omega) h
  omega
 exact inv_gen pr_57896044618658097711785492504343953926634992332820282019728792003956564819949 57896044618658097711785492504343953926634992332820282019728792003956564819947 (by decide +kernel) n hd
end Go.Proofs.YtlnbjehimabaiaaGreatDoor.Fc
/-
 What the law's own helpers do: Pick, prime, edge; two arrays of bytes that are compared. No statement of the seat is proved here.
-/
namespace Go.Proofs.YtlnbjehimabaiaaGreatDoor.Fc
open Go.RowKit
set_option maxRecDepth 8000

set_option maxHeartbeats 1000000 in
theorem pick_any (n m : Int) (hn : -9223372036854775808 ≤ n ∧ n ≤ 9223372036854775807) (hm : 1 ≤ m ∧ m ≤ 1000) (w : World) :
  Calls Tryz.prog 17 #[.int .i64 n, .int .i64 m] w fun e w' => ∃ k, e = .returned (.int .i64 k) ∧ 0 ≤ k ∧ k < m ∧ w' = w := by
 obtain ⟨n0, n1⟩ := hn
 obtain ⟨m0, m1⟩ := hm
 have hl : n.tmod m < m := Int.tmod_lt_of_pos n (by omega)
 have hg : -m < n.tmod m := by
  have := Int.lt_tmod_of_pos n (show 0 < m by omega)
  omega
 by_cases h : 0 ≤ n.tmod m
 ·go_enter Tryz.func17, Tryz.ntmps17
  go_wp2
  go_ret
  exact ⟨_, rfl, h, hl, rfl⟩
 ·go_enter Tryz.func17, Tryz.ntmps17
  go_wp2
  go_ret
  exact ⟨_, rfl, by omega, by omega, rfl⟩

/-! ### Arrays of bytes that are compared -/
theorem bytes_of : ∀ (l : List Int), Byt l → ∃ xs : List UInt8, xs.length = l.length ∧ l.map (Value.int .u8) = xs.map Extern.Stop.cell ∧ l = xs.map (fun u => (u.toNat : Int))
 | [], _ => ⟨[], rfl, rfl, rfl⟩
 | x :: l, h => by
  obtain ⟨xs, h1, h2, h3⟩ := bytes_of l (fun y hy => h y (by simp [hy]))
  have hx := h x (by simp)
  have e : ((UInt8.ofNat x.toNat).toNat : Int) = x := by
   rw [UInt8.toNat_ofNat']
   omega
  refine ⟨UInt8.ofNat x.toNat :: xs, by simp [h1], ?_, ?_⟩
  ·rw [List.map_cons, List.map_cons, h2, Extern.Stop.cell]
   congr 2
   exact e.symm
  ·rw [List.map_cons, ← h3, e]
/-- Whether two lists of bytes are the same. -/
def alike (a b : List Int) : Bool := decide (a = b)
theorem eql_arr (a b : List Int) (ha : By a) (hb : By b) (w : World) : Sem.run Tryz.prog (binOp .eql 30 (.agg (List.map (Value.int .u8) a).toArray) (.agg (List.map (Value.int .u8) b).toArray)) w = .ok (.bool (alike a b)) w := by
 obtain ⟨xs, x1, x2, x3⟩ := bytes_of a ha.byt
 obtain ⟨ys, y1, y2, y3⟩ := bytes_of b hb.byt
 rw [x2, y2, run_eql_bytes (P := Tryz.prog) w 30 5 32 Tryz.underlying30 Tryz.underlying5 (fun _ => by kernel_rfl) xs ys (x1.trans ha.len) (y1.trans hb.len)]
 congr 2
 unfold alike
 rw [Bool.eq_iff_iff, beq_iff_eq, decide_eq_true_iff, x3, y3]
 constructor
 ·intro h
  rw [h]
 ·intro h
  have inj : Function.Injective (fun u : UInt8 => (u.toNat : Int)) := fun p q hpq => UInt8.toNat_inj.1 (Int.ofNat_inj.1 hpq)
  exact (List.map_inj_right (fun p q hpq => inj hpq)).1 h

/-! ### Ranges, cell by cell -/
theorem range_sub {w : World} {b o : Nat} {cs : List Value} (h : w.rangeAt b o cs) (i n : Nat) : w.rangeAt b (o + i) ((cs.drop i).take n) := fun j v hv => by
 have hj : j < n := by
  have := (List.getElem?_eq_some_iff.1 hv).1
  rw [List.length_take] at this
  omega
 rw [List.getElem?_take_of_lt hj, List.getElem?_drop] at hv
 have := h _ v hv
 rwa [show o + (i + j) = o + i + j by omega] at this
theorem range_snoc {w : World} {b k n : Nat} {cs : List Value} (h : w.rangeAt b 0 cs) (hk : cs.length = k) (ht : w.there b 0 n) (hn : k < n) (v : Value) : (w.setCell ⟨b, k, none⟩ v).rangeAt b 0 (cs ++ [v]) := by
 have e : w.setCell ⟨b, k, none⟩ v = w.setCells b k [v] := rfl
 rw [e]
 refine range_app (World.rangeAt_setCells_apart h _ _ _ (.inr (.inl (by omega)))) ?_
 rw [hk, Nat.zero_add]
 exact World.rangeAt_setCells_same _ _ _ _ (fun j hj => by
  have : j = 0 := by simpa using hj
  subst this
  have := ht k hn
  simpa using this)
theorem there_set {w : World} {b o n : Nat} (h : w.there b o n) (b' o' : Nat) (v : Value) : (w.setCell ⟨b', o', none⟩ v).there b o n := World.there_setCells h b' o' [v]
theorem there_cell {w : World} {b n : Nat} (h : w.there b 0 n) (k : Nat) (hk : k < n) : ∃ v, w.cell? ⟨b, k, none⟩ = some v ∧ w.frozen? ⟨b, k, none⟩ = false := by
 obtain ⟨h1, h2⟩ := h k hk
 rw [Nat.zero_add] at h1 h2
 obtain ⟨v, hv⟩ := Option.isSome_iff_exists.1 h1
 exact ⟨v, hv, h2⟩
theorem there_lt {w : World} {b n : Nat} (h : w.there b 0 n) (hn : 0 < n) : b < w.heap.size := by
 obtain ⟨v, hv, _⟩ := there_cell h 0 hn
 exact World.block_lt_of_cell? w _ hv
theorem range_one {w : World} {b k : Nat} {v u : Value} (h : w.cell? ⟨b, k, none⟩ = some u) : (w.setCell ⟨b, k, none⟩ v).rangeAt b k [v] := fun j x hx => by
 have hj : j = 0 := by
  have := (List.getElem?_eq_some_iff.1 hx).1
  simpa using this
 subst hj
 simp at hx
 rw [Nat.add_zero, World.cell?_setCell_same _ _ _ h, hx]
theorem range_far {w : World} {b o k : Nat} {cs : List Value} (h : w.rangeAt b o cs) (hk : k < o ∨ o + cs.length ≤ k) (v : Value) : (w.setCell ⟨b, k, none⟩ v).rangeAt b o cs := by
 have e : w.setCell ⟨b, k, none⟩ v = w.setCells b k [v] := rfl
 rw [e]
 exact World.rangeAt_setCells_apart h _ _ _ (.inr (by simp; omega))
theorem range_else {w : World} {b o b' k : Nat} {cs : List Value} (h : w.rangeAt b o cs) (hk : b ≠ b') (v : Value) : (w.setCell ⟨b', k, none⟩ v).rangeAt b o cs := by
 have e : w.setCell ⟨b', k, none⟩ v = w.setCells b' k [v] := rfl
 rw [e]
 exact World.rangeAt_setCells_apart h _ _ _ (.inl hk)
/-- So many bytes 255. -/
def ff (k : Nat) : List Int := List.replicate k 255
theorem ff_len (k : Nat) : (ff k).length = k := List.length_replicate
theorem ff_snoc (k : Nat) : (List.map (Value.int .u8) (ff k)) ++ [.int .u8 255] = (List.map (Value.int .u8) (ff (k + 1))) := by
 unfold ff
 rw [List.replicate_succ', List.map_append, List.map_cons, List.map_nil]
theorem ff_by (k : Nat) : Byt (ff k) := fun x hx => by
 rw [(List.mem_replicate.1 hx).2]
 decide
/-- The bytes of p and a bit more. -/
def pl (q : Int) : List Int := [q] ++ ff 30 ++ [127]
theorem pl_by (q : Int) (h0 : 0 ≤ q) (h1 : q ≤ 255) : By (pl q) := ⟨by simp [pl, ff_len], (Byt.app (Byt.cons h0 h1 Byt.nil) (ff_by 30)).app (Byt.cons (by decide) (by decide) Byt.nil)⟩
theorem leN_pl (q : Int) : leN (pl q) = q + 57896044618658097711785492504343953926634992332820282019728792003956564819712 := by
 unfold pl
 rw [List.append_assoc, List.singleton_append, leN]
 have : leN (ff 30 ++ [127]) = 226156424291633194186662080095093570025917938800079226639565593765455331327 := by decide
 rw [this]
 omega
/-- The cells of a list of thirty-two bytes: what a store of them wants. -/
theorem by_cells {l : List Int} (h : By l) : (List.map (Value.int .u8) l).length = 32 ∧ (∀ v ∈ (List.map (Value.int .u8) l), v.oneCell' = true) ∧ (Tryz.prog.info? 30).map (·.size) = some (List.map (Value.int .u8) l).length := by
 have e : (List.map (Value.int .u8) l).length = 32 := by rw [List.length_map, h.len]
 exact ⟨e, bytes_oneCell _, by rw [e]; kernel_rfl⟩


/-- A byte that comes of a number. -/
theorem by_one (q : Int) (h0 : 0 ≤ q) (h1 : q ≤ 255) : By (q :: List.replicate 31 0) := ⟨by simp, Byt.cons h0 h1 (fun x hx => by rw [(List.mem_replicate.1 hx).2]; decide)⟩
theorem ff_by32 : By (ff 32) := ⟨ff_len 32, ff_by 32⟩

theorem tdiv8 (n : Int) (hn : -9223372036854775808 ≤ n ∧ n ≤ 9223372036854775807) : -9223372036854775808 ≤ n.tdiv 8 ∧ n.tdiv 8 ≤ 9223372036854775807 := by
 by_cases h0 : 0 ≤ n
 ·rw [Int.tdiv_eq_ediv_of_nonneg h0]
  omega
 ·have e : n = -(-n) := by omega
  rw [e, Int.neg_tdiv, Int.tdiv_eq_ediv_of_nonneg (by omega)]
  omega

end Go.Proofs.YtlnbjehimabaiaaGreatDoor.Fc
/-
 What the law's own 'known' does: chapter 2's examples hold. No statement of the seat is proved here.
-/
namespace Go.Proofs.YtlnbjehimabaiaaGreatDoor.Fc
open Go.RowKit
set_option maxRecDepth 8000

/-- The load of a whole array where a guard says yes. -/
theorem wpList_load_want {P : Program} {ops : Array Oper} {rest : List Oper} {op : Oper} {a : Act} {w : World} {Q : Exit → Act → World → Prop} (hw : Region.wanted op (yielded ops a.tmps) = true) (ty : TypeId) (x : Operand) (ho : op.op = .load ty x)
  (b o : Nat) (hx : a.eval x = .pointer (some ⟨b, o, none⟩)) (cs : List Value) (d : TypeDesc) (hc : w.rangeAt b o cs)
  (hu : P.underlying ty = some d) (hd : d.isRow = true) (hi : (P.info? ty).map (·.size) = some cs.length)
  (h : wpList P ops Q rest (a.put op.dst (.agg cs.toArray)) w) : wpList P ops Q (op :: rest) a w :=
 Go.BigFrame.wpList_want hw fun _ hK => wp_load_mid ty x ho b o hx cs d hc hu hd hi (hK _ _ h)
/-- A variable that holds an array of bytes. -/
structure Arr (u : World) (b : Nat) (cs : List Value) : Prop where
 rng : u.rangeAt b 0 cs
 all : u.there b 0 32
theorem Arr.later {u u' : World} {b : Nat} {cs : List Value} (h : Arr u b cs) (hb : Below u.heap.size u u') : Arr u' b cs := ⟨range_later hb h.rng, there_later hb h.all⟩
theorem arr_new (u : World) (z : Array Value) (hz : z.size = 32) (cs : List Value) (hl : cs.length = 32) : Arr ((u.alloc (.cells z 30)).setCells u.heap.size 0 cs) u.heap.size cs :=
 ⟨World.rangeAt_setCells_same _ _ _ _ (by rw [hl]; exact there_new u 32 z hz _), World.there_setCells (there_new u 32 z hz _) _ _ _⟩
theorem bel_new (u : World) (z : Array Value) (cs : List Value) : Below u.heap.size u ((u.alloc (.cells z 30)).setCells u.heap.size 0 cs) := below_setCells _ (Nat.le_refl _) _ _ _ (bel1 _ _)
theorem Arr.lt {u : World} {b : Nat} {cs : List Value} (h : Arr u b cs) : b < u.heap.size := there_lt h.all (by decide)
theorem lay_by (x : Int) : By (lay 32 x) := ⟨lay_length 32 x, lay_byt 32 x⟩
theorem num_pl (q : Int) (h0 : 237 ≤ q) (h1 : q ≤ 255) : num (pl q) = q - 237 := by
 unfold num
 rw [leN_pl]
 omega
theorem zs_eq : (.agg zb32 : Value) = (.agg (List.map (Value.int .u8) (lay 32 0)).toArray) := by kernel_rfl
theorem z1_eq : (.agg #[.int .u8 1, .int .u8 0, .int .u8 0, .int .u8 0, .int .u8 0, .int .u8 0, .int .u8 0, .int .u8 0, .int .u8 0, .int .u8 0, .int .u8 0, .int .u8 0, .int .u8 0, .int .u8 0, .int .u8 0, .int .u8 0, .int .u8 0, .int .u8 0, .int .u8 0, .int .u8 0, .int .u8 0, .int .u8 0, .int .u8 0, .int .u8 0, .int .u8 0, .int .u8 0, .int .u8 0, .int .u8 0, .int .u8 0, .int .u8 0, .int .u8 0, .int .u8 0] : Value) = (.agg (List.map (Value.int .u8) (lay 32 1)).toArray) := by kernel_rfl
theorem eql_same (a b : List Int) (ha : By a) (hb : By b) (h : a = b) (w : World) : Sem.run Tryz.prog (binOp .eql 30 (.agg (List.map (Value.int .u8) a).toArray) (.agg (List.map (Value.int .u8) b).toArray)) w = .ok (.bool true) w := by
 rw [eql_arr a b ha hb]
 simp [alike, h]
/-- What a store of bytes wants. -/
theorem by_cells' {l : List Int} {cs : List Value} (h : By l) (hc : Hid ((List.map (Value.int .u8) l) = cs)) : cs.length = 32 ∧ (∀ v ∈ cs, v.oneCell' = true) ∧ (Tryz.prog.info? 30).map (·.size) = some cs.length := by
 rw [← hc.out]
 exact by_cells h

end Go.Proofs.YtlnbjehimabaiaaGreatDoor.Fc
