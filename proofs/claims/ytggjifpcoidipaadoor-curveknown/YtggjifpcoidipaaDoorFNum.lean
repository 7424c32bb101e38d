/-
  Plain number theory: 2^255 - 19 is a prime (by Pocklington's criterion, over a chain of primes), and what Fermat says of it. No Go text in it; no statement of the seat is proved here.
-/
namespace Go.Proofs.YtggjifpcoidipaaDoor.Nt

/-- A prime. -/
structure Pr (p : Nat) : Prop where
  two : 2 ≤ p
  only : ∀ m, m ∣ p → m = 1 ∨ m = p

theorem Pr.coprime {p a : Nat} (hp : Pr p) (h : ¬ p ∣ a) : Nat.gcd a p = 1 := by
  rcases hp.only _ (Nat.gcd_dvd_right a p) with h1 | h1
  · exact h1
  · exact absurd (h1 ▸ Nat.gcd_dvd_left a p) h
theorem Pr.dvd_mul {p a b : Nat} (hp : Pr p) (h : p ∣ a * b) : p ∣ a ∨ p ∣ b := by
  by_cases ha : p ∣ a
  · exact .inl ha
  · refine .inr (Nat.Coprime.dvd_of_dvd_mul_left (k := p) (m := a) ?_ h)
    rw [Nat.Coprime, Nat.gcd_comm]
    exact hp.coprime ha

/-! ### Products of lists -/
def prod : List Nat → Nat
  | [] => 1
  | x :: l => x * prod l
theorem prod_perm {l l' : List Nat} (h : l.Perm l') : prod l = prod l' := by
  induction h with
  | nil => rfl
  | cons x _ ih => simp [prod, ih]
  | swap x y l => simp [prod, Nat.mul_left_comm]
  | trans _ _ a b => exact a.trans b
theorem prod_mod (p a : Nat) : ∀ l : List Nat, prod (l.map fun i => a * i % p) % p = a ^ l.length * prod l % p
  | [] => by simp [prod]
  | x :: l => by
    have ih := prod_mod p a l
    simp only [List.map_cons, prod, List.length_cons]
    rw [Nat.mul_mod, ih, Nat.mod_mod, ← Nat.mul_mod, Nat.pow_succ]
    congr 1
    rw [Nat.mul_mul_mul_comm, Nat.mul_comm (a ^ l.length) a, Nat.mul_assoc]
theorem prod_cop {p : Nat} (hp : Pr p) : ∀ l : List Nat, (∀ x ∈ l, ¬ p ∣ x) → ¬ p ∣ prod l
  | [], _ => fun h => by
    have := Nat.le_of_dvd (by decide) h
    have := hp.two
    simp [prod] at *
    omega
  | x :: l, h => fun hd => by
    rcases hp.dvd_mul (show p ∣ x * prod l from hd) with h1 | h1
    · exact h x (by simp) h1
    · exact prod_cop hp l (fun y hy => h y (by simp [hy])) h1
/-- A list without repeats, all of it in another one that is no longer, is that list in another order. -/
theorem perm_of {l l' : List Nat} (hn : l.Nodup) (hs : ∀ x ∈ l, x ∈ l') (hl : l'.length ≤ l.length) : l.Perm l' := by
  induction l generalizing l' with
  | nil =>
    have : l' = [] := List.eq_nil_of_length_eq_zero (by simpa using hl)
    rw [this]
  | cons x l ih =>
    have hx : x ∈ l' := hs x (by simp)
    have hp := List.perm_cons_erase hx
    refine (List.Perm.cons x (ih (l' := l'.erase x) (List.nodup_cons.1 hn).2 ?_ ?_)).trans hp.symm
    · intro y hy
      have hne : y ≠ x := fun e => (List.nodup_cons.1 hn).1 (e ▸ hy)
      exact (List.mem_erase_of_ne hne).2 (hs y (by simp [hy]))
    · rw [List.length_erase_of_mem hx]
      simp at hl
      omega

theorem mod_sub {a b n : Nat} (h : a ≤ b) (e : a % n = b % n) : n ∣ b - a := by
  have h1 := Nat.div_add_mod a n
  have h2 := Nat.div_add_mod b n
  refine ⟨b / n - a / n, ?_⟩
  have hq : a / n ≤ b / n := Nat.div_le_div_right h
  rw [Nat.mul_sub]
  omega
theorem inj_mod {p a i j : Nat} (hp : Pr p) (ha : ¬ p ∣ a) (hij : i ≤ j) (hj : j < p) (e : a * i % p = a * j % p) : i = j := by
  have h := mod_sub (Nat.mul_le_mul_left a hij) e
  rw [← Nat.mul_sub] at h
  rcases hp.dvd_mul h with h1 | h1
  · exact absurd h1 ha
  · by_cases hz : j - i = 0
    · omega
    · have := Nat.le_of_dvd (by omega) h1
      omega

/-- Fermat's little theorem. -/
theorem fermat {p a : Nat} (hp : Pr p) (ha : ¬ p ∣ a) : a ^ (p - 1) % p = 1 := by
  have h2 := hp.two
  let l := List.range' 1 (p - 1)
  have hm : ∀ x ∈ l, 1 ≤ x ∧ x < p := fun x hx => by
    have := List.mem_range'_1.1 hx
    omega
  have hnd : (l.map fun i => a * i % p).Nodup := by
    rw [List.nodup_iff_pairwise_ne, List.pairwise_map]
    refine List.Pairwise.imp_of_mem ?_ (List.pairwise_lt_range' (s := 1) (n := p - 1))
    intro i j hi hj hlt e
    have := inj_mod hp ha (Nat.le_of_lt hlt) (hm j hj).2 e
    omega
  have hsub : ∀ x ∈ l.map fun i => a * i % p, x ∈ l := by
    intro x hx
    obtain ⟨i, hi, rfl⟩ := List.mem_map.1 hx
    have hb := hm i hi
    have hlt : a * i % p < p := Nat.mod_lt _ (by omega)
    have hne : a * i % p ≠ 0 := fun e => by
      rcases hp.dvd_mul (Nat.dvd_of_mod_eq_zero e) with h | h
      · exact ha h
      · have := Nat.le_of_dvd (by omega) h
        omega
    refine List.mem_range'_1.2 ⟨by omega, by omega⟩
  have hperm := perm_of hnd hsub (by simp)
  have e1 := prod_mod p a l
  rw [prod_perm hperm] at e1
  have hlen : l.length = p - 1 := by simp [l]
  rw [hlen] at e1
  have hc : ¬ p ∣ prod l := prod_cop hp l (fun x hx h => by
    have := hm x hx
    have := Nat.le_of_dvd (by omega) h
    omega)
  have hpos : 1 ≤ a ^ (p - 1) := Nat.pos_of_ne_zero (fun e => ha (by
    have : a = 0 := by
      rcases Nat.eq_zero_or_pos a with h | h
      · exact h
      · exact absurd e (Nat.ne_of_gt (Nat.pow_pos h))
    rw [this]; exact Nat.dvd_zero p))
  have hd := mod_sub (show prod l ≤ a ^ (p - 1) * prod l from Nat.le_mul_of_pos_left _ hpos) e1
  have e2 : a ^ (p - 1) * prod l - prod l = (a ^ (p - 1) - 1) * prod l := by rw [Nat.sub_mul, Nat.one_mul]
  rw [e2] at hd
  rcases hp.dvd_mul hd with h | h
  · obtain ⟨k, hk⟩ := h
    have : a ^ (p - 1) = 1 + p * k := by omega
    rw [this, Nat.add_mul_mod_self_left, Nat.mod_eq_of_lt (by omega)]
  · exact absurd h hc

/-! ### Pocklington -/
theorem pow_mod_one {a n m : Nat} (h : a ^ m % n = 1 % n) (k : Nat) : a ^ (m * k) % n = 1 % n := by
  rw [Nat.pow_mul, Nat.pow_mod, h, ← Nat.pow_mod, Nat.one_pow]
theorem pow_gcd {a n : Nat} : ∀ (x y : Nat), a ^ x % n = 1 % n → a ^ y % n = 1 % n → a ^ (Nat.gcd x y) % n = 1 % n := by
  intro x y
  induction x, y using Nat.gcd.induction with
  | H0 y => intro _ hy; rw [Nat.gcd_zero_left]; exact hy
  | H1 x y hx ih =>
    intro h1 h2
    rw [Nat.gcd_rec]
    refine ih ?_ h1
    have e : a ^ y = a ^ (x * (y / x)) * a ^ (y % x) := by rw [← Nat.pow_add, Nat.div_add_mod]
    rw [e, Nat.mul_mod, pow_mod_one h1, ← Nat.mul_mod, Nat.one_mul] at h2
    exact h2
/-- Each number from 2 on has a prime that divides it. -/
theorem has_prime : ∀ n : Nat, 2 ≤ n → ∃ r, Pr r ∧ r ∣ n := by
  intro n
  induction n using Nat.strongRecOn with
  | _ n ih =>
    intro h
    by_cases hp : Pr n
    · exact ⟨n, hp, Nat.dvd_refl n⟩
    · have : ∃ m, m ∣ n ∧ m ≠ 1 ∧ m ≠ n := Classical.byContradiction fun hn => hp ⟨h, fun m hm => by
        by_cases h1 : m = 1
        · exact .inl h1
        · by_cases h2 : m = n
          · exact .inr h2
          · exact absurd ⟨m, hm, h1, h2⟩ hn⟩
      obtain ⟨m, hm, h1, h2⟩ := this
      have hle := Nat.le_of_dvd (by omega) hm
      have hm0 : m ≠ 0 := fun e => by
        subst e
        have := Nat.eq_zero_of_zero_dvd hm
        omega
      obtain ⟨r, hr, hd⟩ := ih m (by omega) (by omega)
      exact ⟨r, hr, Nat.dvd_trans hd hm⟩
/-- A prime q of N - 1 divides r - 1, for each prime r of N, where a tells so. -/
theorem pock_dvd {N q a r : Nat} (hq : Pr q) (hN : 2 ≤ N) (hqN : q ∣ N - 1) (h1 : a ^ (N - 1) % N = 1) (h2 : Nat.gcd (a ^ ((N - 1) / q) % N + (N - 1)) N = 1) (hr : Pr r) (hd : r ∣ N) : q ∣ r - 1 := by
  apply Classical.byContradiction
  intro hn
  have hr2 := hr.two
  have m1 : a ^ (N - 1) % r = 1 % r := by
    rw [← Nat.mod_mod_of_dvd (a ^ (N - 1)) hd, h1]
  have ha : ¬ r ∣ a := fun h => by
    have : a ^ (N - 1) % r = 0 := by
      obtain ⟨k, hk⟩ := Nat.exists_eq_succ_of_ne_zero (show N - 1 ≠ 0 by omega)
      rw [hk, Nat.succ_eq_add_one, Nat.pow_succ]
      exact Nat.mod_eq_zero_of_dvd (Nat.dvd_mul_left_of_dvd h _)
    rw [this, Nat.mod_eq_of_lt (by omega)] at m1
    omega
  have m2 : a ^ (r - 1) % r = 1 % r := by
    rw [fermat hr ha, Nat.mod_eq_of_lt (by omega)]
  have mg := pow_gcd _ _ m2 m1
  have hcop : Nat.gcd (Nat.gcd (r - 1) (N - 1)) q = 1 := hq.coprime fun h => hn (Nat.dvd_trans h (Nat.gcd_dvd_left _ _))
  have hg : Nat.gcd (r - 1) (N - 1) ∣ (N - 1) / q := by
    have e : q * ((N - 1) / q) = N - 1 := Nat.mul_div_cancel' hqN
    refine Nat.Coprime.dvd_of_dvd_mul_left (k := Nat.gcd (r - 1) (N - 1)) (m := q) hcop ?_
    rw [e]
    exact Nat.gcd_dvd_right _ _
  obtain ⟨k, hk⟩ := hg
  have m3 : a ^ ((N - 1) / q) % r = 1 % r := by rw [hk]; exact pow_mod_one mg k
  have hdv : r ∣ a ^ ((N - 1) / q) % N + (N - 1) := by
    apply Nat.dvd_of_mod_eq_zero
    rw [Nat.add_mod, Nat.mod_mod_of_dvd _ hd, m3]
    have e : (N - 1) % r = r - 1 := by
      obtain ⟨c, hc⟩ := hd
      have hc0 : c ≠ 0 := fun e => by rw [e] at hc; omega
      obtain ⟨c', rfl⟩ := Nat.exists_eq_succ_of_ne_zero hc0
      have : N - 1 = r - 1 + r * c' := by rw [hc, Nat.mul_succ]; omega
      rw [this, Nat.add_mul_mod_self_left, Nat.mod_eq_of_lt (by omega)]
    rw [e, Nat.mod_eq_of_lt (show 1 < r by omega)]
    have : 1 + (r - 1) = r := by omega
    rw [this, Nat.mod_self]
  have := Nat.dvd_gcd hdv hd
  rw [h2] at this
  have := Nat.le_of_dvd (by decide) this
  omega
/-- A number all of whose primes are greater than its root is a prime. -/
theorem prime_of_big {N F : Nat} (hN : 2 ≤ N) (hF : N < (F + 1) * (F + 1)) (h : ∀ r, Pr r → r ∣ N → F ≤ r - 1) : Pr N := by
  refine ⟨hN, fun m hm => ?_⟩
  by_cases h1 : m = 1
  · exact .inl h1
  · obtain ⟨k, hk⟩ := hm
    have hm0 : m ≠ 0 := fun e => by rw [e] at hk; omega
    by_cases h2 : k = 1
    · exact .inr (by rw [hk, h2, Nat.mul_one])
    · have hk0 : k ≠ 0 := fun e => by rw [e] at hk; omega
      obtain ⟨r, hr, hd⟩ := has_prime m (by omega)
      obtain ⟨s, hs, hds⟩ := has_prime k (by omega)
      have a1 := h r hr (Nat.dvd_trans hd ⟨k, hk⟩)
      have a2 := h s hs (Nat.dvd_trans hds ⟨m, by rw [Nat.mul_comm]; exact hk⟩)
      have b1 := Nat.le_of_dvd (by omega) hd
      have b2 := Nat.le_of_dvd (by omega) hds
      have r2 := hr.two
      have s2 := hs.two
      have : (F + 1) * (F + 1) ≤ m * k := Nat.mul_le_mul (by omega) (by omega)
      omega
theorem pock1 {N q : Nat} (a : Nat) (hq : Pr q) (hN : 2 ≤ N) (hqN : q ∣ N - 1) (h1 : a ^ (N - 1) % N = 1) (h2 : Nat.gcd (a ^ ((N - 1) / q) % N + (N - 1)) N = 1) (hF : N < (q + 1) * (q + 1)) : Pr N :=
  prime_of_big hN hF fun r hr hd => by
    have := pock_dvd hq hN hqN h1 h2 hr hd
    have := hr.two
    exact Nat.le_of_dvd (by omega) (pock_dvd hq hN hqN h1 h2 hr hd)
theorem pock2 {N q s : Nat} (a b : Nat) (hq : Pr q) (hs : Pr s) (hne : Nat.gcd q s = 1) (hN : 2 ≤ N) (hqN : q ∣ N - 1) (hsN : s ∣ N - 1) (h1 : a ^ (N - 1) % N = 1) (h2 : Nat.gcd (a ^ ((N - 1) / q) % N + (N - 1)) N = 1)
    (h3 : b ^ (N - 1) % N = 1) (h4 : Nat.gcd (b ^ ((N - 1) / s) % N + (N - 1)) N = 1) (hF : N < (q * s + 1) * (q * s + 1)) : Pr N :=
  prime_of_big hN hF fun r hr hd => by
    have := hr.two
    exact Nat.le_of_dvd (by omega) (Nat.Coprime.mul_dvd_of_dvd_of_dvd hne (pock_dvd hq hN hqN h1 h2 hr hd) (pock_dvd hs hN hsN h3 h4 hr hd))

/-! ### Powers by squaring, for the kernel -/
def pm (n : Nat) : Nat → Nat → Nat → Nat
  | 0, _, _ => 1 % n
  | k + 1, a, e => if e = 0 then 1 % n else if e % 2 = 1 then a * pm n k (a * a % n) (e / 2) % n else pm n k (a * a % n) (e / 2)
theorem pm_eq (n : Nat) : ∀ (k a e : Nat), e < 2 ^ k → pm n k a e = a ^ e % n
  | 0, a, e, h => by
    have : e = 0 := by simpa using h
    rw [pm, this, Nat.pow_zero]
  | k + 1, a, e, h => by
    have hlt : e / 2 < 2 ^ k := by rw [Nat.pow_succ] at h; omega
    have ih := pm_eq n k (a * a % n) (e / 2) hlt
    have e2 : (a * a % n) ^ (e / 2) % n = a ^ (2 * (e / 2)) % n := by
      rw [← Nat.pow_mod, Nat.pow_mul]
      congr 2
      rw [Nat.pow_succ, Nat.pow_one]
    rw [pm]
    split
    · next h0 => rw [h0, Nat.pow_zero]
    · split
      · next h1 =>
        rw [ih, e2, Nat.mul_mod_mod]
        have : e = 2 * (e / 2) + 1 := by omega
        conv => rhs; rw [this, Nat.pow_succ, Nat.mul_comm]
      · next h1 =>
        rw [ih, e2]
        have : e = 2 * (e / 2) := by omega
        conv => rhs; rw [this]
/-- No divisor from d on, while fuel lasts. -/
def nodiv (n : Nat) : Nat → Nat → Bool
  | 0, _ => true
  | k + 1, d => n % d != 0 && nodiv n k (d + 1)
theorem nodiv_at (n : Nat) : ∀ (k d : Nat), nodiv n k d = true → ∀ i, d ≤ i → i < d + k → ¬ i ∣ n
  | 0, d, _, i, h1, h2 => by omega
  | k + 1, d, h, i, h1, h2 => by
    rw [nodiv, Bool.and_eq_true] at h
    by_cases e : i = d
    · subst e
      intro hd
      have := Nat.mod_eq_zero_of_dvd hd
      simp [this] at h
    · exact nodiv_at n k (d + 1) h.2 i (by omega) (by omega)
theorem small_prime (n F : Nat) (h2 : 2 ≤ n) (hF : n < (F + 2) * (F + 2)) (h : nodiv n F 2 = true) : Pr n :=
  prime_of_big (F := F + 1) h2 (by simpa using hF) fun r hr hd => by
    have hr2 := hr.two
    apply Classical.byContradiction
    intro hlt
    exact nodiv_at n F 2 h r hr2 (by omega) hd
end Go.Proofs.YtggjifpcoidipaaDoor.Nt
