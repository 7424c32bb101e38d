/-
  2^255 - 19 is a prime; so each number below it but 0 has an inverse, the power p - 2. No Go text in it; no statement of the seat is proved here.
-/
import Derived.Test.YtggjifpcoidipaaDoorFNum
import Derived.Test.YtggjifpcoidipaaDoorFInv
namespace Go.Proofs.YtggjifpcoidipaaDoor
open Nt

theorem pk1 {N q : Nat} (a : Nat) (hq : Pr q) (hN : 2 ≤ N) (hqN : (N - 1) % q = 0) (hb : N < 2 ^ 256) (h1 : pm N 256 a (N - 1) = 1) (h2 : Nat.gcd (pm N 256 a ((N - 1) / q) + (N - 1)) N = 1) (hF : N < (q + 1) * (q + 1)) : Pr N := by
  rw [pm_eq N 256 a _ (Nat.lt_of_le_of_lt (Nat.sub_le _ _) hb)] at h1
  rw [pm_eq N 256 a _ (Nat.lt_of_le_of_lt (Nat.div_le_self _ _) (Nat.lt_of_le_of_lt (Nat.sub_le _ _) hb))] at h2
  exact pock1 a hq hN (Nat.dvd_of_mod_eq_zero hqN) h1 h2 hF
theorem pk2 {N q s : Nat} (a b : Nat) (hq : Pr q) (hs : Pr s) (hne : Nat.gcd q s = 1) (hN : 2 ≤ N) (hqN : (N - 1) % q = 0) (hsN : (N - 1) % s = 0) (hb : N < 2 ^ 256) (h1 : pm N 256 a (N - 1) = 1) (h2 : Nat.gcd (pm N 256 a ((N - 1) / q) + (N - 1)) N = 1)
    (h3 : pm N 256 b (N - 1) = 1) (h4 : Nat.gcd (pm N 256 b ((N - 1) / s) + (N - 1)) N = 1) (hF : N < (q * s + 1) * (q * s + 1)) : Pr N := by
  rw [pm_eq N 256 a _ (Nat.lt_of_le_of_lt (Nat.sub_le _ _) hb)] at h1
  rw [pm_eq N 256 a _ (Nat.lt_of_le_of_lt (Nat.div_le_self _ _) (Nat.lt_of_le_of_lt (Nat.sub_le _ _) hb))] at h2
  rw [pm_eq N 256 b _ (Nat.lt_of_le_of_lt (Nat.sub_le _ _) hb)] at h3
  rw [pm_eq N 256 b _ (Nat.lt_of_le_of_lt (Nat.div_le_self _ _) (Nat.lt_of_le_of_lt (Nat.sub_le _ _) hb))] at h4
  exact pock2 a b hq hs hne hN (Nat.dvd_of_mod_eq_zero hqN) (Nat.dvd_of_mod_eq_zero hsN) h1 h2 h3 h4 hF
theorem inv_gen {p : Nat} (hp : Pr p) (e : Nat) (he : e + 1 = p - 1) (n : Nat) (h : ¬ p ∣ n) : (n : Int) * ((n : Int) ^ e % (p : Int)) % (p : Int) = 1 := by
  have hf := fermat hp h
  rw [← he] at hf
  rw [Int.mul_emod, Int.emod_emod, ← Int.mul_emod, Int.mul_comm, ← Int.pow_succ, ← Int.natCast_pow, ← Int.natCast_emod, hf]
  rfl

theorem pr_127 : Pr 127 := small_prime 127 12 (by decide) (by decide) (by decide +kernel)
theorem pr_8574133 : Pr 8574133 := small_prime 8574133 3000 (by decide) (by decide) (by decide +kernel)
theorem pr_75707 : Pr 75707 := small_prime 75707 300 (by decide) (by decide) (by decide +kernel)
theorem pr_132049 : Pr 132049 := small_prime 132049 400 (by decide) (by decide) (by decide +kernel)
theorem pr_1919519569386763 : Pr 1919519569386763 :=
  pk2 2 2 pr_8574133 pr_127 (by decide +kernel) (by decide +kernel) (by decide +kernel) (by decide +kernel) (by decide +kernel) (by decide +kernel) (by decide +kernel) (by decide +kernel) (by decide +kernel) (by decide +kernel)
theorem pr_75445702479781427272750846543864801 : Pr 75445702479781427272750846543864801 :=
  pk2 2 2 pr_1919519569386763 pr_75707 (by decide +kernel) (by decide +kernel) (by decide +kernel) (by decide +kernel) (by decide +kernel) (by decide +kernel) (by decide +kernel) (by decide +kernel) (by decide +kernel) (by decide +kernel)
theorem pr_74058212732561358302231226437062788676166966415465897661863160754340907 : Pr 74058212732561358302231226437062788676166966415465897661863160754340907 :=
  pk2 2 2 pr_75445702479781427272750846543864801 pr_132049 (by decide +kernel) (by decide +kernel) (by decide +kernel) (by decide +kernel) (by decide +kernel) (by decide +kernel) (by decide +kernel) (by decide +kernel) (by decide +kernel) (by decide +kernel)
theorem pr_57896044618658097711785492504343953926634992332820282019728792003956564819949 : Pr 57896044618658097711785492504343953926634992332820282019728792003956564819949 :=
  pk1 2 pr_74058212732561358302231226437062788676166966415465897661863160754340907 (by decide +kernel) (by decide +kernel) (by decide +kernel) (by decide +kernel) (by decide +kernel) (by decide +kernel)

/-- The power p - 2 of a number that is not 0 is its inverse. -/
theorem inv_mul (x : Int) (hx : El x) (h0 : x ≠ 0) : x * pw x 57896044618658097711785492504343953926634992332820282019728792003956564819947 % 57896044618658097711785492504343953926634992332820282019728792003956564819949 = 1 := by
  obtain ⟨a, b⟩ := hx
  obtain ⟨n, rfl⟩ := Int.eq_ofNat_of_zero_le a
  have hd : ¬ 57896044618658097711785492504343953926634992332820282019728792003956564819949 ∣ n := fun h => by
    have := Nat.le_of_dvd (by omega) h
    omega
  exact inv_gen pr_57896044618658097711785492504343953926634992332820282019728792003956564819949 57896044618658097711785492504343953926634992332820282019728792003956564819947 (by decide +kernel) n hd
end Go.Proofs.YtggjifpcoidipaaDoor
