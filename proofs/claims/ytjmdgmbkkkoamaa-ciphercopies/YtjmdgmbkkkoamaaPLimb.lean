/-
  What poly's word, parted and sum do, for whatever words; numbers in limbs of 26 bits. No statement of the seat is proved here.
-/
import Derived.Test.YtjmdgmbkkkoamaaKTake
import Derived.Shelf.Spec.BitsCarry
import Derived.Laws.Bits64b
namespace Go.Proofs.Ytjmdgmbkkkoamaa
open Go.RowKit

/-- A word of 64 bits. -/
def Wq (x : Int) : Prop := 0 ≤ x ∧ x < 18446744073709551616
/-- The number of five limbs of 26 bits. -/
def lv (a b c d e : Int) : Int := a + b * 67108864 + c * 4503599627370496 + d * 302231454903657293676544 + e * 20282409603651670423947251286016
theorem padd64 (x y c : Int) (hx : 0 ≤ x) (hy : 0 ≤ y) (hc0 : 0 ≤ c) (hc : c ≤ 1) (w : World) : (callFunc 46 #[.int .u64 x, .int .u64 y, .int .u64 c]).run Try.prog w =
    .ok (.value (.tuple #[.int .u64 ((x + y + c) % 18446744073709551616), .int .u64 ((x + y + c) / 18446744073709551616)])) w := by
  rw [run_callFunc_extern Try.func46 (by kernel_rfl) (by kernel_rfl) (by kernel_rfl) (e := add64Entry) (by kernel_rfl), run_add64 x y c hx hy hc0 hc]
  rfl
theorem mask26 (a : Int) (h : Wq a) : bits .and .u64 a 67108863 = a % 67108864 := by
  obtain ⟨n, rfl⟩ := Int.eq_ofNat_of_zero_le h.1
  have h1 : n < 18446744073709551616 := by have := h.2; omega
  have := bits_and_u64_nat n 67108863 h1 (by decide)
  rw [show ((67108863 : Nat) : Int) = 67108863 from rfl] at this
  rw [this, show (67108863 : Nat) = 2 ^ 26 - 1 from rfl, Nat.and_two_pow_sub_one_eq_mod]
  omega
theorem or12 (a b : Int) (ha : 0 ≤ a) (ha' : a < 4096) (hb : Wq b) : bits .or .u64 a (b * 4096 % 18446744073709551616) = a + b * 4096 % 18446744073709551616 := by
  obtain ⟨b0, b1⟩ := hb
  have e : b * 4096 % 18446744073709551616 = b % 4503599627370496 * 4096 := by omega
  rw [e, or64 a (b % 4503599627370496) 12 4096 (by decide) ha ha' (by omega) (by omega)]

set_option maxHeartbeats 400000 in
theorem word_c (a : Option Addr) (len cap : Nat) (l : List Int) (w : World) (hr : Rd w a len cap l) (h8 : 8 ≤ len) (hm : len ≤ 1000) :
    Calls Try.prog 40 #[.slice a len cap] w fun e w' => ∃ x, e = .returned (.int .u64 x) ∧ Hid (x = leN (l.take 8)) ∧ Wq x ∧ w' = w := by
  have hx : Wq (leN (l.take 8)) := by
    obtain ⟨h0, h1⟩ := leN_w (l.take 8) (hr.byt.take 8)
    have hl : (l.take 8).length = 8 := by rw [List.length_take, hr.hlen]; omega
    rw [hl] at h1
    exact ⟨h0, h1⟩
  have HG : Hid (got 8 l = leN (l.take 8)) := by unfold Hid got; rw [if_pos (by rw [hr.hlen]; exact h8)]
  have HX : Hid (Wq (leN (l.take 8))) := hx
  have HR : Hid (Rd w a len cap l) := hr
  clear hx hr
  go_enter Try.func40, Try.ntmps40
  go_wp2_with fail
  refine (get64_any a len cap l _ HR.out (by omega)).mono ?_
  rintro e w' ⟨rfl, hw⟩
  rw [hw]
  clear hw w'
  go_wp2
  go_ret
  exact ⟨_, rfl, HG.out, by rw [HG.out]; exact HX.out, rfl⟩

set_option maxHeartbeats 400000 in
theorem parted_c (lo hi t : Int) (hl : Wq lo) (hh : Wq hi) (ht : 0 ≤ t ∧ t ≤ 3) (w : World) :
    Calls Try.prog 39 #[.int .u64 lo, .int .u64 hi, .int .u64 t] w fun e w' => ∃ a b c d f, e = .returned (.agg #[.int .u64 a, .int .u64 b, .int .u64 c, .int .u64 d, .int .u64 f]) ∧ (0 ≤ a ∧ a < 67108864) ∧ (0 ≤ b ∧ b < 67108864) ∧ (0 ≤ c ∧ c < 67108864) ∧ (0 ≤ d ∧ d < 67108864) ∧ (0 ≤ f ∧ f < 67108864) ∧
      Hid (lv a b c d f = lo + hi * 18446744073709551616 + t * 340282366920938463463374607431768211456) ∧ Below w.heap.size w w' := by
  have HL : Hid (Wq lo) := hl
  have HH : Hid (Wq hi) := hh
  obtain ⟨l0, l1⟩ := hl
  obtain ⟨h0, h1⟩ := hh
  obtain ⟨t0, t1⟩ := ht
  go_enter Try.func39, Try.ntmps39
  have e1 := mask26 lo HL.out
  have e2 := mask26 (lo / 67108864) ⟨by omega, by omega⟩
  have e3 : bits .and .u64 (bits .or .u64 (lo / 4503599627370496) (IntKind.u64.wrap (hi * 4096))) 67108863 = (lo / 4503599627370496 + hi * 4096 % 18446744073709551616) % 67108864 := by
    rw [IntKind.wrap_u64, or12 _ _ (by omega) (by omega) HH.out, mask26 _ ⟨by omega, by omega⟩]
  have e4 := mask26 (hi / 16384) ⟨by omega, by omega⟩
  have e5 := or64 (hi / 1099511627776) t 24 16777216 (by decide) (by omega) (by omega) (by omega) (by omega)
  have HE : Hid (bits .and .u64 lo 67108863 = lo % 67108864 ∧ bits .and .u64 (lo / 67108864) 67108863 = lo / 67108864 % 67108864 ∧ bits .and .u64 (bits .or .u64 (lo / 4503599627370496) (IntKind.u64.wrap (hi * 4096))) 67108863 = (lo / 4503599627370496 + hi * 4096 % 18446744073709551616) % 67108864 ∧ bits .and .u64 (hi / 16384) 67108863 = hi / 16384 % 67108864 ∧ bits .or .u64 (hi / 1099511627776) (t * 16777216) = hi / 1099511627776 + t * 16777216) := ⟨e1, e2, e3, e4, e5⟩
  clear e1 e2 e3 e4 e5
  go_wp2
  obtain ⟨e1, e2, e3, e4, e5⟩ := HE.out
  rw [e1, e2, e3, e4, e5]
  refine bodyPost_ret (v := (.agg #[.int .u64 (lo % 67108864), .int .u64 (lo / 67108864 % 67108864), .int .u64 ((lo / 4503599627370496 + hi * 4096 % 18446744073709551616) % 67108864), .int .u64 (hi / 16384 % 67108864), .int .u64 (hi / 1099511627776 + t * 16777216)])) (by simp [results, Try.results39, go_sem]) rfl ?_
  exact ⟨_, _, _, _, _, rfl, ⟨by omega, by omega⟩, ⟨by omega, by omega⟩, ⟨by omega, by omega⟩, ⟨by omega, by omega⟩, ⟨by omega, by omega⟩, by unfold Hid lv; omega, bel1 _ _⟩

set_option maxHeartbeats 1000000 in
theorem psum_c (a0 a1 a2 a3 a4 r0 r1 r2 r3 r4 : Int) (ha0 : 0 ≤ a0 ∧ a0 < 134217728) (ha1 : 0 ≤ a1 ∧ a1 < 134217728) (ha2 : 0 ≤ a2 ∧ a2 < 134217728) (ha3 : 0 ≤ a3 ∧ a3 < 134217728) (ha4 : 0 ≤ a4 ∧ a4 < 134217728)
    (hr0 : 0 ≤ r0 ∧ r0 < 134217728) (hr1 : 0 ≤ r1 ∧ r1 < 134217728) (hr2 : 0 ≤ r2 ∧ r2 < 134217728) (hr3 : 0 ≤ r3 ∧ r3 < 134217728) (hr4 : 0 ≤ r4 ∧ r4 < 134217728) (w : World) :
    Calls Try.prog 43 #[(.agg #[.int .u64 a0, .int .u64 a1, .int .u64 a2, .int .u64 a3, .int .u64 a4]), (.agg #[.int .u64 r0, .int .u64 r1, .int .u64 r2, .int .u64 r3, .int .u64 r4])] w fun e w' => e = .returned (.agg #[.int .u64 (a0 + r0), .int .u64 (a1 + r1), .int .u64 (a2 + r2), .int .u64 (a3 + r3), .int .u64 (a4 + r4)]) ∧ Below w.heap.size w w' := by
  obtain ⟨_, _⟩ := ha0
  obtain ⟨_, _⟩ := ha1
  obtain ⟨_, _⟩ := ha2
  obtain ⟨_, _⟩ := ha3
  obtain ⟨_, _⟩ := ha4
  obtain ⟨_, _⟩ := hr0
  obtain ⟨_, _⟩ := hr1
  obtain ⟨_, _⟩ := hr2
  obtain ⟨_, _⟩ := hr3
  obtain ⟨_, _⟩ := hr4
  go_enter Try.func43, Try.ntmps43
  go_wp2
  refine wp_loop_rounds 6 ?_
  rw [rounds_succ]; go_wp2
  go_region
  go_wp2
  rw [rounds_succ]; go_wp2
  go_region
  go_wp2
  rw [rounds_succ]; go_wp2
  go_region
  go_wp2
  rw [rounds_succ]; go_wp2
  go_region
  go_wp2
  rw [rounds_succ]; go_wp2
  go_region
  go_wp2
  rw [rounds_succ]; go_wp2
  refine bodyPost_ret (v := (.agg #[.int .u64 (a0 + r0), .int .u64 (a1 + r1), .int .u64 (a2 + r2), .int .u64 (a3 + r3), .int .u64 (a4 + r4)])) (by simp [results, Try.results43, go_sem]) rfl ⟨rfl, ?_⟩
  exact (bel3 _ _ _ _).drew.drew.drew.drew.drew
end Go.Proofs.Ytjmdgmbkkkoamaa
