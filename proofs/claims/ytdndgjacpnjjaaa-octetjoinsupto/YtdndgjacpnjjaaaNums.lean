/-
  What octet.Put32, Put64, Get32, Get64 and the plain ones of the reference do, each by its walk: for whatever number and whatever bytes. No statement of the seat is proved here.
-/
import Derived.Test.YtdndgjacpnjjaaaBase
namespace Go.Proofs.Ytdndgjacpnjjaaa
open Go.RowKit

theorem lay4_eq (n : Int) (h0 : 0 ≤ n) (h1 : n < 4294967296) : lay 4 n = [n % 256, n / 256 % 256, n / 65536 % 256, n / 16777216] := by
  simp only [lay, List.cons.injEq, and_true]
  refine ⟨trivial, trivial, ?_, ?_⟩ <;> omega
theorem lay8_eq (n : Int) (h0 : 0 ≤ n) (h1 : n < 18446744073709551616) : lay 8 n = [n % 256, n / 256 % 256, n / 65536 % 256, n / 16777216 % 256, n / 4294967296 % 256, n / 1099511627776 % 256, n / 281474976710656 % 256, n / 72057594037927936] := by
  simp only [lay, List.cons.injEq, and_true]
  refine ⟨trivial, trivial, ?_, ?_, ?_, ?_, ?_, ?_⟩ <;> omega

set_option maxHeartbeats 400000 in
theorem put32_any (n : Int) (w : World) (h0 : 0 ≤ n) (h1 : n < 4294967296) :
    Calls Try.prog 12 #[.int .u32 n] w fun e w' => e = .returned (.slice (some ⟨w.heap.size, 0, none⟩) 4 4) ∧ Rd w' (some ⟨w.heap.size, 0, none⟩) 4 4 (lay 4 n) ∧ Below w.heap.size w w' := by
  have hrd := Rd.laid w (lay 4 n) (lay_byt 4 n) 42 4 (by rw [lay_length]; omega) #[.int .u8 (n % 256), .int .u8 (n / 256 % 256), .int .u8 (n / 65536 % 256), .int .u8 (n / 16777216)]
    (by rw [lay_length, lay4_eq n h0 h1]; intro i hi; match i, hi with | 0, _ => rfl | 1, _ => rfl | 2, _ => rfl | 3, _ => rfl)
  rw [lay_length] at hrd
  have H : Hid _ := hrd
  clear hrd
  go_enter Try.func12, Try.ntmps12
  go_wp2
  refine wp_loop_rounds 5 ?_
  rw [rounds_succ]; go_wp2
  rw [rounds_succ]; go_wp2
  rw [rounds_succ]; go_wp2
  rw [rounds_succ]; go_wp2
  rw [rounds_succ]; go_wp2
  go_ret
  exact ⟨rfl, H.out, (Below.refl _ _).alloc (Nat.le_refl _) _⟩

set_option maxHeartbeats 800000 in
theorem put64_any (n : Int) (w : World) (h0 : 0 ≤ n) (h1 : n < 18446744073709551616) :
    Calls Try.prog 13 #[.int .u64 n] w fun e w' => e = .returned (.slice (some ⟨w.heap.size, 0, none⟩) 8 8) ∧ Rd w' (some ⟨w.heap.size, 0, none⟩) 8 8 (lay 8 n) ∧ Below w.heap.size w w' := by
  have hrd := Rd.laid w (lay 8 n) (lay_byt 8 n) 43 8 (by rw [lay_length]; omega) #[.int .u8 (n % 256), .int .u8 (n / 256 % 256), .int .u8 (n / 65536 % 256), .int .u8 (n / 16777216 % 256), .int .u8 (n / 4294967296 % 256), .int .u8 (n / 1099511627776 % 256), .int .u8 (n / 281474976710656 % 256), .int .u8 (n / 72057594037927936)]
    (by rw [lay_length, lay8_eq n h0 h1]; intro i hi; match i, hi with | 0, _ => rfl | 1, _ => rfl | 2, _ => rfl | 3, _ => rfl | 4, _ => rfl | 5, _ => rfl | 6, _ => rfl | 7, _ => rfl)
  rw [lay_length] at hrd
  have H : Hid _ := hrd
  clear hrd
  go_enter Try.func13, Try.ntmps13
  go_wp2
  refine wp_loop_rounds 9 ?_
  rw [rounds_succ]; go_wp2
  rw [rounds_succ]; go_wp2
  rw [rounds_succ]; go_wp2
  rw [rounds_succ]; go_wp2
  rw [rounds_succ]; go_wp2
  rw [rounds_succ]; go_wp2
  rw [rounds_succ]; go_wp2
  rw [rounds_succ]; go_wp2
  rw [rounds_succ]; go_wp2
  go_ret
  exact ⟨rfl, H.out, (Below.refl _ _).alloc (Nat.le_refl _) _⟩

theorem leN_take4 (l : List Int) (h : 4 ≤ l.length) : leN (l.take 4) = l[0]?.getD 0 + l[1]?.getD 0 * 256 + l[2]?.getD 0 * 65536 + l[3]?.getD 0 * 16777216 := by
  match l, h with
  | x0 :: x1 :: x2 :: x3 :: r, _ => simp [leN]; omega
theorem leN_take8 (l : List Int) (h : 8 ≤ l.length) : leN (l.take 8) = l[0]?.getD 0 + l[1]?.getD 0 * 256 + l[2]?.getD 0 * 65536 + l[3]?.getD 0 * 16777216 + l[4]?.getD 0 * 4294967296 + l[5]?.getD 0 * 1099511627776 + l[6]?.getD 0 * 281474976710656 + l[7]?.getD 0 * 72057594037927936 := by
  match l, h with
  | x0 :: x1 :: x2 :: x3 :: x4 :: x5 :: x6 :: x7 :: r, _ => simp [leN]; omega
theorem ors4 (x0 x1 x2 x3 : Int) (b0 : 0 ≤ x0 ∧ x0 ≤ 255) (b1 : 0 ≤ x1 ∧ x1 ≤ 255) (b2 : 0 ≤ x2 ∧ x2 ≤ 255) (b3 : 0 ≤ x3 ∧ x3 ≤ 255) :
    bits .or .u32 (bits .or .u32 (bits .or .u32 (bits .or .u32 0 x0) (x1 * 256)) (x2 * 65536)) (x3 * 16777216) = x0 + x1 * 256 + x2 * 65536 + x3 * 16777216 := by
  have e0 : bits .or .u32 0 x0 = x0 := by have := or32 0 x0 0 1 (by decide) (by omega) (by omega) (by omega) (by omega); simpa using this
  rw [e0, or32 x0 x1 8 256 (by decide) (by omega) (by omega) (by omega) (by omega), or32 _ x2 16 65536 (by decide) (by omega) (by omega) (by omega) (by omega), or32 _ x3 24 16777216 (by decide) (by omega) (by omega) (by omega) (by omega)]
theorem ors8 (x0 x1 x2 x3 x4 x5 x6 x7 : Int) (b0 : 0 ≤ x0 ∧ x0 ≤ 255) (b1 : 0 ≤ x1 ∧ x1 ≤ 255) (b2 : 0 ≤ x2 ∧ x2 ≤ 255) (b3 : 0 ≤ x3 ∧ x3 ≤ 255) (b4 : 0 ≤ x4 ∧ x4 ≤ 255) (b5 : 0 ≤ x5 ∧ x5 ≤ 255) (b6 : 0 ≤ x6 ∧ x6 ≤ 255) (b7 : 0 ≤ x7 ∧ x7 ≤ 255) :
    bits .or .u64 (bits .or .u64 (bits .or .u64 (bits .or .u64 (bits .or .u64 (bits .or .u64 (bits .or .u64 (bits .or .u64 0 x0) (x1 * 256)) (x2 * 65536)) (x3 * 16777216)) (x4 * 4294967296)) (x5 * 1099511627776)) (x6 * 281474976710656)) (x7 * 72057594037927936) = x0 + x1 * 256 + x2 * 65536 + x3 * 16777216 + x4 * 4294967296 + x5 * 1099511627776 + x6 * 281474976710656 + x7 * 72057594037927936 := by
  have e0 : bits .or .u64 0 x0 = x0 := by have := or64 0 x0 0 1 (by decide) (by omega) (by omega) (by omega) (by omega); simpa using this
  rw [e0, or64 x0 x1 8 256 (by decide) (by omega) (by omega) (by omega) (by omega), or64 _ x2 16 65536 (by decide) (by omega) (by omega) (by omega) (by omega), or64 _ x3 24 16777216 (by decide) (by omega) (by omega) (by omega) (by omega),
    or64 _ x4 32 4294967296 (by decide) (by omega) (by omega) (by omega) (by omega), or64 _ x5 40 1099511627776 (by decide) (by omega) (by omega) (by omega) (by omega), or64 _ x6 48 281474976710656 (by decide) (by omega) (by omega) (by omega) (by omega), or64 _ x7 56 72057594037927936 (by decide) (by omega) (by omega) (by omega) (by omega)]

theorem ret_two {k : IntKind} {a b : Int} {x y : Bool} (h : a = b) (h' : x = y) : Ending.returned (.tuple #[.int k a, .bool x]) = .returned (.tuple #[.int k b, .bool y]) := by rw [h, h']
theorem ret_num {k : IntKind} {a b : Int} (h : a = b) : Ending.returned (.int k a) = .returned (.int k b) := by rw [h]

set_option maxHeartbeats 400000 in
theorem get32_any (a : Option Addr) (len cap : Nat) (l : List Int) (w : World) (hr : Rd w a len cap l) (hm : len ≤ 281474976710656) :
    Calls Try.prog 11 #[.slice a len cap] w fun e w' => e = .returned (.tuple #[.int .u32 (got 4 l), .bool (decide (4 ≤ len))]) ∧ w' = w := by
  obtain ⟨hl, hle, _, hb, hcell⟩ := hr
  by_cases h4 : 4 ≤ len
  · obtain ⟨b, off, rfl, hc⟩ := hcell (by omega)
    have c0 := hc 0 (by omega)
    rw [Nat.add_zero] at c0
    have c1 := hc 1 (by omega)
    have c2 := hc 2 (by omega)
    have c3 := hc 3 (by omega)
    have b0 := hb.at 0
    have b1 := hb.at 1
    have b2 := hb.at 2
    have b3 := hb.at 3
    have H : Hid (got 4 l = l[0]?.getD 0 + l[1]?.getD 0 * 256 + l[2]?.getD 0 * 65536 + l[3]?.getD 0 * 16777216) := by
      unfold Hid got
      rw [if_pos (by omega), leN_take4 l (by omega)]
    clear hc hb hcell hl hle
    generalize l[0]?.getD 0 = x0 at *
    generalize l[1]?.getD 0 = x1 at *
    generalize l[2]?.getD 0 = x2 at *
    generalize l[3]?.getD 0 = x3 at *
    go_enter Try.func11, Try.ntmps11
    go_wp2
    refine wp_loop_rounds 5 ?_
    rw [rounds_succ]; go_wp2
    rw [rounds_succ]; go_wp2
    rw [rounds_succ]; go_wp2
    rw [rounds_succ]; go_wp2
    rw [rounds_succ]; go_wp2
    go_ret2
    refine ⟨ret_two ?_ ?_, rfl⟩
    · rw [H.out, ors4 x0 x1 x2 x3 b0 b1 b2 b3]
    · simp [h4]
  · have H : Hid (got 4 l = 0) := by
      unfold Hid got
      rw [if_neg (by omega)]
    clear hb hcell hl
    go_enter Try.func11, Try.ntmps11
    go_wp2
    go_ret2
    refine ⟨ret_two ?_ ?_, rfl⟩
    · rw [H.out]
    · simp; omega

set_option maxHeartbeats 800000 in
theorem get64_any (a : Option Addr) (len cap : Nat) (l : List Int) (w : World) (hr : Rd w a len cap l) (hm : len ≤ 281474976710656) :
    Calls Try.prog 7 #[.slice a len cap] w fun e w' => e = .returned (.tuple #[.int .u64 (got 8 l), .bool (decide (8 ≤ len))]) ∧ w' = w := by
  obtain ⟨hl, hle, _, hb, hcell⟩ := hr
  by_cases h4 : 8 ≤ len
  · obtain ⟨b, off, rfl, hc⟩ := hcell (by omega)
    have c0 := hc 0 (by omega)
    rw [Nat.add_zero] at c0
    have c1 := hc 1 (by omega)
    have c2 := hc 2 (by omega)
    have c3 := hc 3 (by omega)
    have c4 := hc 4 (by omega)
    have c5 := hc 5 (by omega)
    have c6 := hc 6 (by omega)
    have c7 := hc 7 (by omega)
    have b0 := hb.at 0
    have b1 := hb.at 1
    have b2 := hb.at 2
    have b3 := hb.at 3
    have b4 := hb.at 4
    have b5 := hb.at 5
    have b6 := hb.at 6
    have b7 := hb.at 7
    have H : Hid (got 8 l = l[0]?.getD 0 + l[1]?.getD 0 * 256 + l[2]?.getD 0 * 65536 + l[3]?.getD 0 * 16777216 + l[4]?.getD 0 * 4294967296 + l[5]?.getD 0 * 1099511627776 + l[6]?.getD 0 * 281474976710656 + l[7]?.getD 0 * 72057594037927936) := by
      unfold Hid got
      rw [if_pos (by omega), leN_take8 l (by omega)]
    clear hc hb hcell hl hle
    generalize l[0]?.getD 0 = x0 at *
    generalize l[1]?.getD 0 = x1 at *
    generalize l[2]?.getD 0 = x2 at *
    generalize l[3]?.getD 0 = x3 at *
    generalize l[4]?.getD 0 = x4 at *
    generalize l[5]?.getD 0 = x5 at *
    generalize l[6]?.getD 0 = x6 at *
    generalize l[7]?.getD 0 = x7 at *
    go_enter Try.func7, Try.ntmps7
    go_wp2
    refine wp_loop_rounds 9 ?_
    rw [rounds_succ]; go_wp2
    rw [rounds_succ]; go_wp2
    rw [rounds_succ]; go_wp2
    rw [rounds_succ]; go_wp2
    rw [rounds_succ]; go_wp2
    rw [rounds_succ]; go_wp2
    rw [rounds_succ]; go_wp2
    rw [rounds_succ]; go_wp2
    rw [rounds_succ]; go_wp2
    go_ret2
    refine ⟨ret_two ?_ ?_, rfl⟩
    · rw [H.out, ors8 x0 x1 x2 x3 x4 x5 x6 x7 b0 b1 b2 b3 b4 b5 b6 b7]
    · simp [h4]
  · have H : Hid (got 8 l = 0) := by
      unfold Hid got
      rw [if_neg (by omega)]
    clear hb hcell hl
    go_enter Try.func7, Try.ntmps7
    go_wp2
    go_ret2
    refine ⟨ret_two ?_ ?_, rfl⟩
    · rw [H.out]
    · simp; omega
end Go.Proofs.Ytdndgjacpnjjaaa
