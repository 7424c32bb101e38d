/-
  A text with the stream, in parts. No statement of the seat is proved here.
-/
import Derived.Test.YtjmdgmbkkkoamaaQOwn
namespace Go.Proofs.Ytjmdgmbkkkoamaa
open Go.RowKit

theorem ad_ad (c : Int) (a b : Nat) : ad (ad c a) b = ad c ((a + b : Nat) : Int) := by unfold ad; omega
theorem sk_app (key nonce : List Int) (c : Int) (a : Nat) : ∀ b, sk key nonce c (a + b) = sk key nonce c a ++ sk key nonce (ad c a) b
  | 0 => by rw [Nat.add_zero, sk, List.append_nil]
  | b + 1 => by rw [← Nat.add_assoc, sk, sk_app key nonce c a b, sk, List.append_assoc, ad_ad]
theorem xorL_head (t z : List Int) : xorL t z = xorL t (z.take t.length) := by
  have h : (xorL t z).take t.length = xorL (t.take t.length) (z.take t.length) := by unfold xorL; rw [List.take_zipWith]
  rw [List.take_length, List.take_of_length_le (by rw [xorL_length]; omega)] at h
  exact h
/-- As many blocks as are enough. -/
theorem ap_enough (key : List Int) (c : Int) (nonce t : List Int) (N : Nat) (h : t.length ≤ 64 * N) : xorL t (sk key nonce c N) = ap key c nonce t := by
  unfold ap
  rcases Nat.le_total t.length N with hle | hle
  · obtain ⟨b, hb⟩ := Nat.exists_eq_add_of_le hle
    rw [hb, sk_app, xorL_head t (_ ++ _), List.take_append_of_le_length (by rw [sk_len]; omega), ← xorL_head]
  · obtain ⟨b, hb⟩ := Nat.exists_eq_add_of_le hle
    have e : sk key nonce c t.length = sk key nonce c N ++ sk key nonce (ad c N) b := by rw [hb, sk_app]
    rw [e, xorL_head t (_ ++ _), List.take_append_of_le_length (by rw [sk_len]; omega), ← xorL_head]
/-- A text in two parts at a block's end. -/
theorem ap_parts (key : List Int) (c : Int) (nonce t : List Int) (k : Nat) (h : 64 * k ≤ t.length) : ap key c nonce (t.take (64 * k)) ++ ap key (ad c k) nonce (t.drop (64 * k)) = ap key c nonce t := by
  rw [← ap_enough key c nonce (t.take (64 * k)) k (by rw [List.length_take]; omega), ← ap_enough key (ad c k) nonce (t.drop (64 * k)) t.length (by rw [List.length_drop]; omega), ← ap_enough key c nonce t (k + t.length) (by omega), sk_app]
  unfold xorL
  have e : (t.take (64 * k)).length = (sk key nonce c k).length := by rw [List.length_take, sk_len]; omega
  rw [← List.zipWith_append e, List.take_append_drop]
end Go.Proofs.Ytjmdgmbkkkoamaa
