/-
  Slices of bytes of one's own, for the laws on Apply. No statement of the seat is proved here.
-/
import Derived.Test.YtjmdgmbkkkoamaaKOwn
import Derived.Test.YtjmdgmbkkkoamaaQApp
import Derived.Test.YtjmdgmbkkkoamaaQKn
namespace Go.Proofs.Ytjmdgmbkkkoamaa
open Go.RowKit

theorem apply_o (key : List Int) (count : Int) (nonce : List Int) (a : Option Addr) (len cap : Nat) (text : List Int) (hk : Bn 32 key) (hc : W32 count) (hn : Bn 12 nonce) (w : World) (hr : Rd w a len cap text) (hm : len ≤ 140737488351232) :
    Calls Try.prog 25 #[(.agg (List.map (Value.int .u8) key).toArray), .int .u32 count, (.agg (List.map (Value.int .u8) nonce).toArray), .slice a len cap] w fun e w' => ∃ g X, e = .returned (.slice (some ⟨g, 0, none⟩) len len) ∧ Hid (X = ap key count nonce text) ∧ Hid (Ow w' g len X) ∧ w.heap.size ≤ g ∧ Below w.heap.size w w' := by
  refine (apply_any key count nonce a len cap text hk hc hn w hr hm).mono ?_
  rintro e w' ⟨g, X, rfl, HX, ho, hb⟩
  exact ⟨g, X, rfl, HX, ⟨⟨_, ho⟩, by rw [HX.out]; exact ap_byt _ _ _ hr.byt⟩, (ho.lt g (by simp [Value.ownBlock])).1, hb⟩
/-! ### One byte turned -/
theorem xor8_swap (a b s : Int) (ha : 0 ≤ a ∧ a ≤ 255) (hb : 0 ≤ b ∧ b ≤ 255) (hs : 0 ≤ s ∧ s ≤ 255) : bits .xor .u8 (bits .xor .u8 a b) s = bits .xor .u8 (bits .xor .u8 a s) b := by
  have h1 := xor8 a b ha hb
  have h2 := xor8 a s ha hs
  rw [u8_xor (bits .xor .u8 a b) s (by omega) (by omega) (by omega) (by omega), u8_xor (bits .xor .u8 a s) b (by omega) (by omega) (by omega) (by omega), u8_xor a b (by omega) (by omega) (by omega) (by omega), u8_xor a s (by omega) (by omega) (by omega) (by omega), Int.toNat_natCast, Int.toNat_natCast, Nat.xor_assoc, Nat.xor_assoc, Nat.xor_comm b.toNat]
theorem ap_turn (key : List Int) (c : Int) (nonce : List Int) {t : List Int} (ht : Byt t) (k : Nat) {x y s : Int} (hx : t[k]? = some x) (hs : 0 ≤ s ∧ s ≤ 255) (hy : (ap key c nonce t)[k]? = some y) : ap key c nonce (t.set k (bits .xor .u8 x s)) = (ap key c nonce t).set k (bits .xor .u8 y s) := by
  have hk : k < t.length := (List.getElem?_eq_some_iff.1 hx).1
  have hb := sk_byt key nonce c t.length
  have hsl := sk_len key nonce c t.length
  unfold ap at hy ⊢
  rw [List.length_set]
  generalize sk key nonce c t.length = z at *
  have hkz : k < z.length := by omega
  rw [xorL_at hk hkz] at hy
  apply List.ext_getElem?
  intro i
  by_cases hi : i = k
  · subst hi
    have hx' := ht x (List.mem_of_getElem? hx)
    rw [List.getElem?_set_self (by rw [xorL_length]; omega), xorL_at (by rw [List.length_set]; exact hk) hkz, List.getElem?_set_self hk, Option.getD_some, ← Option.some.inj hy, hx, Option.getD_some]
    rw [xor8_swap x s _ hx' hs (hb.at _)]
  · rw [List.getElem?_set_ne (fun e => hi e.symm)]
    unfold xorL
    rw [List.getElem?_zipWith, List.getElem?_zipWith, List.getElem?_set_ne (fun e => hi e.symm)]
theorem ap_back (key : List Int) (c : Int) (nonce : List Int) {t : List Int} (ht : Byt t) : ap key c nonce (ap key c nonce t) = t := by
  have e : ap key c nonce (ap key c nonce t) = xorL (ap key c nonce t) (sk key nonce c t.length) := by
    show xorL (ap key c nonce t) (sk key nonce c (ap key c nonce t).length) = _
    rw [ap_len]
  rw [e]
  show xorL (xorL t (sk key nonce c t.length)) (sk key nonce c t.length) = t
  rw [xorL_back ht (sk_byt _ _ _ _), sk_len, List.take_of_length_le]
  omega
theorem str_size (l : List Int) : (strOfNums l).size = l.length := by
  show (strOfNums l).data.size = _
  rw [← Array.length_toList, strOfNums_data, List.length_map]
end Go.Proofs.Ytjmdgmbkkkoamaa
