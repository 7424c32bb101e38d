/-
  Several texts of one's own, laid together. No statement of the seat is proved here.
-/
import Derived.Test.YtmibjgkakolhiaaGreatDoorQDown
import Derived.Test.YtmibjgkakolhiaaGreatDoorPk10
import Derived.Test.YtmibjgkakolhiaaGreatDoorQApp
import Derived.Test.YtmibjgkakolhiaaGreatDoorPk3
import Derived.Shelf.Spec.BitsCarry
import Derived.Laws.Bits64b
/-
 What the law's own 'known' does: chapter 4's example holds. No statement of the seat is proved here.
-/
namespace Go.Proofs.YtmibjgkakolhiaaGreatDoor
open Go.RowKit

set_option maxRecDepth 8000 in
theorem q4_known : q4 286331153 16909060 2609737539 19088743 = (3928658676, 3407673550, 1166100270, 1484899515) := by decide +kernel
end Go.Proofs.YtmibjgkakolhiaaGreatDoor
/-
 Slices of bytes of one's own, for the laws on Apply. No statement of the seat is proved here.
-/
namespace Go.Proofs.YtmibjgkakolhiaaGreatDoor
open Go.RowKit

set_option maxRecDepth 8000 in
theorem apply_o (key : List Int) (count : Int) (nonce : List Int) (a : Option Addr) (len cap : Nat) (text : List Int) (hk : Bn 32 key) (hc : W32 count) (hn : Bn 12 nonce) (w : World) (hr : Rd w a len cap text) (hm : len ≤ 140737488351232) :
  Calls Tryz.prog 64 #[(.agg (List.map (Value.int .u8) key).toArray), .int .u32 count, (.agg (List.map (Value.int .u8) nonce).toArray), .slice a len cap] w fun e w' => ∃ g X, e = .returned (.slice (some ⟨g, 0, none⟩) len len) ∧ Hid (X = ap key count nonce text) ∧ Hid (Ow w' g len X) ∧ w.heap.size ≤ g ∧ Below w.heap.size w w' := by
 refine (apply_any key count nonce a len cap text hk hc hn w hr hm).mono ?_
 rintro e w' ⟨g, X, rfl, HX, ho, hb⟩
 exact ⟨g, X, rfl, HX, ⟨⟨_, ho⟩, by rw [HX.out]; exact ap_byt _ _ _ hr.byt⟩, (ho.lt g (by simp [Value.ownBlock])).1, hb⟩
set_option maxRecDepth 8000 in
theorem refxor_g (a : Option Addr) (la ca : Nat) (x : List Int) (b : Option Addr) (lb cb : Nat) (y : List Int) (w : World) (ha : Rd w a la ca x) (hb : Rd w b lb cb y) (ma : la ≤ 140737488351232) (mb : lb ≤ 140737488351232) :
  Calls Tryz.prog 70 #[.slice a la ca, .slice b lb cb] w fun e w' => ∃ a' m c', e = .returned (.slice a' m c') ∧ Rd w' a' m c' (xorL x y) ∧ Below w.heap.size w w' :=
 (refxor_any a la ca x b lb cb y w ha hb ma mb).mono fun _ _ ⟨a', c', h⟩ => ⟨a', _, c', h⟩
/-! ### One byte turned -/
set_option maxRecDepth 8000 in
theorem xor8_swap (a b s : Int) (ha : 0 ≤ a ∧ a ≤ 255) (hb : 0 ≤ b ∧ b ≤ 255) (hs : 0 ≤ s ∧ s ≤ 255) : bits .xor .u8 (bits .xor .u8 a b) s = bits .xor .u8 (bits .xor .u8 a s) b := by
 have h1 := xor8 a b ha hb
 have h2 := xor8 a s ha hs
 rw [u8_xor (bits .xor .u8 a b) s (by omega) (by omega) (by omega) (by omega), u8_xor (bits .xor .u8 a s) b (by omega) (by omega) (by omega) (by omega), u8_xor a b (by omega) (by omega) (by omega) (by omega), u8_xor a s (by omega) (by omega) (by omega) (by omega), Int.toNat_natCast, Int.toNat_natCast, Nat.xor_assoc, Nat.xor_assoc, Nat.xor_comm b.toNat]
set_option maxRecDepth 8000 in
theorem ap_turn (key : List Int) (c : Int) (nonce : List Int) {t : List Int} (ht : Byt t) (k : Nat) {x y s : Int} (hx : t[k]? = some x) (hs : 0 ≤ s ∧ s ≤ 255) (hy : (ap key c nonce t)[k]? = some y) : ap key c nonce (t.set k (bits .xor .u8 x s)) = (ap key c nonce t).set k (bits .xor .u8 y s) := by
 have hk : k < t.length := (List.getElem?_eq_some_iff.1 hx).1
 have hb := sk_byt key nonce c t.length
 have hsl := sk_len key nonce c t.length
 unfold ap at hy ⊢
 rw [List.length_set]
 generalize sk key nonce c t.length = z at *
 have hkz : k < z.length := by omega
 rw [xorL_at hk hkz] at hy
 apply List.ext_getElem?
 intro i
 by_cases hi : i = k
 ·subst hi
  have hx' := ht x (List.mem_of_getElem? hx)
  rw [List.getElem?_set_self (by rw [xorL_length]; omega), xorL_at (by rw [List.length_set]; exact hk) hkz, List.getElem?_set_self hk, Option.getD_some, ← Option.some.inj hy, hx, Option.getD_some]
  rw [xor8_swap x s _ hx' hs (hb.at _)]
 ·rw [List.getElem?_set_ne (fun e => hi e.symm)]
  unfold xorL
  rw [List.getElem?_zipWith, List.getElem?_zipWith, List.getElem?_set_ne (fun e => hi e.symm)]
set_option maxRecDepth 8000 in
theorem ap_back (key : List Int) (c : Int) (nonce : List Int) {t : List Int} (ht : Byt t) : ap key c nonce (ap key c nonce t) = t := by
 have e : ap key c nonce (ap key c nonce t) = xorL (ap key c nonce t) (sk key nonce c t.length) := by
  show xorL (ap key c nonce t) (sk key nonce c (ap key c nonce t).length) = _
  rw [ap_len]
 rw [e]
 show xorL (xorL t (sk key nonce c t.length)) (sk key nonce c t.length) = t
 rw [xorL_back ht (sk_byt _ _ _ _), sk_len, List.take_of_length_le]
 omega
set_option maxRecDepth 8000 in
theorem str_size (l : List Int) : (strOfNums l).size = l.length := by
 show (strOfNums l).data.size = _
 rw [← Array.length_toList, strOfNums_data, List.length_map]
end Go.Proofs.YtmibjgkakolhiaaGreatDoor
/-
 A stretch of operations of a region that draws its order, taken one behind the other in their text's order: what must be asked of the order is asked once, by one Bool. No statement of the seat is proved here.
-/
namespace Go.Proofs.YtmibjgkakolhiaaGreatDoor
open Go.RowKit

set_option maxRecDepth 8000 in
theorem belowN {B : Nat} {a w : World} (h : Below B a w) (n : Nat) : Below B a (w.drewN n) := ⟨h.os, h.tape, h.output, h.size, h.block⟩
/-- The operations yield their values, one behind the other, in every world that meets S. -/
def Takes (P : Program) (ops : Array Oper) (S : World → Prop) (K : Act → Prop) : List Oper → Act → Prop
 | [], a => K a
 | o :: rest, a => ∃ v, YieldsIf P ops S o v a ∧ Takes P ops S K rest (a.put o.dst v)
def setN : Nat → Nat → Array Bool → Array Bool
 | 0, _, l => l
 | m + 1, k, l => setN m (k + 1) (l.setIfInBounds k true)
def takesB (md : Region.Mode) (ops : Array Oper) : Nat → Nat → Array Bool → Bool
 | 0, _, _ => true
 | m + 1, k, l => (Region.ready md ops l).contains k && Region.free md ops l k && takesB md ops m (k + 1) (l.setIfInBounds k true)
set_option maxRecDepth 8000 in
theorem wpAnyH_takes {P : Program} {md : Region.Mode} {ops : Array Oper} {Q : Exit → Act → World → Prop} {S : World → Prop} {w : World} {fuel : Nat} (hs : Region.noSelect ops = true)
  (hQ : ∀ c (d : Option Nat) v a w, Q (.panic c) (Act.put a d v) w → Q (.panic c) a w) (hS : S w) :
  ∀ (l : List Oper) (k : Nat) (listed : Array Bool) (a : Act), (∀ j, j < l.length → ops[k + j]? = l[j]?) → takesB md ops l.length k listed = true →
   Takes P ops S (fun a' => wpAnyH P md ops Q S fuel (setN l.length k listed) a' w) l a → wpAnyH P md ops Q S (fuel + l.length) listed a w
 | [], _, _, _, _, _, h => h
 | o :: l, k, listed, a, hl, hB, h => by
  have h0 : ops[k]? = some o := by simpa using hl 0 (by simp)
  simp only [List.length_cons, takesB, Bool.and_eq_true] at hB
  obtain ⟨⟨hr, hf⟩, hB'⟩ := hB
  obtain ⟨v, hy, hK⟩ := h
  exact wpAnyH_take h0 hs hf hr (fun c a w => hQ c _ _ a w) hy hS (wpAnyH_takes hs hQ hS l (k + 1) _ _ (fun j hj => by have := hl (j + 1) (by simpa using hj); simpa [Nat.add_assoc, Nat.add_comm 1 j] using this) hB' hK)
set_option maxRecDepth 8000 in
theorem takes_nil {P : Program} {ops : Array Oper} {S : World → Prop} {K : Act → Prop} {a : Act} (h : K a) : Takes P ops S K [] a := h
set_option maxRecDepth 8000 in
theorem takes_one {P : Program} {ops : Array Oper} {S : World → Prop} {K : Act → Prop} {o : Oper} {rest : List Oper} {a : Act} (v : Value) (hw : Region.wanted o (yielded ops a.tmps) = true) (hy : ∀ u, S u → (execOp a.eval o).run P u = .ok (.value v) u)
  (h : Takes P ops S K rest (a.put o.dst v)) : Takes P ops S K (o :: rest) a := ⟨v, .inl ⟨hw, hy⟩, h⟩
set_option maxRecDepth 8000 in
theorem takes_skip {P : Program} {ops : Array Oper} {S : World → Prop} {K : Act → Prop} {o : Oper} {rest : List Oper} {a : Act} (hw : Region.wanted o (yielded ops a.tmps) = false)
  (h : Takes P ops S K rest (a.put o.dst undef)) : Takes P ops S K (o :: rest) a := ⟨_, .inr ⟨hw, rfl⟩, h⟩
set_option maxRecDepth 8000 in
/-- The first m of the region, from its beginning. -/
theorem wp_region_takes {P : Program} {id : Nat} {l : List Oper} {Q : Exit → Act → World → Prop} {S : World → Prop} {a : Act} {w : World} (m : Nat) (hm : P.follows .mixedOrders = true) (hS : S w.drew)
  (hB : (Region.noSelect l.toArray && takesB .any l.toArray (l.take m).length 0 (Array.replicate l.length false)) = true)
  (h : S w.drew → Takes P l.toArray S (fun a' => wpAnyH P .any l.toArray (NoPanic Q) S (l.length - (l.take m).length) (setN (l.take m).length 0 (Array.replicate l.length false)) a' w.drew) (l.take m) a) :
  (Code.region id l.toArray true).wp P Q a w := by
 refine wp_region_noPanic ?_
 refine wp_region_held_drew (S := S) hm hS (fun hS => ?_)
 rw [Bool.and_eq_true] at hB
 have hle : (l.take m).length ≤ l.length := by rw [List.length_take]; exact Nat.min_le_right _ _
 have := wpAnyH_takes (fuel := l.length - (l.take m).length) (P := P) (md := .any) (Q := NoPanic Q) hB.1 (fun _ _ _ _ _ h => h) hS (l.take m) 0 (Array.replicate l.length false) a (fun j hj => by
  rw [Nat.zero_add]
  have : j < m := by rw [List.length_take] at hj; omega
  simp [List.getElem?_take_of_lt this]) hB.2 (h hS)
 rw [Nat.sub_add_cancel hle] at this
 simpa using this
end Go.Proofs.YtmibjgkakolhiaaGreatDoor
/-
 What poly's word, parted and sum do, for whatever words; numbers in limbs of 26 bits. No statement of the seat is proved here.
-/
namespace Go.Proofs.YtmibjgkakolhiaaGreatDoor
open Go.RowKit

/-- A word of 64 bits. -/
def Wq (x : Int) : Prop := 0 ≤ x ∧ x < 18446744073709551616
/-- The number of five limbs of 26 bits. -/
def lv (a b c d e : Int) : Int := a + b * 67108864 + c * 4503599627370496 + d * 302231454903657293676544 + e * 20282409603651670423947251286016
set_option maxRecDepth 8000 in
theorem padd64 (x y c : Int) (hx : 0 ≤ x) (hy : 0 ≤ y) (hc0 : 0 ≤ c) (hc : c ≤ 1) (w : World) : (callFunc 92 #[.int .u64 x, .int .u64 y, .int .u64 c]).run Tryz.prog w =
  .ok (.value (.tuple #[.int .u64 ((x + y + c) % 18446744073709551616), .int .u64 ((x + y + c) / 18446744073709551616)])) w := by
 rw [run_callFunc_extern Tryz.func92 (by kernel_rfl) (by kernel_rfl) (by kernel_rfl) (e := add64Entry) (by kernel_rfl), run_add64 x y c hx hy hc0 hc]
 rfl
set_option maxRecDepth 8000 in
theorem mask26 (a : Int) (h : Wq a) : bits .and .u64 a 67108863 = a % 67108864 := by
 obtain ⟨n, rfl⟩ := Int.eq_ofNat_of_zero_le h.1
 have h1 : n < 18446744073709551616 := by have := h.2; omega
 have := bits_and_u64_nat n 67108863 h1 (by decide)
 rw [show ((67108863 : Nat) : Int) = 67108863 from rfl] at this
 rw [this, show (67108863 : Nat) = 2 ^ 26 - 1 from rfl, Nat.and_two_pow_sub_one_eq_mod]
 omega
set_option maxRecDepth 8000 in
theorem or12 (a b : Int) (ha : 0 ≤ a) (ha' : a < 4096) (hb : Wq b) : bits .or .u64 a (b * 4096 % 18446744073709551616) = a + b * 4096 % 18446744073709551616 := by
 obtain ⟨b0, b1⟩ := hb
 have e : b * 4096 % 18446744073709551616 = b % 4503599627370496 * 4096 := by omega
 rw [e, or64 a (b % 4503599627370496) 12 4096 (by decide) ha ha' (by omega) (by omega)]

set_option maxRecDepth 8000 in
set_option maxHeartbeats 400000 in
theorem word_c (a : Option Addr) (len cap : Nat) (l : List Int) (w : World) (hr : Rd w a len cap l) (h8 : 8 ≤ len) (hm : len ≤ 1000) :
  Calls Tryz.prog 86 #[.slice a len cap] w fun e w' => ∃ x, e = .returned (.int .u64 x) ∧ Hid (x = leN (l.take 8)) ∧ Wq x ∧ w' = w := by
 have hx : Wq (leN (l.take 8)) := by
  obtain ⟨h0, h1⟩ := leN_w (l.take 8) (hr.byt.take 8)
  have hl : (l.take 8).length = 8 := by rw [List.length_take, hr.hlen]; omega
  rw [hl] at h1
  exact ⟨h0, h1⟩
 have HG : Hid (got 8 l = leN (l.take 8)) := by unfold Hid got; rw [if_pos (by rw [hr.hlen]; exact h8)]
 have HX : Hid (Wq (leN (l.take 8))) := hx
 have HR : Hid (Rd w a len cap l) := hr
 clear hx hr
 go_enter Tryz.func86, Tryz.ntmps86
 go_wp2_with fail
 refine (get64_any a len cap l _ HR.out (by omega)).mono ?_
 rintro e w' ⟨rfl, hw⟩
 rw [hw]
 clear hw w'
 go_wp2
 go_ret
 exact ⟨_, rfl, HG.out, by rw [HG.out]; exact HX.out, rfl⟩

set_option maxRecDepth 8000 in
set_option maxHeartbeats 400000 in
theorem parted_c (lo hi t : Int) (hl : Wq lo) (hh : Wq hi) (ht : 0 ≤ t ∧ t ≤ 3) (w : World) :
  Calls Tryz.prog 85 #[.int .u64 lo, .int .u64 hi, .int .u64 t] w fun e w' => ∃ a b c d f, e = .returned (.agg #[.int .u64 a, .int .u64 b, .int .u64 c, .int .u64 d, .int .u64 f]) ∧ (0 ≤ a ∧ a < 67108864) ∧ (0 ≤ b ∧ b < 67108864) ∧ (0 ≤ c ∧ c < 67108864) ∧ (0 ≤ d ∧ d < 67108864) ∧ (0 ≤ f ∧ f < 67108864) ∧
   Hid (lv a b c d f = lo + hi * 18446744073709551616 + t * 340282366920938463463374607431768211456) ∧ Below w.heap.size w w' := by
 have HL : Hid (Wq lo) := hl
 have HH : Hid (Wq hi) := hh
 obtain ⟨l0, l1⟩ := hl
 obtain ⟨h0, h1⟩ := hh
 obtain ⟨t0, t1⟩ := ht
 go_enter Tryz.func85, Tryz.ntmps85
 have e1 := mask26 lo HL.out
 have e2 := mask26 (lo / 67108864) ⟨by omega, by omega⟩
 have e3 : bits .and .u64 (bits .or .u64 (lo / 4503599627370496) (IntKind.u64.wrap (hi * 4096))) 67108863 = (lo / 4503599627370496 + hi * 4096 % 18446744073709551616) % 67108864 := by
  rw [IntKind.wrap_u64, or12 _ _ (by omega) (by omega) HH.out, mask26 _ ⟨by omega, by omega⟩]
 have e4 := mask26 (hi / 16384) ⟨by omega, by omega⟩
 have e5 := or64 (hi / 1099511627776) t 24 16777216 (by decide) (by omega) (by omega) (by omega) (by omega)
 have HE : Hid (bits .and .u64 lo 67108863 = lo % 67108864 ∧ bits .and .u64 (lo / 67108864) 67108863 = lo / 67108864 % 67108864 ∧ bits .and .u64 (bits .or .u64 (lo / 4503599627370496) (IntKind.u64.wrap (hi * 4096))) 67108863 = (lo / 4503599627370496 + hi * 4096 % 18446744073709551616) % 67108864 ∧ bits .and .u64 (hi / 16384) 67108863 = hi / 16384 % 67108864 ∧ bits .or .u64 (hi / 1099511627776) (t * 16777216) = hi / 1099511627776 + t * 16777216) := ⟨e1, e2, e3, e4, e5⟩
 clear e1 e2 e3 e4 e5
 go_wp2
 obtain ⟨e1, e2, e3, e4, e5⟩ := HE.out
 rw [e1, e2, e3, e4, e5]
 refine bodyPost_ret (v := (.agg #[.int .u64 (lo % 67108864), .int .u64 (lo / 67108864 % 67108864), .int .u64 ((lo / 4503599627370496 + hi * 4096 % 18446744073709551616) % 67108864), .int .u64 (hi / 16384 % 67108864), .int .u64 (hi / 1099511627776 + t * 16777216)])) (by simp [results, Tryz.results85, go_sem]) rfl ?_
 exact ⟨_, _, _, _, _, rfl, ⟨by omega, by omega⟩, ⟨by omega, by omega⟩, ⟨by omega, by omega⟩, ⟨by omega, by omega⟩, ⟨by omega, by omega⟩, by unfold Hid lv; omega, bel1 _ _⟩

set_option maxRecDepth 8000 in
set_option maxHeartbeats 1000000 in
theorem psum_c (a0 a1 a2 a3 a4 r0 r1 r2 r3 r4 : Int) (ha0 : 0 ≤ a0 ∧ a0 < 134217728) (ha1 : 0 ≤ a1 ∧ a1 < 134217728) (ha2 : 0 ≤ a2 ∧ a2 < 134217728) (ha3 : 0 ≤ a3 ∧ a3 < 134217728) (ha4 : 0 ≤ a4 ∧ a4 < 134217728)
  (hr0 : 0 ≤ r0 ∧ r0 < 134217728) (hr1 : 0 ≤ r1 ∧ r1 < 134217728) (hr2 : 0 ≤ r2 ∧ r2 < 134217728) (hr3 : 0 ≤ r3 ∧ r3 < 134217728) (hr4 : 0 ≤ r4 ∧ r4 < 134217728) (w : World) :
  Calls Tryz.prog 89 #[(.agg #[.int .u64 a0, .int .u64 a1, .int .u64 a2, .int .u64 a3, .int .u64 a4]), (.agg #[.int .u64 r0, .int .u64 r1, .int .u64 r2, .int .u64 r3, .int .u64 r4])] w fun e w' => e = .returned (.agg #[.int .u64 (a0 + r0), .int .u64 (a1 + r1), .int .u64 (a2 + r2), .int .u64 (a3 + r3), .int .u64 (a4 + r4)]) ∧ Below w.heap.size w w' := by
 obtain ⟨_, _⟩ := ha0
 obtain ⟨_, _⟩ := ha1
 obtain ⟨_, _⟩ := ha2
 obtain ⟨_, _⟩ := ha3
 obtain ⟨_, _⟩ := ha4
 obtain ⟨_, _⟩ := hr0
 obtain ⟨_, _⟩ := hr1
 obtain ⟨_, _⟩ := hr2
 obtain ⟨_, _⟩ := hr3
 obtain ⟨_, _⟩ := hr4
 go_enter Tryz.func89, Tryz.ntmps89
 go_wp2
 refine wp_loop_rounds 6 ?_
 rw [rounds_succ]; go_wp2
 go_region
 go_wp2
 rw [rounds_succ]; go_wp2
 go_region
 go_wp2
 rw [rounds_succ]; go_wp2
 go_region
 go_wp2
 rw [rounds_succ]; go_wp2
 go_region
 go_wp2
 rw [rounds_succ]; go_wp2
 go_region
 go_wp2
 rw [rounds_succ]; go_wp2
 refine bodyPost_ret (v := (.agg #[.int .u64 (a0 + r0), .int .u64 (a1 + r1), .int .u64 (a2 + r2), .int .u64 (a3 + r3), .int .u64 (a4 + r4)])) (by simp [results, Tryz.results89, go_sem]) rfl ⟨rfl, ?_⟩
 exact (bel3 _ _ _ _).drew.drew.drew.drew.drew
end Go.Proofs.YtmibjgkakolhiaaGreatDoor
