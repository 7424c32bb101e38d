/-
 What octet's Put32, Get32 and Xor, portholehand's Few and the reference's plain ones do: for whatever number and whatever bytes. No statement of the seat is proved here.
-/
import Derived.Test.YtlnbjehimabaiaaGreatDoorPk1
import Derived.Deep.AppendLies
namespace Go.Proofs.YtlnbjehimabaiaaGreatDoor
open Go.RowKit
set_option maxRecDepth 8000

theorem info5 : (Tryz.prog.info? 5).map (fun i => (i.zero, i.size, i.bytes)) = some (some (.int .u8 0), 1, 1) := by kernel_rfl
theorem lay4_eq (n : Int) (h0 : 0 ≤ n) (h1 : n < 4294967296) : lay 4 n = [n % 256, n / 256 % 256, n / 65536 % 256, n / 16777216] := by
 simp only [lay, List.cons.injEq, and_true]
 refine ⟨trivial, trivial, ?_, ?_⟩ <;> omega
set_option maxHeartbeats 400000 in
theorem put32_any (n : Int) (w : World) (h0 : 0 ≤ n) (h1 : n < 4294967296) :
  Calls Tryz.prog 145 #[.int .u32 n] w fun e w' => e = .returned (.slice (some ⟨w.heap.size, 0, none⟩) 4 4) ∧ Rd w' (some ⟨w.heap.size, 0, none⟩) 4 4 (lay 4 n) ∧ Below w.heap.size w w' := by
 have hrd := Rd.laid w (lay 4 n) (lay_byt 4 n) 204 4 (by rw [lay_length]; omega) #[.int .u8 (n % 256), .int .u8 (n / 256 % 256), .int .u8 (n / 65536 % 256), .int .u8 (n / 16777216)]
  (by rw [lay_length, lay4_eq n h0 h1]; intro i hi; match i, hi with | 0, _ => rfl | 1, _ => rfl | 2, _ => rfl | 3, _ => rfl)
 rw [lay_length] at hrd
 have H : Hid _ := hrd
 clear hrd
 go_enter Tryz.func145, Tryz.ntmps145
 go_wp2
 refine wp_loop_rounds 5 ?_
 rw [rounds_succ]; go_wp2
 rw [rounds_succ]; go_wp2
 rw [rounds_succ]; go_wp2
 rw [rounds_succ]; go_wp2
 rw [rounds_succ]; go_wp2
 go_ret
 exact ⟨rfl, H.out, (Below.refl _ _).alloc (Nat.le_refl _) _⟩
theorem leN_take4 (l : List Int) (h : 4 ≤ l.length) : leN (l.take 4) = l[0]?.getD 0 + l[1]?.getD 0 * 256 + l[2]?.getD 0 * 65536 + l[3]?.getD 0 * 16777216 := by
 match l, h with
 | x0 :: x1 :: x2 :: x3 :: r, _ => simp [leN]; omega
theorem ors4 (x0 x1 x2 x3 : Int) (b0 : 0 ≤ x0 ∧ x0 ≤ 255) (b1 : 0 ≤ x1 ∧ x1 ≤ 255) (b2 : 0 ≤ x2 ∧ x2 ≤ 255) (b3 : 0 ≤ x3 ∧ x3 ≤ 255) :
  bits .or .u32 (bits .or .u32 (bits .or .u32 (bits .or .u32 0 x0) (x1 * 256)) (x2 * 65536)) (x3 * 16777216) = x0 + x1 * 256 + x2 * 65536 + x3 * 16777216 := by
 have e0 : bits .or .u32 0 x0 = x0 := by have := or32 0 x0 0 1 (by decide) (by omega) (by omega) (by omega) (by omega); simpa using this
 rw [e0, or32 x0 x1 8 256 (by decide) (by omega) (by omega) (by omega) (by omega), or32 _ x2 16 65536 (by decide) (by omega) (by omega) (by omega) (by omega), or32 _ x3 24 16777216 (by decide) (by omega) (by omega) (by omega) (by omega)]
set_option maxHeartbeats 400000 in
theorem get32_any (a : Option Addr) (len cap : Nat) (l : List Int) (w : World) (hr : Rd w a len cap l) (hm : len ≤ 281474976710656) :
  Calls Tryz.prog 175 #[.slice a len cap] w fun e w' => e = .returned (.tuple #[.int .u32 (got 4 l), .bool (decide (4 ≤ len))]) ∧ w' = w := by
 obtain ⟨hl, hle, _, hb, hcell⟩ := hr
 by_cases h4 : 4 ≤ len
 ·obtain ⟨b, off, rfl, hc⟩ := hcell (by omega)
  have c0 := hc 0 (by omega)
  rw [Nat.add_zero] at c0
  have c1 := hc 1 (by omega)
  have c2 := hc 2 (by omega)
  have c3 := hc 3 (by omega)
  have b0 := hb.at 0
  have b1 := hb.at 1
  have b2 := hb.at 2
  have b3 := hb.at 3
  have H : Hid (got 4 l = l[0]?.getD 0 + l[1]?.getD 0 * 256 + l[2]?.getD 0 * 65536 + l[3]?.getD 0 * 16777216) := by
   unfold Hid got
   rw [if_pos (by omega), leN_take4 l (by omega)]
  clear hc hb hcell hl hle
  generalize l[0]?.getD 0 = x0 at *
  generalize l[1]?.getD 0 = x1 at *
  generalize l[2]?.getD 0 = x2 at *
  generalize l[3]?.getD 0 = x3 at *
  go_enter Tryz.func175, Tryz.ntmps175
  go_wp2
  refine wp_loop_rounds 5 ?_
  rw [rounds_succ]; go_wp2
  rw [rounds_succ]; go_wp2
  rw [rounds_succ]; go_wp2
  rw [rounds_succ]; go_wp2
  rw [rounds_succ]; go_wp2
  go_ret2
  refine ⟨ret_two ?_ ?_, rfl⟩
  ·rw [H.out, ors4 x0 x1 x2 x3 b0 b1 b2 b3]
  ·simp [h4]
 ·have H : Hid (got 4 l = 0) := by
   unfold Hid got
   rw [if_neg (by omega)]
  clear hb hcell hl
  go_enter Tryz.func175, Tryz.ntmps175
  go_wp2
  go_ret2
  refine ⟨ret_two ?_ ?_, rfl⟩
  ·rw [H.out]
  ·simp; omega
set_option maxHeartbeats 400000 in
theorem refget32_any (a : Option Addr) (len cap : Nat) (l : List Int) (w : World) (hr : Rd w a len cap l) (h4 : 4 ≤ len) :
  Calls Tryz.prog 101 #[.slice a len cap] w fun e w' => e = .returned (.int .u32 (got 4 l)) ∧ ∃ n, w' = w.drewN n := by
 obtain ⟨hl, hle, _, hb, hcell⟩ := hr
 obtain ⟨b, off, rfl, hc⟩ := hcell (by omega)
 have c0 := hc 0 (by omega)
 rw [Nat.add_zero] at c0
 have c1 := hc 1 (by omega)
 have c2 := hc 2 (by omega)
 have c3 := hc 3 (by omega)
 have b0 := hb.at 0
 have b1 := hb.at 1
 have b2 := hb.at 2
 have b3 := hb.at 3
 have H : Hid (got 4 l = l[0]?.getD 0 + l[1]?.getD 0 * 256 + l[2]?.getD 0 * 65536 + l[3]?.getD 0 * 16777216) := by
  unfold Hid got
  rw [if_pos (by omega), leN_take4 l (by omega)]
 clear hc hb hcell hl hle
 generalize l[0]?.getD 0 = x0 at *
 generalize l[1]?.getD 0 = x1 at *
 generalize l[2]?.getD 0 = x2 at *
 generalize l[3]?.getD 0 = x3 at *
 have i0 : (0 : Int) < len := by omega
 have i1 : (1 : Int) < len := by omega
 have i2 : (2 : Int) < len := by omega
 have i3 : (3 : Int) < len := by omega
 go_enter Tryz.func101, Tryz.ntmps101
 go_wp2
 go_quiet (fail)
 go_wp2
 go_ret
 exact ⟨ret_num H.out.symm, nq, rfl⟩
set_option maxHeartbeats 400000 in
theorem refput32_any (n : Int) (w : World) (h0 : 0 ≤ n) (h1 : n < 4294967296) :
  Calls Tryz.prog 103 #[.int .u32 n] w fun e w' => e = .returned (.slice (some ⟨w.heap.size, 0, none⟩) 4 4) ∧ w'.ownsRow w.heap.size 5 1 (.slice (some ⟨w.heap.size, 0, none⟩) 4 4) 4 ((lay 4 n).map (Value.int .u8)) ∧ Below w.heap.size w w' := by
 have H : Hid (∀ cs : Array Value, cs = #[.int .u8 (n % 256), .int .u8 (n / 256 % 256), .int .u8 (n / 65536 % 256), .int .u8 (n / 16777216)] → (w.alloc (.cells cs 5)).ownsRow w.heap.size 5 1 (.slice (some ⟨w.heap.size, 0, none⟩) 4 4) 4 ((lay 4 n).map (Value.int .u8))) := by
  intro cs hcs
  rw [lay4_eq n h0 h1]
  have := World.ownsRow_lit (e := 5) (size := 1) (base := w.heap.size) w cs 4 (Nat.le_refl _) (by decide) (by rw [hcs]; rfl)
  rw [hcs] at this ⊢
  exact this
 go_enter Tryz.func103, Tryz.ntmps103
 go_wp2
 go_ret
 exact ⟨rfl, H.out _ rfl, (Below.refl _ _).alloc (Nat.le_refl _) _⟩
theorem Rd.cut {w : World} {a : Option Addr} {len cap : Nat} {l : List Int} (h : Rd w a len cap l) (k : Nat) (hk : k ≤ len) : Rd w a k cap (l.take k) :=
 ⟨by rw [List.length_take, h.hlen]; omega, Nat.le_trans hk h.hle, h.hnil, h.byt.take k, fun h0 => by
  obtain ⟨b, off, ha, hc⟩ := h.cell (by omega)
  refine ⟨b, off, ha, fun i hi => ?_⟩
  rw [hc i (by omega), List.getElem?_take_of_lt hi]⟩
set_option maxHeartbeats 400000 in
theorem few_some (x : Addr) (len cap : Nat) (l : List Int) (n : Nat) (w : World) (hr : Rd w (some x) len cap l) (hm : len ≤ 140737488351232) (h1 : n ≤ 281474976710656) :
  Calls Tryz.prog 18 #[.slice (some x) len cap, .int .i64 n] w fun e w' => ∃ v, e = .returned v ∧ w'.ownsRow w.heap.size 5 1 v (l.take n).length ((l.take n).map (Value.int .u8)) ∧ Below w.heap.size w w' := by
 obtain ⟨i0, hi, hz0, hz1, hz2⟩ := info_parts info5
 have HO : Hid ((w.alloc (.cells #[] 5)).ownsRow w.heap.size 5 1 (.slice (some ⟨w.heap.size, 0, none⟩) 0 0) 0 []) := World.ownsRow_made w #[] 0 (Nat.le_refl _) (by decide) rfl
 have HN : Hid (∀ k j u, ((l.take k).map (Value.int .u8))[j]? = some u → (w.alloc (.cells #[] 5)).cell? (x.add j) = some u) := fun k => (hr.alloc (.cells #[] 5)).news k
 have HL : Hid (l.length = len) := hr.hlen
 have hle := hr.hle
 have HR : Hid (Rd w (some x) len cap l) := hr
 clear hr
 by_cases hn : n < len
 ·go_enter Tryz.func18, Tryz.ntmps18
  go_wp2_with (at_builtin; refine wpList_append_own _ rfl (.tmp 5) (.tmp 11) 25 rfl w.heap.size 5 i0 (.int .u8 0) 1 1 Tryz.underlying25 hi hz0 hz1 hz2 rfl (by decide) _ 0 [] rfl HO.out x n cap ((l.take n).map (Value.int .u8)) rfl ?c1 (HN.out n) (bytes_oneCell _) ?c2 ?c3 ?c4 ?_)
  case c1 => have := HL.out; simp; omega
  case c2 => unfold maxLen; omega
  case c3 => omega
  case c4 => simp
  intro v' w1 hown hg _
  go_wp2
  go_ret
  refine ⟨v', rfl, ?_, ?_⟩
  ·have := HL.out
   have e : (l.take n).length = 0 + n := by simp; omega
   rw [e]
   simpa using hown
  ·exact ((Below.refl _ _).alloc (Nat.le_refl _) _).grown hg (by simp) (fun k hk => by simp [Value.ownBlock] at hk; omega)
 ·go_enter Tryz.func18, Tryz.ntmps18
  go_wp2_with (at_builtin; refine wpList_append_own _ rfl (.tmp 5) (.tmp 11) 25 rfl w.heap.size 5 i0 (.int .u8 0) 1 1 Tryz.underlying25 hi hz0 hz1 hz2 rfl (by decide) _ 0 [] rfl HO.out x len cap ((l.take n).map (Value.int .u8)) rfl ?d1 (HN.out n) (bytes_oneCell _) ?d2 ?d3 ?d4 ?_)
  case d1 => have := HL.out; simp; omega
  case d2 => unfold maxLen; omega
  case d3 => omega
  case d4 => simp
  intro v' w1 hown hg _
  go_wp2
  go_ret
  refine ⟨v', rfl, ?_, ?_⟩
  ·have := HL.out
   have e : (l.take n).length = 0 + len := by simp; omega
   rw [e]
   simpa using hown
  ·exact ((Below.refl _ _).alloc (Nat.le_refl _) _).grown hg (by simp) (fun k hk => by simp [Value.ownBlock] at hk; omega)

set_option maxHeartbeats 400000 in
theorem few_none (n : Nat) (w : World) (h1 : n ≤ 281474976710656) :
  Calls Tryz.prog 18 #[.slice none 0 0, .int .i64 n] w fun e w' => e = .returned (.slice (some ⟨w.heap.size, 0, none⟩) 0 0) ∧ w'.ownsRow w.heap.size 5 1 (.slice (some ⟨w.heap.size, 0, none⟩) 0 0) 0 [] ∧ Below w.heap.size w w' := by
 have HO : Hid ((w.alloc (.cells #[] 5)).ownsRow w.heap.size 5 1 (.slice (some ⟨w.heap.size, 0, none⟩) 0 0) 0 []) := World.ownsRow_made w #[] 0 (Nat.le_refl _) (by decide) rfl
 by_cases hn : n = 0
 ·subst hn
  go_enter Tryz.func18, Tryz.ntmps18
  go_wp2
  go_ret
  exact ⟨rfl, HO.out, (Below.refl _ _).alloc (Nat.le_refl _) _⟩
 ·go_enter Tryz.func18, Tryz.ntmps18
  go_wp2
  go_ret
  exact ⟨rfl, HO.out, (Below.refl _ _).alloc (Nat.le_refl _) _⟩

/-- 'Few(b, n)': the first n bytes at most, in new memory. -/
theorem few_any (a : Option Addr) (len cap : Nat) (l : List Int) (n : Int) (w : World) (hr : Rd w a len cap l) (hm : len ≤ 140737488351232) (h0 : 0 ≤ n) (h1 : n ≤ 281474976710656) :
  Calls Tryz.prog 18 #[.slice a len cap, .int .i64 n] w fun e w' => ∃ a' c', e = .returned (.slice a' (l.take n.toNat).length c') ∧ w'.ownsRow w.heap.size 5 1 (.slice a' (l.take n.toNat).length c') (l.take n.toNat).length ((l.take n.toNat).map (Value.int .u8)) ∧ Below w.heap.size w w' := by
 obtain ⟨n, rfl⟩ := Int.eq_ofNat_of_zero_le h0
 rw [Int.toNat_natCast]
 cases a with
 | some x =>
  refine (few_some x len cap l n w hr hm (by omega)).mono ?_
  rintro e w' ⟨v, rfl, ho, hb⟩
  obtain ⟨a, c, rfl⟩ := owns_shape ho
  exact ⟨a, c, rfl, ho, hb⟩
 | none =>
  obtain ⟨rfl, rfl, rfl⟩ := hr.none_len
  refine (few_none n w (by omega)).mono ?_
  rintro e w' ⟨rfl, ho, hb⟩
  simp only [List.take_nil, List.length_nil, List.map_nil]
  exact ⟨_, _, rfl, ho, hb⟩
/-- 'Few(b, len(b))': all of it, in new memory. -/
theorem few_all (a : Option Addr) (len cap : Nat) (l : List Int) (w : World) (hr : Rd w a len cap l) (hm : len ≤ 140737488351232) :
  Calls Tryz.prog 18 #[.slice a len cap, .int .i64 len] w fun e w' => ∃ a' c', e = .returned (.slice a' len c') ∧ Rd w' a' len c' l ∧ Below w.heap.size w w' := by
 refine (few_any a len cap l len w hr hm (by omega) (by omega)).mono ?_
 rintro e w' ⟨a', c', rfl, ho, hb⟩
 have e1 : l.take (len : Int).toNat = l := List.take_of_length_le (by rw [Int.toNat_natCast, hr.hlen]; omega)
 rw [e1, hr.hlen] at ho ⊢
 exact ⟨a', c', rfl, Rd.owns hr.byt ho, hb⟩
theorem xor8 (x y : Int) (hx : 0 ≤ x ∧ x ≤ 255) (hy : 0 ≤ y ∧ y ≤ 255) : 0 ≤ bits .xor .u8 x y ∧ bits .xor .u8 x y ≤ 255 ∧ (bits .xor .u8 x y = 0 ↔ x = y) := by
 rw [u8_xor x y (by omega) (by omega) (by omega) (by omega)]
 have h : x.toNat ^^^ y.toNat < 2 ^ 8 := Nat.xor_lt_two_pow (by omega) (by omega)
 refine ⟨by omega, by omega, ?_⟩
 constructor
 ·intro h0
  have h1 : x.toNat ^^^ y.toNat = 0 := by omega
  have h2 : x.toNat = y.toNat := by
   have h3 : x.toNat ^^^ y.toNat ^^^ y.toNat = x.toNat := by rw [Nat.xor_assoc, Nat.xor_self, Nat.xor_zero]
   rw [h1, Nat.zero_xor] at h3
   exact h3.symm
  omega
 ·rintro rfl
  simp
/-! ### Xor -/
/-- The exclusive or of two lists, as long as the shorter one. -/
def xorL (x y : List Int) : List Int := List.zipWith (bits .xor .u8) x y
theorem xorL_length (x y : List Int) : (xorL x y).length = min x.length y.length := by simp [xorL]
theorem xorL_byt {x y : List Int} (hx : Byt x) (hy : Byt y) : Byt (xorL x y) := by
 intro z hz
 obtain ⟨i, hi, rfl⟩ := List.mem_iff_getElem.1 hz
 rw [xorL_length] at hi
 simp only [xorL, List.getElem_zipWith]
 have := xor8 _ _ (hx _ (List.getElem_mem (show i < x.length by omega))) (hy _ (List.getElem_mem (show i < y.length by omega)))
 exact ⟨this.1, this.2.1⟩
theorem xorL_at {x y : List Int} {k : Nat} (hx : k < x.length) (hy : k < y.length) : (xorL x y)[k]? = some (bits .xor .u8 (x[k]?.getD 0) (y[k]?.getD 0)) := by
 rw [List.getElem?_eq_getElem (by rw [xorL_length]; omega)]
 simp [xorL, List.getElem?_eq_getElem hx, List.getElem?_eq_getElem hy]
/-- What the row holds when k bytes have been written: the first k of the answer, then noughts. -/
def half (z : List Int) (k : Nat) : List Int := z.take k ++ List.replicate (z.length - k) 0
theorem half_zero (z : List Int) : half z 0 = List.replicate z.length 0 := by simp [half]
theorem half_length (z : List Int) (k : Nat) (h : k ≤ z.length) : (half z k).length = z.length := by simp [half]; omega
theorem half_all (z : List Int) : half z z.length = z := by simp [half]
theorem half_set (z : List Int) (k : Nat) (h : k < z.length) (v : Int) (hv : z[k]? = some v) : (half z k).set k v = half z (k + 1) := by
 have e1 : (z.take k).length = k := by simp; omega
 have e2 : z.length - k = (z.length - (k + 1)) + 1 := by omega
 have e3 : z.take (k + 1) = z.take k ++ [v] := by
  rw [List.take_succ_eq_append_getElem h]
  rw [List.getElem?_eq_getElem h] at hv
  cases hv; rfl
 unfold half
 rw [e2, List.replicate_succ, e3, List.set_append_right _ _ (by omega), e1]
 simp

theorem half_map_set (z : List Int) (k : Nat) (h : k < z.length) (v : Int) (hv : z[k]? = some v) : ((half z k).map (Value.int .u8)).set k (.int .u8 v) = (half z (k + 1)).map (Value.int .u8) := by
 rw [← half_set z k h v hv, List.map_set]
set_option maxHeartbeats 1000000 in
theorem xor_some (ba oa la ca : Nat) (x : List Int) (bb ob lb cb : Nat) (y : List Int) (m : Nat) (w : World) (HX : Hid (x.length = la)) (HY : Hid (y.length = lb)) (HBX : Hid (Byt x)) (HBY : Hid (Byt y))
  (HCA : Hid (∀ i, i < la → w.cell? ⟨ba, oa + i, none⟩ = some (.int .u8 (x[i]?.getD 0)))) (HCB : Hid (∀ i, i < lb → w.cell? ⟨bb, ob + i, none⟩ = some (.int .u8 (y[i]?.getD 0)))) (hma : m ≤ la) (hmb : m ≤ lb) (hm : la ≤ m ∨ lb ≤ m) (ma : la ≤ 281474976710656) (mb : lb ≤ 281474976710656) :
  Calls Tryz.prog 124 #[.slice (some ⟨ba, oa, none⟩) la ca, .slice (some ⟨bb, ob, none⟩) lb cb] w fun e w' => e = .returned (.slice (some ⟨w.heap.size, 0, none⟩) m m) ∧
   w'.ownsRow w.heap.size 5 1 (.slice (some ⟨w.heap.size, 0, none⟩) m m) m ((xorL x y).map (Value.int .u8)) ∧ Below w.heap.size w w' := by
 obtain ⟨i0, hi, hz0, hz1, hz2⟩ := info_parts info5
 have HZ : Hid ((xorL x y).length = m) := by
  have h1 := HX.out
  have h2 := HY.out
  unfold Hid
  rw [xorL_length]
  omega
 have HM : Hid (la ≤ m ∨ lb ≤ m) := hm
 clear hm
 by_cases hmin : lb < la
 all_goals
  have HM' : Hid _ := HM.out
  go_enter Tryz.func124, Tryz.ntmps124
  go_wp2_with (at_make; refine wpList_make_full _ rfl _ _ 25 rfl w.heap.size 5 i0 (.int .u8 0) 1 Tryz.underlying25 hi hz0 hz1 _ _ _ _ m rfl rfl (by have := HM.out; omega) (by have := HM.out; omega) (by rw [hz2]; omega) (by unfold maxLen; omega) (Nat.le_refl _) ?_)
  intro w0 hown0 hgrow0
  have HO : Hid (w0.ownsRow w.heap.size 5 1 (.slice (some ⟨w.heap.size, 0, none⟩) m m) m ((half (xorL x y) 0).map (Value.int .u8))) := by
   unfold Hid
   rw [half_zero, HZ.out, List.map_replicate]
   have := toList_madeCells_one (.int .u8 0) m
   rw [← this]
   simpa [Value.cells] using hown0
  have HB : Hid (Below w.heap.size w w0) := (Below.refl _ _).grown hgrow0 (Nat.le_refl _) (fun k h => by cases h)
  clear hown0 hgrow0
  go_wp2
  go_loopw [15] (fun i wr => ∃ k : Nat, k ≤ m ∧ i = .int .i64 k ∧ Hid (wr.ownsRow w.heap.size 5 1 (.slice (some ⟨w.heap.size, 0, none⟩) m m) m ((half (xorL x y) k).map (Value.int .u8))) ∧ Hid (Below w.heap.size w wr)) (fun i _ => m - (intOf i).toNat)
  case atStart => exact ⟨0, Nat.zero_le _, rfl, HO, HB⟩
  case round =>
   obtain ⟨k, hk, rfl, HO', HB'⟩ := hrel
   by_cases hlt : k < m
   ·have c1 := cell_later HB'.out (HCA.out k (by omega))
    have c2 := cell_later HB'.out (HCB.out k (by omega))
    have b1 := HBX.out.at k
    have b2 := HBY.out.at k
    have c3 : ∃ v, wr.cell? ⟨w.heap.size, k, none⟩ = some v := by
     rw [World.ownsRow.cellAt HO'.out k (by omega), List.getElem?_eq_getElem (by rw [List.length_map, half_length _ _ (by rw [HZ.out]; omega), HZ.out]; omega)]
     exact ⟨_, rfl⟩
    obtain ⟨v0, c3⟩ := c3
    have c4 := World.ownsRow.frozenAt HO'.out k
    have g1 : (k : Int) < la := by omega
    have g2 : (k : Int) < lb := by omega
    have g3 : (k : Int) < m := by omega
    go_wp2
    go_region
    all_goals go_wp2
    all_goals
     go_roundw
     case rel => exact ⟨k + 1, by omega, by go_num, by
      unfold Hid
      rw [← half_map_set (xorL x y) k (by rw [HZ.out]; omega) _ (xorL_at (by rw [HX.out]; omega) (by rw [HY.out]; omega))]
      exact (HO'.out.stored k _).1.drew, (HB'.out.setCell (by exact Nat.le_refl _) _).drew⟩
     case measure => simp [intOf]; omega
   ·have e : k = m := by omega
    subst e
    go_wp2
    go_ret
    refine ⟨rfl, ?_, HB'.out⟩
    have := HO'.out
    rwa [← HZ.out, half_all, HZ.out] at this

set_option maxHeartbeats 1000000 in
theorem xor_zero (a : Option Addr) (la ca : Nat) (b : Option Addr) (lb cb : Nat) (w : World) (h : la = 0 ∨ lb = 0) (ma : la ≤ 281474976710656) (mb : lb ≤ 281474976710656) :
  Calls Tryz.prog 124 #[.slice a la ca, .slice b lb cb] w fun e w' => e = .returned (.slice (some ⟨w.heap.size, 0, none⟩) 0 0) ∧
   w'.ownsRow w.heap.size 5 1 (.slice (some ⟨w.heap.size, 0, none⟩) 0 0) 0 [] ∧ Below w.heap.size w w' := by
 obtain ⟨i0, hi, hz0, hz1, hz2⟩ := info_parts info5
 have HM : Hid (la = 0 ∨ lb = 0) := h
 clear h
 by_cases hmin : lb < la
 all_goals
  have HM' : Hid _ := HM.out
  go_enter Tryz.func124, Tryz.ntmps124
  go_wp2_with (at_make; refine wpList_make_full _ rfl _ _ 25 rfl w.heap.size 5 i0 (.int .u8 0) 1 Tryz.underlying25 hi hz0 hz1 _ _ _ _ 0 rfl rfl (by have := HM.out; omega) (by have := HM.out; omega) (by rw [hz2]; omega) (by unfold maxLen; omega) (Nat.le_refl _) ?_)
  intro w0 hown0 hgrow0
  have HO : Hid (w0.ownsRow w.heap.size 5 1 (.slice (some ⟨w.heap.size, 0, none⟩) 0 0) 0 []) := by
   have e : (madeCells (Value.int .u8 0).cells (0 * 1)).toList = [] := by simp [madeCells]
   unfold Hid
   first | (rw [e] at hown0; exact hown0) | simpa [madeCells] using hown0
  have HB : Hid (Below w.heap.size w w0) := (Below.refl _ _).grown hgrow0 (Nat.le_refl _) (fun k h => by cases h)
  clear hown0 hgrow0
  go_wp2
  refine wp_loop_rounds 1 ?_
  rw [rounds_succ]; go_wp2
  go_ret
  exact ⟨rfl, HO.out, HB.out⟩

theorem xor_any (a : Option Addr) (la ca : Nat) (x : List Int) (b : Option Addr) (lb cb : Nat) (y : List Int) (w : World) (ha : Rd w a la ca x) (hb : Rd w b lb cb y) (ma : la ≤ 281474976710656) (mb : lb ≤ 281474976710656) :
  Calls Tryz.prog 124 #[.slice a la ca, .slice b lb cb] w fun e w' => e = .returned (.slice (some ⟨w.heap.size, 0, none⟩) (min la lb) (min la lb)) ∧
   w'.ownsRow w.heap.size 5 1 (.slice (some ⟨w.heap.size, 0, none⟩) (min la lb) (min la lb)) (min la lb) ((xorL x y).map (Value.int .u8)) ∧ Below w.heap.size w w' := by
 by_cases h0 : 0 < la ∧ 0 < lb
 ·obtain ⟨ba, oa, rfl, hca⟩ := ha.cell h0.1
  obtain ⟨bb, ob, rfl, hcb⟩ := hb.cell h0.2
  exact xor_some ba oa la ca x bb ob lb cb y (min la lb) w ha.hlen hb.hlen ha.byt hb.byt hca hcb (by omega) (by omega) (by omega) ma mb
 ·have e : min la lb = 0 := by omega
  have ez : xorL x y = [] := List.eq_nil_of_length_eq_zero (by rw [xorL_length, ha.hlen, hb.hlen]; exact e)
  rw [e, ez]
  exact xor_zero a la ca b lb cb w (by omega) ma mb
theorem xor8_back (x y : Int) (hx : 0 ≤ x ∧ x ≤ 255) (hy : 0 ≤ y ∧ y ≤ 255) : bits .xor .u8 (bits .xor .u8 x y) y = x := by
 have h := xor8 x y hx hy
 rw [u8_xor _ y (by omega) (by omega) (by omega) (by omega), u8_xor x y (by omega) (by omega) (by omega) (by omega), Int.toNat_natCast, Nat.xor_assoc, Nat.xor_self, Nat.xor_zero]
 omega
/-- With the same once more it is the first again, as far as both go. -/
theorem xorL_back {a b : List Int} (ha : Byt a) (hb : Byt b) : xorL (xorL a b) b = a.take (min a.length b.length) := by
 induction a generalizing b with
 | nil => simp [xorL]
 | cons x a ih =>
  cases b with
  | nil => simp [xorL]
  | cons y b =>
   have e := ih (fun z hz => ha z (List.mem_cons_of_mem _ hz)) (fun z hz => hb z (List.mem_cons_of_mem _ hz))
   have e2 : min (x :: a).length (y :: b).length = min a.length b.length + 1 := by simp only [List.length_cons]; omega
   rw [e2, List.take_succ_cons, ← e]
   simp only [xorL, List.zipWith_cons_cons, List.cons.injEq, and_true]
   exact xor8_back x y (ha x (by simp)) (hb y (by simp))
theorem str_eq {a b : List Int} (ha : Byt a) (hb : Byt b) : ((strOfNums a).data.toList == (strOfNums b).data.toList) = decide (a = b) := by
 by_cases h : a = b
 ·subst h; simp
 ·have : strOfNums a ≠ strOfNums b := fun e => h (str_inj ha hb e)
  have e2 : (strOfNums a).data.toList ≠ (strOfNums b).data.toList := fun e => this (ByteArray.ext (by rw [← Array.toList_inj]; exact e))
  have e3 : decide (a = b) = false := by simp [h]
  rw [e3, beq_eq_false_iff_ne]
  exact e2
theorem str_eq' {a b : List Int} (ha : Byt a) (hb : Byt b) : ((strOfNums a).toList == (strOfNums b).toList) = decide (a = b) := by
 rw [← str_eq ha hb, ByteArray.toList_eq, ByteArray.toList_eq]
theorem xorL_take_succ {x y : List Int} {k : Nat} (hx : k < x.length) (hy : k < y.length) : ((xorL x y).take (k + 1)).map (Value.int .u8) = ((xorL x y).take k).map (Value.int .u8) ++ [.int .u8 (bits .xor .u8 (x[k]?.getD 0) (y[k]?.getD 0))] := by
 have h : k < (xorL x y).length := by rw [xorL_length]; omega
 have e := xorL_at hx hy
 rw [List.getElem?_eq_getElem h] at e
 rw [List.take_succ_eq_append_getElem h, List.map_append, Option.some.inj e]
 rfl
theorem cell_laid (w : World) (v : Value) (t : TypeId) : ∀ j u, [v][j]? = some u → (w.alloc (.cells #[v] t)).cell? ((⟨w.heap.size, 0, none⟩ : Addr).add j) = some u := by
 intro j u hj
 match j, hj with
 | 0, hj => simp at hj; subst hj; simp [Addr.add]
set_option maxHeartbeats 1000000 in
theorem refxor_some (ba oa la ca : Nat) (x : List Int) (bb ob lb cb : Nat) (y : List Int) (m : Nat) (w : World) (HX : Hid (x.length = la)) (HY : Hid (y.length = lb)) (HBX : Hid (Byt x)) (HBY : Hid (Byt y))
  (HCA : Hid (∀ i, i < la → w.cell? ⟨ba, oa + i, none⟩ = some (.int .u8 (x[i]?.getD 0)))) (HCB : Hid (∀ i, i < lb → w.cell? ⟨bb, ob + i, none⟩ = some (.int .u8 (y[i]?.getD 0)))) (hma : m ≤ la) (hmb : m ≤ lb) (hm : la ≤ m ∨ lb ≤ m) (ma : la ≤ 140737488351232) (_mb : lb ≤ 140737488351232) :
  Calls Tryz.prog 163 #[.slice (some ⟨ba, oa, none⟩) la ca, .slice (some ⟨bb, ob, none⟩) lb cb] w fun e w' => ∃ v, e = .returned v ∧ w'.ownsRow w.heap.size 5 1 v m ((xorL x y).map (Value.int .u8)) ∧ Below w.heap.size w w' := by
 obtain ⟨i0, hi, hz0, hz1, hz2⟩ := info_parts info5
 have HZ : Hid ((xorL x y).length = m) := by
  have h1 := HX.out
  have h2 := HY.out
  unfold Hid
  rw [xorL_length]
  omega
 have HM : Hid (la ≤ m ∨ lb ≤ m) := hm
 clear hm
 go_enter Tryz.func163, Tryz.ntmps163
 go_wp2
 go_loopw [5, 6] (fun v i wr => ∃ k : Nat, k ≤ m ∧ i = .int .i64 k ∧ Hid (wr.ownsRow w.heap.size 5 1 v k (((xorL x y).take k).map (Value.int .u8))) ∧ Hid (Below w.heap.size w wr)) (fun _ i _ => m - (intOf i).toNat)
 case atStart => exact ⟨0, Nat.zero_le _, rfl, World.ownsRow_nil _ _ _ _, Below.refl _ _⟩
 case round =>
  obtain ⟨k, hk, rfl, HO', HB'⟩ := hrel
  by_cases hlt : k < m
  ·have c1 := cell_later HB'.out (HCA.out k (by omega))
   have c2 := cell_later HB'.out (HCB.out k (by omega))
   have b1 := HBX.out.at k
   have b2 := HBY.out.at k
   have hsz := HB'.out.size
   have g1 : (k : Int) < la := by omega
   have g2 : (k : Int) < lb := by omega
   go_wp2
   go_region_law (refine step_append_lies _ rfl (.tmp 19) (.tmp 29) 25 rfl w.heap.size 5 i0 (.int .u8 0) 1 1 Tryz.underlying25 hi hz0 hz1 hz2 rfl (by decide) _ k _ rfl (HO'.out.alloc _).drew ⟨wr.heap.size, 0, none⟩ 1 1 [.int .u8 (bits .xor .u8 (x[k]?.getD 0) (y[k]?.getD 0))] rfl rfl (cell_laid _ _ _) (bytes_oneCell [_]) (by decide) (by unfold maxLen; omega) (by omega) (by simp; omega) _ rfl ?_; intro g cap w1 hown hgrow hat hlt1)
   all_goals go_wp2
   all_goals
    go_roundw
    case rel => exact ⟨k + 1, by omega, by go_num, by
     unfold Hid
     rw [xorL_take_succ (by rw [HX.out]; omega) (by rw [HY.out]; omega)]
     exact hown, ((HB'.out.alloc hsz _).drew).grown hgrow (by simp; omega) (fun j hj => (HO'.out.lt j hj).1)⟩
    case measure => simp [intOf]; omega
  ·have e : k = m := by omega
   subst e
   have hfin : Hid ((xorL x y).take k = xorL x y) := List.take_of_length_le (by rw [HZ.out]; omega)
   rcases HM.out with h | h
   ·have e2 : la = k := by omega
    subst e2
    go_wp2
    go_ret
    refine ⟨_, rfl, ?_, HB'.out⟩
    have := HO'.out
    rwa [hfin.out] at this
   ·have e2 : lb = k := by omega
    subst e2
    by_cases h2 : lb < la
    ·go_wp2
     go_ret
     refine ⟨_, rfl, ?_, HB'.out⟩
     have := HO'.out
     rwa [hfin.out] at this
    ·go_wp2
     go_ret
     refine ⟨_, rfl, ?_, HB'.out⟩
     have := HO'.out
     rwa [hfin.out] at this

set_option maxHeartbeats 1000000 in
theorem refxor_zero (a : Option Addr) (la ca : Nat) (b : Option Addr) (lb cb : Nat) (w : World) (h : la = 0 ∨ lb = 0) :
  Calls Tryz.prog 163 #[.slice a la ca, .slice b lb cb] w fun e w' => e = .returned (.slice none 0 0) ∧ w' = w := by
 rcases h with rfl | rfl
 ·go_enter Tryz.func163, Tryz.ntmps163
  go_wp2
  refine wp_loop_rounds 1 ?_
  rw [rounds_succ]; go_wp2
  go_ret
  exact ⟨rfl, rfl⟩
 ·by_cases h : 0 < la
  ·go_enter Tryz.func163, Tryz.ntmps163
   go_wp2
   refine wp_loop_rounds 1 ?_
   rw [rounds_succ]; go_wp2
   go_ret
   exact ⟨rfl, rfl⟩
  ·go_enter Tryz.func163, Tryz.ntmps163
   go_wp2
   refine wp_loop_rounds 1 ?_
   rw [rounds_succ]; go_wp2
   go_ret
   exact ⟨rfl, rfl⟩

/-- The reference's Xor. -/
theorem refxor_any (a : Option Addr) (la ca : Nat) (x : List Int) (b : Option Addr) (lb cb : Nat) (y : List Int) (w : World) (ha : Rd w a la ca x) (hb : Rd w b lb cb y) (ma : la ≤ 140737488351232) (mb : lb ≤ 140737488351232) :
  Calls Tryz.prog 163 #[.slice a la ca, .slice b lb cb] w fun e w' => ∃ a' c', e = .returned (.slice a' (min la lb) c') ∧ Rd w' a' (min la lb) c' (xorL x y) ∧ Below w.heap.size w w' := by
 by_cases h0 : 0 < la ∧ 0 < lb
 ·obtain ⟨ba, oa, rfl, hca⟩ := ha.cell h0.1
  obtain ⟨bb, ob, rfl, hcb⟩ := hb.cell h0.2
  refine (refxor_some ba oa la ca x bb ob lb cb y (min la lb) w ha.hlen hb.hlen ha.byt hb.byt hca hcb (by omega) (by omega) (by omega) ma mb).mono ?_
  rintro e w' ⟨v, rfl, ho, hbel⟩
  obtain ⟨a', c', rfl⟩ := owns_shape ho
  exact ⟨a', c', rfl, Rd.owns (xorL_byt ha.byt hb.byt) ho, hbel⟩
 ·have e : min la lb = 0 := by omega
  have ez : xorL x y = [] := List.eq_nil_of_length_eq_zero (by rw [xorL_length, ha.hlen, hb.hlen]; exact e)
  rw [e, ez]
  refine (refxor_zero a la ca b lb cb w (by omega)).mono ?_
  rintro e w' ⟨rfl, rfl⟩
  exact ⟨none, 0, rfl, Rd.nil _ _ _ (fun _ => rfl), Below.refl _ _⟩
end Go.Proofs.YtlnbjehimabaiaaGreatDoor
