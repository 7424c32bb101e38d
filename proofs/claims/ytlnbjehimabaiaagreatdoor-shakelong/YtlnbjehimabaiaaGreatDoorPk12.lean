/-
  Several texts of one's own, laid together. No statement of the seat is proved here.
-/
import Derived.Test.YtlnbjehimabaiaaGreatDoorPk1
import Derived.Test.YtlnbjehimabaiaaGreatDoorPk11
import Derived.Test.YtlnbjehimabaiaaGreatDoorQDown
import Derived.Test.YtlnbjehimabaiaaGreatDoorPk9
import Derived.Test.YtlnbjehimabaiaaGreatDoorPk3
import Derived.Shelf.Spec.BitsCarry
import Derived.Laws.Bits64b
/-
 What chacha's Apply does: a text with the stream. No statement of the seat is proved here.
-/
namespace Go.Proofs.YtlnbjehimabaiaaGreatDoor
open Go.RowKit
set_option maxRecDepth 8000

/-- The stream: so many blocks, one behind the other. -/
def sk (key nonce : List Int) (c : Int) : Nat → List Int
 | 0 => []
 | k + 1 => sk key nonce c k ++ blk key (ad c k) nonce
theorem sk_len (key nonce : List Int) (c : Int) : ∀ k, (sk key nonce c k).length = 64 * k
 | 0 => rfl
 | k + 1 => by rw [sk, List.length_append, sk_len key nonce c k, (blk_bn _ _ _).len]; omega
theorem sk_byt (key nonce : List Int) (c : Int) : ∀ k, Byt (sk key nonce c k)
 | 0 => Byt.nil
 | k + 1 => (sk_byt key nonce c k).app (blk_bn _ _ _).byt
theorem sk_part (key nonce : List Int) (c : Int) (k : Nat) : ∀ N, k < N → ((sk key nonce c N).drop (64 * k)).take 64 = blk key (ad c k) nonce
 | 0, h => by omega
 | N + 1, h => by
  rw [sk]
  by_cases e : k = N
  ·subst e
   rw [List.drop_append_of_le_length (by rw [sk_len]; omega), List.drop_eq_nil_of_le (by rw [sk_len]; omega), List.nil_append, List.take_of_length_le (by rw [(blk_bn _ _ _).len]; omega)]
  ·rw [List.drop_append_of_le_length (by rw [sk_len]; omega), List.take_append_of_le_length (by rw [List.length_drop, sk_len]; omega)]
   exact sk_part key nonce c k N (by omega)
/-- A text with the stream. -/
def ap (key : List Int) (c : Int) (nonce text : List Int) : List Int := xorL text (sk key nonce c text.length)
theorem ap_len (key : List Int) (c : Int) (nonce text : List Int) : (ap key c nonce text).length = text.length := by
 unfold ap
 rw [xorL_length, sk_len]
 omega
theorem ap_byt (key : List Int) (c : Int) (nonce : List Int) {text : List Int} (h : Byt text) : Byt (ap key c nonce text) := xorL_byt h (sk_byt _ _ _ _)
theorem xorL_cut (x y : List Int) (n : Nat) (hy : y.length ≤ n) : xorL (x.take n) y = xorL x y := by
 unfold xorL
 have e : y = y.take n := (List.take_of_length_le hy).symm
 rw [show List.zipWith (bits .xor .u8) (x.take n) y = List.zipWith (bits .xor .u8) (x.take n) (y.take n) by rw [← e], ← List.take_zipWith, List.take_of_length_le]
 rw [List.length_zipWith]
 omega
/-- One block more. -/
theorem ap_step (key : List Int) (c : Int) (nonce text : List Int) (k : Nat) (h : 64 * k < text.length) : (ap key c nonce text).take (64 * k) ++ xorL (text.drop (64 * k)) (blk key (ad c k) nonce) = (ap key c nonce text).take (64 * (k + 1)) := by
 have e : 64 * (k + 1) = 64 * k + 64 := by omega
 rw [e, List.take_add]
 congr 1
 have hp := sk_part key nonce c k text.length (by omega)
 unfold ap
 rw [← hp, ← xorL_cut (text.drop (64 * k)) _ 64 (by rw [List.length_take]; omega)]
 unfold xorL
 rw [← List.take_zipWith, ← List.drop_zipWith]
theorem xor_g (a : Option Addr) (la ca : Nat) (x : List Int) (b : Option Addr) (lb cb : Nat) (y : List Int) (w : World) (ha : Rd w a la ca x) (hb : Rd w b lb cb y) (ma : la ≤ 281474976710656) (mb : lb ≤ 281474976710656) :
  Calls Tryz.prog 124 #[.slice a la ca, .slice b lb cb] w fun e w' => ∃ g m, e = .returned (.slice (some ⟨g, 0, none⟩) m m) ∧ Hid (m = min la lb) ∧ Hid (Rd w' (some ⟨g, 0, none⟩) m m (xorL x y)) ∧ Below w.heap.size w w' := by
 refine (xor_any a la ca x b lb cb y w ha hb ma mb).mono ?_
 rintro e w' ⟨rfl, ho, hbel⟩
 exact ⟨_, _, rfl, rfl, Rd.owns (xorL_byt ha.byt hb.byt) ho, hbel⟩
theorem ad_next (c : Int) (k : Nat) : (ad c k + 1) % 4294967296 = ad c ((k + 1 : Nat) : Int) := by unfold ad; omega
structure Ma (w : World) (q1 b off g len cap : Nat) (key nonce text : List Int) (n : Nat) (O : List Int) (u : World) : Prop where
 ak : Ar u w.heap.size 32 (List.map (Value.int .u8) key)
 an : Ar u q1 12 (List.map (Value.int .u8) nonce)
 rd : Rd u (some ⟨b, off, none⟩) len cap text
 own : u.ownsRow w.heap.size 5 1 (.slice (some ⟨g, 0, none⟩) n len) n (List.map (Value.int .u8) O)
 bel : Below w.heap.size w u
theorem Ma.later {w : World} {q1 b off g len cap : Nat} {key nonce text : List Int} {n : Nat} {O : List Int} {u v : World} (h : Ma w q1 b off g len cap key nonce text n O u) (hb : Below u.heap.size u v) : Ma w q1 b off g len cap key nonce text n O v :=
 ⟨h.ak.later hb, h.an.later hb, h.rd.below hb, owns_later h.own hb, h.bel.trans (hb.mono h.bel.size)⟩
set_option maxHeartbeats 4000000 in
theorem apply_some (key : List Int) (count : Int) (nonce : List Int) (b off len cap : Nat) (text : List Int) (hk : Bn 32 key) (hc : W32 count) (hn : Bn 12 nonce) (w : World) (hr : Rd w (some ⟨b, off, none⟩) len cap text) (hb : b < w.heap.size) (hm : len ≤ 140737488351232) :
  Calls Tryz.prog 84 #[(.agg (List.map (Value.int .u8) key).toArray), .int .u32 count, (.agg (List.map (Value.int .u8) nonce).toArray), .slice (some ⟨b, off, none⟩) len cap] w fun e w' => ∃ g X, e = .returned (.slice (some ⟨g, 0, none⟩) len len) ∧ Hid (X = ap key count nonce text) ∧ w'.ownsRow w.heap.size 5 1 (.slice (some ⟨g, 0, none⟩) len len) len (List.map (Value.int .u8) X) ∧ Below w.heap.size w w' := by
 obtain ⟨i0, hi, hz0, hz1, hz2⟩ := info_parts info5
 have HK : Hid (Bn 32 key) := hk
 have HN : Hid (Bn 12 nonce) := hn
 have HWC : Hid (W32 count) := hc
 have HTL : Hid (text.length = len) := hr.hlen
 have HTB : Hid (Byt text) := hr.byt
 have hle := hr.hle
 obtain ⟨c0, c1⟩ := hc
 clear hk hn
 go_enter Tryz.func84, Tryz.ntmps84
 go_upto_region 1 with fail
 have AK : Hid (Ar ((w.alloc (.cells (List.map (Value.int .u8) key).toArray 30)).alloc (.cells (List.map (Value.int .u8) nonce).toArray 91)) w.heap.size 32 (List.map (Value.int .u8) key)) := (ar_box w _ 32 HK.out.map_len _).later (bel1 _ _)
 have AN : Hid (Ar ((w.alloc (.cells (List.map (Value.int .u8) key).toArray 30)).alloc (.cells (List.map (Value.int .u8) nonce).toArray 91)) (w.heap.size + 1) 12 (List.map (Value.int .u8) nonce)) := by have := ar_box (w.alloc (.cells (List.map (Value.int .u8) key).toArray 30)) _ 12 HN.out.map_len 91; simpa [Hid] using this
 have HB : Hid (Below w.heap.size w ((w.alloc (.cells (List.map (Value.int .u8) key).toArray 30)).alloc (.cells (List.map (Value.int .u8) nonce).toArray 91))) := bel2 _ _ _
 have hsz : Hid (((w.alloc (.cells (List.map (Value.int .u8) key).toArray 30)).alloc (.cells (List.map (Value.int .u8) nonce).toArray 91)).heap.size = w.heap.size + 2) := by simp [Hid]
 have HR : Hid (Rd ((w.alloc (.cells (List.map (Value.int .u8) key).toArray 30)).alloc (.cells (List.map (Value.int .u8) nonce).toArray 91)) (some ⟨b, off, none⟩) len cap text) := hr.below (bel2 _ _ _)
 clear hr
 generalize (w.alloc (.cells (List.map (Value.int .u8) key).toArray 30)).alloc (.cells (List.map (Value.int .u8) nonce).toArray 91) = W0 at *
 have k1 : w.heap.size < w.heap.size + 1 := by omega
 have k2 : w.heap.size + 1 < w.heap.size + 2 := by omega
 generalize hq1 : w.heap.size + 1 = q1 at *
 go_wp2_with (at_make; refine wpList_make_own _ rfl _ _ 25 rfl w.heap.size 5 i0 (.int .u8 0) 1 Tryz.underlying25 hi hz0 hz1 _ _ _ len rfl rfl rfl (by rw [hz2]; omega) (by unfold maxLen; omega) (by have := hsz.out; omega) ?_)
 intro W1 hown hgrow
 have hb1 : Below W0.heap.size W0 W1 := (Below.refl _ _).grown hgrow (Nat.le_refl _) (fun k h => by cases h)
 obtain ⟨g, hg⟩ : ∃ g, g = W0.heap.size := ⟨_, rfl⟩
 rw [← hg] at hown ⊢
 have kg : w.heap.size + 2 ≤ g := by have := hsz.out; omega
 have HM : Hid (Ma w q1 b off g len cap key nonce text 0 ((ap key count nonce text).take (64 * 0)) W1) := ⟨AK.out.later hb1, AN.out.later hb1, HR.out.below hb1, hown, HB.out.trans (hb1.mono HB.out.size)⟩
 clear AK AN HR HB hown hgrow hb1 hsz hg
 go_wp2
 go_loopw [9, 1] (fun v c wr => ∃ (k n : Nat) (d : Int), v = .slice (some ⟨g, 0, none⟩) n len ∧ c = .int .u32 d ∧ 0 ≤ d ∧ d < 4294967296 ∧ n ≤ len ∧ Hid (n = min (64 * k) len) ∧ Hid (d = ad count k) ∧ Hid (Ma w q1 b off g len cap key nonce text n ((ap key count nonce text).take (64 * k)) wr)) (fun v _ _ => len - slen v)
 case atStart => exact ⟨0, 0, count, rfl, rfl, c0, c1, Nat.zero_le _, by simp [Hid], by unfold Hid ad; omega, HM⟩
 case round =>
  clear HM
  obtain ⟨k, n, d, rfl, rfl, d0, d1, hnl, HN2, HD, HM⟩ := hrel
  by_cases hlt : n < len
  ·have g1 : (n : Int) < len := by omega
   obtain ⟨_, _, hiK⟩ := bn32_cells HK.out
   obtain ⟨_, _, hiN⟩ := bn12_cells HN.out
   go_wp2_with (first
    | (refine wpList_load_mid rfl 30 (.tmp 4) rfl (w.heap.size) 0 rfl (List.map (Value.int .u8) key) _ HM.out.ak.rng Tryz.underlying30 rfl hiK ?_)
    | (refine wpList_load_mid rfl 91 (.tmp 6) rfl q1 0 rfl (List.map (Value.int .u8) nonce) _ HM.out.an.rng Tryz.underlying91 rfl hiN ?_))
   clear hiK hiN
   refine (block_c key d nonce HK.out ⟨d0, d1⟩ HN.out _).mono ?_
   rintro e V ⟨B, rfl, HBk, hB, hb⟩
   replace HM := hidp (HM.out.later hb)
   have HBn : Hid (Bn 64 B) := hB
   clear hb hB
   obtain ⟨hlen, hone, hi2⟩ := bn64_cells HBn.out
   generalize hcs : (List.map (Value.int .u8) B) = cs at *
   have HC : Hid ((List.map (Value.int .u8) B) = cs) := hcs
   clear hcs
   have hth := there_new V 64 zb64 rfl 163
   have A10 : Hid (Ar ((V.alloc (.cells zb64 163)).setCells V.heap.size 0 cs) V.heap.size 64 cs) := ar_var V _ 64 rfl _ _ hlen
   have HX : Hid (Below V.heap.size V ((V.alloc (.cells zb64 163)).setCells V.heap.size 0 cs)) := bel_var _ _ _ _
   go_wp2_with (refine wpList_store_mid rfl 163 (.tmp 10) (.tmp 22) rfl (V.heap.size) 0 cs.toArray rfl rfl (by simpa [hlen] using hth) (by simpa using hi2) (all_oneCell_toArray hone) ?_)
   clear hth
   have kb : g < V.heap.size := (HM.out.own.lt g (by simp [Value.ownBlock])).2
   replace HM := hidp (HM.out.later HX.out)
   clear HX
   generalize (V.alloc (.cells zb64 163)).setCells V.heap.size 0 cs = W5 at *
   obtain ⟨b10, hb10⟩ : ∃ b, b = V.heap.size := ⟨_, rfl⟩
   rw [← hb10] at A10 kb ⊢
   clear hb10
   have HC' := HC.out
   subst HC'
   clear HC hlen hone hi2
   have htn : (n : Int).toNat = n := by omega
   have gnl : (n : Int) ≤ len := by omega
   have gnc : (n : Int) ≤ cap := by omega
   have hcn : ¬ cap = n := by omega
   have hnk : Hid (n = 64 * k) := by have := HN2.out; unfold Hid; omega
   refine wp_region_noPanic ?_
   refine wp_region_held_drew (S := ExtB g W5) (by kernel_rfl) (ExtB.refl _ _).drew (fun hH => ?_)
   change wpAnyH _ _ _ _ _ _ #[false, false, false, false, false, false, false, false, false] _ _
   refine tn 0 ?_
   refine tn 1 ?_
   refine tn 2 ?_
   refine tn 3 ?_
   refine tn 4 ?_
   refine tn 5 ?_
   try simp only [if_neg hcn]
   refine rdy 6 (fun K hK => ?_)
   go_simp
   refine (xor_g (some ⟨b, off + n, none⟩) (len - n) (cap - n) (text.drop n) (some ⟨b10, 0, none⟩) 64 64 B _ (HM.out.rd.drew.from n (by omega) _ _ rfl (by omega)) (A10.out.drew.rd_all HBn.out.byt 64 (by decide)) (by omega) (by decide)).mono ?_
   rintro e V6 ⟨gx, m, rfl, HMm, HRx, hb6⟩
   refine ko hK (hH.trans hb6) fun hH => ?_; clear hK K
   replace hb6 : Below W5.heap.size W5 V6 := (Below.refl _ _).drew.trans (hb6.mono (Nat.le_refl _))
   replace HM := hidp (HM.out.later hb6)
   clear hb6 A10
   have hml : n + m ≤ len := by have := HMm.out; omega
   have hnl2 : (List.map (Value.int .u8) (xorL (text.drop n) B)).length = m * 1 := by rw [List.length_map, HRx.out.hlen, Nat.mul_one]
   have hnews := HRx.out.news m
   rw [List.take_of_length_le (by rw [HRx.out.hlen]; exact Nat.le_refl _)] at hnews
   obtain ⟨V7, hrun, ho7, hg7⟩ := run_append_fits (P := Tryz.prog) V6 w.heap.size 25 25 5 i0 1 Tryz.underlying25 hi hz1 g n len _ HM.out.own ⟨gx, 0, none⟩ m m _ hnl2 hnews (bytes_oneCell _) hml
   have HO7 : Hid (V7.ownsRow w.heap.size 5 1 (.slice (some ⟨g, 0, none⟩) (n + m) len) (n + m) (List.map (Value.int .u8) ((ap key count nonce text).take (64 * k)) ++ List.map (Value.int .u8) (xorL (text.drop n) B))) := ho7
   have HG7 : Hid (V6.grownBy V7 (some g)) := hg7
   clear ho7 hg7 hnews hnl2
   refine rdy 7 (fun K hK => ?_)
   refine step_append_run rfl (.tmp 23) (.tmp 29) 25 rfl _ _ rfl rfl _ _ hrun ?_
   refine ko hK (ExtB.comp hH (extb_grown HG7.out)) fun hH => ?_; clear hK K
   clear hrun
   refine tn 8 ?_
   refine wpAnyH_done (by kernel_rfl) ?_ _
   refine NoPanic.normal ?_
   clear hH
   have HM7 : Hid (Ma w q1 b off g len cap key nonce text (n + m) ((ap key count nonce text).take (64 * (k + 1))) V7) := ⟨HM.out.ak.extb (extb_grown HG7.out) (by omega), HM.out.an.extb (extb_grown HG7.out) (by omega), HM.out.rd.extb (extb_grown HG7.out) (by omega), by have h := HO7.out; rw [← List.map_append, HBk.out, HD.out, hnk.out, ap_step key count nonce text k (by rw [HTL.out]; have := hnk.out; omega), ← hnk.out] at h; exact h, ExtB.below (extb_grown HG7.out) HM.out.bel (by omega)⟩
   clear HM HO7 HG7 HRx
   have HND : Hid ((d + 1) % 4294967296 = ad count ((k + 1 : Nat) : Int)) := by unfold Hid; rw [HD.out]; exact ad_next _ _
   have HNN : Hid (n + m = min (64 * (k + 1)) len) := by have h1 := HMm.out; have h2 := hnk.out; unfold Hid; omega
   have hm0 : 0 < m := by have := HMm.out; omega
   clear hnk HMm
   go_wp2
   go_roundw
   case rel => exact ⟨k + 1, n + m, (d + 1) % 4294967296, rfl, by go_num, by omega, by omega, hml, HNN, HND, HM7⟩
   case measure => simp [slen]; omega
  ·have e : n = len := by omega
   subst e
   have hfull : Hid ((ap key count nonce text).take (64 * k) = ap key count nonce text) := List.take_of_length_le (by rw [ap_len, HTL.out]; have := HN2.out; omega)
   go_wp2
   go_ret
   refine ⟨g, _, rfl, rfl, ?_, HM.out.bel⟩
   have h := HM.out.own
   rw [hfull.out] at h
   exact h

set_option maxHeartbeats 1000000 in
theorem apply_zero (key : List Int) (count : Int) (nonce : List Int) (a : Option Addr) (cap : Nat) (w : World) :
  Calls Tryz.prog 84 #[(.agg (List.map (Value.int .u8) key).toArray), .int .u32 count, (.agg (List.map (Value.int .u8) nonce).toArray), .slice a 0 cap] w fun e w' => ∃ g X, e = .returned (.slice (some ⟨g, 0, none⟩) 0 0) ∧ Hid (X = ap key count nonce []) ∧ w'.ownsRow w.heap.size 5 1 (.slice (some ⟨g, 0, none⟩) 0 0) 0 (List.map (Value.int .u8) X) ∧ Below w.heap.size w w' := by
 obtain ⟨i0, hi, hz0, hz1, hz2⟩ := info_parts info5
 go_enter Tryz.func84, Tryz.ntmps84
 go_upto_region 1 with fail
 have HB : Hid (Below w.heap.size w ((w.alloc (.cells (List.map (Value.int .u8) key).toArray 30)).alloc (.cells (List.map (Value.int .u8) nonce).toArray 91))) := bel2 _ _ _
 generalize (w.alloc (.cells (List.map (Value.int .u8) key).toArray 30)).alloc (.cells (List.map (Value.int .u8) nonce).toArray 91) = W0 at *
 go_wp2_with (at_make; refine wpList_make_own _ rfl _ _ 25 rfl w.heap.size 5 i0 (.int .u8 0) 1 Tryz.underlying25 hi hz0 hz1 _ _ _ 0 rfl rfl (by omega) (by rw [hz2]; omega) (by unfold maxLen; omega) HB.out.size ?_)
 intro W1 hown hgrow
 have hb1 : Below W0.heap.size W0 W1 := (Below.refl _ _).grown hgrow (Nat.le_refl _) (fun k h => by cases h)
 have HO : Hid (W1.ownsRow w.heap.size 5 1 (.slice (some ⟨W0.heap.size, 0, none⟩) 0 0) 0 []) := hown
 replace HB := hidp (HB.out.trans (hb1.mono HB.out.size))
 clear hown hgrow hb1
 go_wp2
 refine wp_loop_rounds 1 ?_
 rw [rounds_succ]; go_wp2
 go_ret
 exact ⟨_, [], rfl, by simp [Hid, ap, xorL, sk], HO.out, HB.out⟩
theorem apply_any (key : List Int) (count : Int) (nonce : List Int) (a : Option Addr) (len cap : Nat) (text : List Int) (hk : Bn 32 key) (hc : W32 count) (hn : Bn 12 nonce) (w : World) (hr : Rd w a len cap text) (hm : len ≤ 140737488351232) :
  Calls Tryz.prog 84 #[(.agg (List.map (Value.int .u8) key).toArray), .int .u32 count, (.agg (List.map (Value.int .u8) nonce).toArray), .slice a len cap] w fun e w' => ∃ g X, e = .returned (.slice (some ⟨g, 0, none⟩) len len) ∧ Hid (X = ap key count nonce text) ∧ w'.ownsRow w.heap.size 5 1 (.slice (some ⟨g, 0, none⟩) len len) len (List.map (Value.int .u8) X) ∧ Below w.heap.size w w' := by
 by_cases h0 : 0 < len
 ·obtain ⟨b, off, rfl, hcell⟩ := hr.cell h0
  exact apply_some key count nonce b off len cap text hk hc hn w hr (World.block_lt_of_cell? w _ (hcell 0 h0)) hm
 ·have e : len = 0 := by omega
  subst e
  have e2 : text = [] := List.eq_nil_of_length_eq_zero hr.hlen
  subst e2
  exact apply_zero key count nonce a cap w
end Go.Proofs.YtlnbjehimabaiaaGreatDoor
/-
 What the law's own 'known' does: chapter 4's example holds. No statement of the seat is proved here.
-/
namespace Go.Proofs.YtlnbjehimabaiaaGreatDoor
open Go.RowKit
set_option maxRecDepth 8000

theorem q4_known : q4 286331153 16909060 2609737539 19088743 = (3928658676, 3407673550, 1166100270, 1484899515) := by decide +kernel
end Go.Proofs.YtlnbjehimabaiaaGreatDoor
/-
 Slices of bytes of one's own, for the laws on Apply. No statement of the seat is proved here.
-/
namespace Go.Proofs.YtlnbjehimabaiaaGreatDoor
open Go.RowKit
set_option maxRecDepth 8000

theorem apply_o (key : List Int) (count : Int) (nonce : List Int) (a : Option Addr) (len cap : Nat) (text : List Int) (hk : Bn 32 key) (hc : W32 count) (hn : Bn 12 nonce) (w : World) (hr : Rd w a len cap text) (hm : len ≤ 140737488351232) :
  Calls Tryz.prog 84 #[(.agg (List.map (Value.int .u8) key).toArray), .int .u32 count, (.agg (List.map (Value.int .u8) nonce).toArray), .slice a len cap] w fun e w' => ∃ g X, e = .returned (.slice (some ⟨g, 0, none⟩) len len) ∧ Hid (X = ap key count nonce text) ∧ Hid (Ow w' g len X) ∧ w.heap.size ≤ g ∧ Below w.heap.size w w' := by
 refine (apply_any key count nonce a len cap text hk hc hn w hr hm).mono ?_
 rintro e w' ⟨g, X, rfl, HX, ho, hb⟩
 exact ⟨g, X, rfl, HX, ⟨⟨_, ho⟩, by rw [HX.out]; exact ap_byt _ _ _ hr.byt⟩, (ho.lt g (by simp [Value.ownBlock])).1, hb⟩
theorem refxor_g (a : Option Addr) (la ca : Nat) (x : List Int) (b : Option Addr) (lb cb : Nat) (y : List Int) (w : World) (ha : Rd w a la ca x) (hb : Rd w b lb cb y) (ma : la ≤ 140737488351232) (mb : lb ≤ 140737488351232) :
  Calls Tryz.prog 163 #[.slice a la ca, .slice b lb cb] w fun e w' => ∃ a' m c', e = .returned (.slice a' m c') ∧ Rd w' a' m c' (xorL x y) ∧ Below w.heap.size w w' :=
 (refxor_any a la ca x b lb cb y w ha hb ma mb).mono fun _ _ ⟨a', c', h⟩ => ⟨a', _, c', h⟩
/-! ### One byte turned -/
theorem xor8_swap (a b s : Int) (ha : 0 ≤ a ∧ a ≤ 255) (hb : 0 ≤ b ∧ b ≤ 255) (hs : 0 ≤ s ∧ s ≤ 255) : bits .xor .u8 (bits .xor .u8 a b) s = bits .xor .u8 (bits .xor .u8 a s) b := by
 have h1 := xor8 a b ha hb
 have h2 := xor8 a s ha hs
 rw [u8_xor (bits .xor .u8 a b) s (by omega) (by omega) (by omega) (by omega), u8_xor (bits .xor .u8 a s) b (by omega) (by omega) (by omega) (by omega), u8_xor a b (by omega) (by omega) (by omega) (by omega), u8_xor a s (by omega) (by omega) (by omega) (by omega), Int.toNat_natCast, Int.toNat_natCast, Nat.xor_assoc, Nat.xor_assoc, Nat.xor_comm b.toNat]
theorem ap_turn (key : List Int) (c : Int) (nonce : List Int) {t : List Int} (ht : Byt t) (k : Nat) {x y s : Int} (hx : t[k]? = some x) (hs : 0 ≤ s ∧ s ≤ 255) (hy : (ap key c nonce t)[k]? = some y) : ap key c nonce (t.set k (bits .xor .u8 x s)) = (ap key c nonce t).set k (bits .xor .u8 y s) := by
 have hk : k < t.length := (List.getElem?_eq_some_iff.1 hx).1
 have hb := sk_byt key nonce c t.length
 have hsl := sk_len key nonce c t.length
 unfold ap at hy ⊢
 rw [List.length_set]
 generalize sk key nonce c t.length = z at *
 have hkz : k < z.length := by omega
 rw [xorL_at hk hkz] at hy
 apply List.ext_getElem?
 intro i
 by_cases hi : i = k
 ·subst hi
  have hx' := ht x (List.mem_of_getElem? hx)
  rw [List.getElem?_set_self (by rw [xorL_length]; omega), xorL_at (by rw [List.length_set]; exact hk) hkz, List.getElem?_set_self hk, Option.getD_some, ← Option.some.inj hy, hx, Option.getD_some]
  rw [xor8_swap x s _ hx' hs (hb.at _)]
 ·rw [List.getElem?_set_ne (fun e => hi e.symm)]
  unfold xorL
  rw [List.getElem?_zipWith, List.getElem?_zipWith, List.getElem?_set_ne (fun e => hi e.symm)]
theorem ap_back (key : List Int) (c : Int) (nonce : List Int) {t : List Int} (ht : Byt t) : ap key c nonce (ap key c nonce t) = t := by
 have e : ap key c nonce (ap key c nonce t) = xorL (ap key c nonce t) (sk key nonce c t.length) := by
  show xorL (ap key c nonce t) (sk key nonce c (ap key c nonce t).length) = _
  rw [ap_len]
 rw [e]
 show xorL (xorL t (sk key nonce c t.length)) (sk key nonce c t.length) = t
 rw [xorL_back ht (sk_byt _ _ _ _), sk_len, List.take_of_length_le]
 omega
theorem str_size (l : List Int) : (strOfNums l).size = l.length := by
 show (strOfNums l).data.size = _
 rw [← Array.length_toList, strOfNums_data, List.length_map]
end Go.Proofs.YtlnbjehimabaiaaGreatDoor
/-
 A stretch of operations of a region that draws its order, taken one behind the other in their text's order: what must be asked of the order is asked once, by one Bool. No statement of the seat is proved here.
-/
namespace Go.Proofs.YtlnbjehimabaiaaGreatDoor
open Go.RowKit
set_option maxRecDepth 8000

theorem belowN {B : Nat} {a w : World} (h : Below B a w) (n : Nat) : Below B a (w.drewN n) := ⟨h.os, h.tape, h.output, h.size, h.block⟩
/-- The operations yield their values, one behind the other, in every world that meets S. -/
def Takes (P : Program) (ops : Array Oper) (S : World → Prop) (K : Act → Prop) : List Oper → Act → Prop
 | [], a => K a
 | o :: rest, a => ∃ v, YieldsIf P ops S o v a ∧ Takes P ops S K rest (a.put o.dst v)
def setN : Nat → Nat → Array Bool → Array Bool
 | 0, _, l => l
 | m + 1, k, l => setN m (k + 1) (l.setIfInBounds k true)
def takesB (md : Region.Mode) (ops : Array Oper) : Nat → Nat → Array Bool → Bool
 | 0, _, _ => true
 | m + 1, k, l => (Region.ready md ops l).contains k && Region.free md ops l k && takesB md ops m (k + 1) (l.setIfInBounds k true)
theorem wpAnyH_takes {P : Program} {md : Region.Mode} {ops : Array Oper} {Q : Exit → Act → World → Prop} {S : World → Prop} {w : World} {fuel : Nat} (hs : Region.noSelect ops = true)
  (hQ : ∀ c (d : Option Nat) v a w, Q (.panic c) (Act.put a d v) w → Q (.panic c) a w) (hS : S w) :
  ∀ (l : List Oper) (k : Nat) (listed : Array Bool) (a : Act), (∀ j, j < l.length → ops[k + j]? = l[j]?) → takesB md ops l.length k listed = true →
   Takes P ops S (fun a' => wpAnyH P md ops Q S fuel (setN l.length k listed) a' w) l a → wpAnyH P md ops Q S (fuel + l.length) listed a w
 | [], _, _, _, _, _, h => h
 | o :: l, k, listed, a, hl, hB, h => by
  have h0 : ops[k]? = some o := by simpa using hl 0 (by simp)
  simp only [List.length_cons, takesB, Bool.and_eq_true] at hB
  obtain ⟨⟨hr, hf⟩, hB'⟩ := hB
  obtain ⟨v, hy, hK⟩ := h
  exact wpAnyH_take h0 hs hf hr (fun c a w => hQ c _ _ a w) hy hS (wpAnyH_takes hs hQ hS l (k + 1) _ _ (fun j hj => by have := hl (j + 1) (by simpa using hj); simpa [Nat.add_assoc, Nat.add_comm 1 j] using this) hB' hK)
theorem takes_nil {P : Program} {ops : Array Oper} {S : World → Prop} {K : Act → Prop} {a : Act} (h : K a) : Takes P ops S K [] a := h
theorem takes_one {P : Program} {ops : Array Oper} {S : World → Prop} {K : Act → Prop} {o : Oper} {rest : List Oper} {a : Act} (v : Value) (hw : Region.wanted o (yielded ops a.tmps) = true) (hy : ∀ u, S u → (execOp a.eval o).run P u = .ok (.value v) u)
  (h : Takes P ops S K rest (a.put o.dst v)) : Takes P ops S K (o :: rest) a := ⟨v, .inl ⟨hw, hy⟩, h⟩
theorem takes_skip {P : Program} {ops : Array Oper} {S : World → Prop} {K : Act → Prop} {o : Oper} {rest : List Oper} {a : Act} (hw : Region.wanted o (yielded ops a.tmps) = false)
  (h : Takes P ops S K rest (a.put o.dst undef)) : Takes P ops S K (o :: rest) a := ⟨_, .inr ⟨hw, rfl⟩, h⟩
/-- The first m of the region, from its beginning. -/
theorem wp_region_takes {P : Program} {id : Nat} {l : List Oper} {Q : Exit → Act → World → Prop} {S : World → Prop} {a : Act} {w : World} (m : Nat) (hm : P.follows .mixedOrders = true) (hS : S w.drew)
  (hB : (Region.noSelect l.toArray && takesB .any l.toArray (l.take m).length 0 (Array.replicate l.length false)) = true)
  (h : S w.drew → Takes P l.toArray S (fun a' => wpAnyH P .any l.toArray (NoPanic Q) S (l.length - (l.take m).length) (setN (l.take m).length 0 (Array.replicate l.length false)) a' w.drew) (l.take m) a) :
  (Code.region id l.toArray true).wp P Q a w := by
 refine wp_region_noPanic ?_
 refine wp_region_held_drew (S := S) hm hS (fun hS => ?_)
 rw [Bool.and_eq_true] at hB
 have hle : (l.take m).length ≤ l.length := by rw [List.length_take]; exact Nat.min_le_right _ _
 have := wpAnyH_takes (fuel := l.length - (l.take m).length) (P := P) (md := .any) (Q := NoPanic Q) hB.1 (fun _ _ _ _ _ h => h) hS (l.take m) 0 (Array.replicate l.length false) a (fun j hj => by
  rw [Nat.zero_add]
  have : j < m := by rw [List.length_take] at hj; omega
  simp [List.getElem?_take_of_lt this]) hB.2 (h hS)
 rw [Nat.sub_add_cancel hle] at this
 simpa using this
end Go.Proofs.YtlnbjehimabaiaaGreatDoor
/-
 What poly's word, parted and sum do, for whatever words; numbers in limbs of 26 bits. No statement of the seat is proved here.
-/
namespace Go.Proofs.YtlnbjehimabaiaaGreatDoor
open Go.RowKit
set_option maxRecDepth 8000

/-- A word of 64 bits. -/
def Wq (x : Int) : Prop := 0 ≤ x ∧ x < 18446744073709551616
/-- The number of five limbs of 26 bits. -/
def lv (a b c d e : Int) : Int := a + b * 67108864 + c * 4503599627370496 + d * 302231454903657293676544 + e * 20282409603651670423947251286016
theorem padd64 (x y c : Int) (hx : 0 ≤ x) (hy : 0 ≤ y) (hc0 : 0 ≤ c) (hc : c ≤ 1) (w : World) : (callFunc 156 #[.int .u64 x, .int .u64 y, .int .u64 c]).run Tryz.prog w =
  .ok (.value (.tuple #[.int .u64 ((x + y + c) % 18446744073709551616), .int .u64 ((x + y + c) / 18446744073709551616)])) w := by
 rw [run_callFunc_extern Tryz.func156 (by kernel_rfl) (by kernel_rfl) (by kernel_rfl) (e := add64Entry) (by kernel_rfl), run_add64 x y c hx hy hc0 hc]
 rfl
theorem mask26 (a : Int) (h : Wq a) : bits .and .u64 a 67108863 = a % 67108864 := by
 obtain ⟨n, rfl⟩ := Int.eq_ofNat_of_zero_le h.1
 have h1 : n < 18446744073709551616 := by have := h.2; omega
 have := bits_and_u64_nat n 67108863 h1 (by decide)
 rw [show ((67108863 : Nat) : Int) = 67108863 from rfl] at this
 rw [this, show (67108863 : Nat) = 2 ^ 26 - 1 from rfl, Nat.and_two_pow_sub_one_eq_mod]
 omega
theorem or12 (a b : Int) (ha : 0 ≤ a) (ha' : a < 4096) (hb : Wq b) : bits .or .u64 a (b * 4096 % 18446744073709551616) = a + b * 4096 % 18446744073709551616 := by
 obtain ⟨b0, b1⟩ := hb
 have e : b * 4096 % 18446744073709551616 = b % 4503599627370496 * 4096 := by omega
 rw [e, or64 a (b % 4503599627370496) 12 4096 (by decide) ha ha' (by omega) (by omega)]

set_option maxHeartbeats 400000 in
theorem word_c (a : Option Addr) (len cap : Nat) (l : List Int) (w : World) (hr : Rd w a len cap l) (h8 : 8 ≤ len) (hm : len ≤ 1000) :
  Calls Tryz.prog 150 #[.slice a len cap] w fun e w' => ∃ x, e = .returned (.int .u64 x) ∧ Hid (x = leN (l.take 8)) ∧ Wq x ∧ w' = w := by
 have hx : Wq (leN (l.take 8)) := by
  obtain ⟨h0, h1⟩ := leN_w (l.take 8) (hr.byt.take 8)
  have hl : (l.take 8).length = 8 := by rw [List.length_take, hr.hlen]; omega
  rw [hl] at h1
  exact ⟨h0, h1⟩
 have HG : Hid (got 8 l = leN (l.take 8)) := by unfold Hid got; rw [if_pos (by rw [hr.hlen]; exact h8)]
 have HX : Hid (Wq (leN (l.take 8))) := hx
 have HR : Hid (Rd w a len cap l) := hr
 clear hx hr
 go_enter Tryz.func150, Tryz.ntmps150
 go_wp2_with fail
 refine (get64_any a len cap l _ HR.out (by omega)).mono ?_
 rintro e w' ⟨rfl, hw⟩
 rw [hw]
 clear hw w'
 go_wp2
 go_ret
 exact ⟨_, rfl, HG.out, by rw [HG.out]; exact HX.out, rfl⟩

set_option maxHeartbeats 400000 in
theorem parted_c (lo hi t : Int) (hl : Wq lo) (hh : Wq hi) (ht : 0 ≤ t ∧ t ≤ 3) (w : World) :
  Calls Tryz.prog 149 #[.int .u64 lo, .int .u64 hi, .int .u64 t] w fun e w' => ∃ a b c d f, e = .returned (.agg #[.int .u64 a, .int .u64 b, .int .u64 c, .int .u64 d, .int .u64 f]) ∧ (0 ≤ a ∧ a < 67108864) ∧ (0 ≤ b ∧ b < 67108864) ∧ (0 ≤ c ∧ c < 67108864) ∧ (0 ≤ d ∧ d < 67108864) ∧ (0 ≤ f ∧ f < 67108864) ∧
   Hid (lv a b c d f = lo + hi * 18446744073709551616 + t * 340282366920938463463374607431768211456) ∧ Below w.heap.size w w' := by
 have HL : Hid (Wq lo) := hl
 have HH : Hid (Wq hi) := hh
 obtain ⟨l0, l1⟩ := hl
 obtain ⟨h0, h1⟩ := hh
 obtain ⟨t0, t1⟩ := ht
 go_enter Tryz.func149, Tryz.ntmps149
 have e1 := mask26 lo HL.out
 have e2 := mask26 (lo / 67108864) ⟨by omega, by omega⟩
 have e3 : bits .and .u64 (bits .or .u64 (lo / 4503599627370496) (IntKind.u64.wrap (hi * 4096))) 67108863 = (lo / 4503599627370496 + hi * 4096 % 18446744073709551616) % 67108864 := by
  rw [IntKind.wrap_u64, or12 _ _ (by omega) (by omega) HH.out, mask26 _ ⟨by omega, by omega⟩]
 have e4 := mask26 (hi / 16384) ⟨by omega, by omega⟩
 have e5 := or64 (hi / 1099511627776) t 24 16777216 (by decide) (by omega) (by omega) (by omega) (by omega)
 have HE : Hid (bits .and .u64 lo 67108863 = lo % 67108864 ∧ bits .and .u64 (lo / 67108864) 67108863 = lo / 67108864 % 67108864 ∧ bits .and .u64 (bits .or .u64 (lo / 4503599627370496) (IntKind.u64.wrap (hi * 4096))) 67108863 = (lo / 4503599627370496 + hi * 4096 % 18446744073709551616) % 67108864 ∧ bits .and .u64 (hi / 16384) 67108863 = hi / 16384 % 67108864 ∧ bits .or .u64 (hi / 1099511627776) (t * 16777216) = hi / 1099511627776 + t * 16777216) := ⟨e1, e2, e3, e4, e5⟩
 clear e1 e2 e3 e4 e5
 go_wp2
 obtain ⟨e1, e2, e3, e4, e5⟩ := HE.out
 rw [e1, e2, e3, e4, e5]
 refine bodyPost_ret (v := (.agg #[.int .u64 (lo % 67108864), .int .u64 (lo / 67108864 % 67108864), .int .u64 ((lo / 4503599627370496 + hi * 4096 % 18446744073709551616) % 67108864), .int .u64 (hi / 16384 % 67108864), .int .u64 (hi / 1099511627776 + t * 16777216)])) (by simp [results, Tryz.results149, go_sem]) rfl ?_
 exact ⟨_, _, _, _, _, rfl, ⟨by omega, by omega⟩, ⟨by omega, by omega⟩, ⟨by omega, by omega⟩, ⟨by omega, by omega⟩, ⟨by omega, by omega⟩, by unfold Hid lv; omega, bel1 _ _⟩

set_option maxHeartbeats 1000000 in
theorem psum_c (a0 a1 a2 a3 a4 r0 r1 r2 r3 r4 : Int) (ha0 : 0 ≤ a0 ∧ a0 < 134217728) (ha1 : 0 ≤ a1 ∧ a1 < 134217728) (ha2 : 0 ≤ a2 ∧ a2 < 134217728) (ha3 : 0 ≤ a3 ∧ a3 < 134217728) (ha4 : 0 ≤ a4 ∧ a4 < 134217728)
  (hr0 : 0 ≤ r0 ∧ r0 < 134217728) (hr1 : 0 ≤ r1 ∧ r1 < 134217728) (hr2 : 0 ≤ r2 ∧ r2 < 134217728) (hr3 : 0 ≤ r3 ∧ r3 < 134217728) (hr4 : 0 ≤ r4 ∧ r4 < 134217728) (w : World) :
  Calls Tryz.prog 153 #[(.agg #[.int .u64 a0, .int .u64 a1, .int .u64 a2, .int .u64 a3, .int .u64 a4]), (.agg #[.int .u64 r0, .int .u64 r1, .int .u64 r2, .int .u64 r3, .int .u64 r4])] w fun e w' => e = .returned (.agg #[.int .u64 (a0 + r0), .int .u64 (a1 + r1), .int .u64 (a2 + r2), .int .u64 (a3 + r3), .int .u64 (a4 + r4)]) ∧ Below w.heap.size w w' := by
 obtain ⟨_, _⟩ := ha0
 obtain ⟨_, _⟩ := ha1
 obtain ⟨_, _⟩ := ha2
 obtain ⟨_, _⟩ := ha3
 obtain ⟨_, _⟩ := ha4
 obtain ⟨_, _⟩ := hr0
 obtain ⟨_, _⟩ := hr1
 obtain ⟨_, _⟩ := hr2
 obtain ⟨_, _⟩ := hr3
 obtain ⟨_, _⟩ := hr4
 go_enter Tryz.func153, Tryz.ntmps153
 go_wp2
 refine wp_loop_rounds 6 ?_
 rw [rounds_succ]; go_wp2
 go_region
 go_wp2
 rw [rounds_succ]; go_wp2
 go_region
 go_wp2
 rw [rounds_succ]; go_wp2
 go_region
 go_wp2
 rw [rounds_succ]; go_wp2
 go_region
 go_wp2
 rw [rounds_succ]; go_wp2
 go_region
 go_wp2
 rw [rounds_succ]; go_wp2
 refine bodyPost_ret (v := (.agg #[.int .u64 (a0 + r0), .int .u64 (a1 + r1), .int .u64 (a2 + r2), .int .u64 (a3 + r3), .int .u64 (a4 + r4)])) (by simp [results, Tryz.results153, go_sem]) rfl ⟨rfl, ?_⟩
 exact (bel3 _ _ _ _).drew.drew.drew.drew.drew
end Go.Proofs.YtlnbjehimabaiaaGreatDoor
