/-
 What chacha's Apply does: a text with the stream. No statement of the seat is proved here.
-/
import Derived.Test.YtmibjgkakolhiaaGreatDoorPk1
import Derived.Test.YtmibjgkakolhiaaGreatDoorPk19
namespace Go.Proofs.YtmibjgkakolhiaaGreatDoor
open Go.RowKit

/-- The stream: so many blocks, one behind the other. -/
def sk (key nonce : List Int) (c : Int) : Nat → List Int
 | 0 => []
 | k + 1 => sk key nonce c k ++ blk key (ad c k) nonce
set_option maxRecDepth 8000 in
theorem sk_len (key nonce : List Int) (c : Int) : ∀ k, (sk key nonce c k).length = 64 * k
 | 0 => rfl
 | k + 1 => by rw [sk, List.length_append, sk_len key nonce c k, (blk_bn _ _ _).len]; omega
set_option maxRecDepth 8000 in
theorem sk_byt (key nonce : List Int) (c : Int) : ∀ k, Byt (sk key nonce c k)
 | 0 => Byt.nil
 | k + 1 => (sk_byt key nonce c k).app (blk_bn _ _ _).byt
set_option maxRecDepth 8000 in
theorem sk_part (key nonce : List Int) (c : Int) (k : Nat) : ∀ N, k < N → ((sk key nonce c N).drop (64 * k)).take 64 = blk key (ad c k) nonce
 | 0, h => by omega
 | N + 1, h => by
  rw [sk]
  by_cases e : k = N
  ·subst e
   rw [List.drop_append_of_le_length (by rw [sk_len]; omega), List.drop_eq_nil_of_le (by rw [sk_len]; omega), List.nil_append, List.take_of_length_le (by rw [(blk_bn _ _ _).len]; omega)]
  ·rw [List.drop_append_of_le_length (by rw [sk_len]; omega), List.take_append_of_le_length (by rw [List.length_drop, sk_len]; omega)]
   exact sk_part key nonce c k N (by omega)
/-- A text with the stream. -/
def ap (key : List Int) (c : Int) (nonce text : List Int) : List Int := xorL text (sk key nonce c text.length)
set_option maxRecDepth 8000 in
theorem ap_len (key : List Int) (c : Int) (nonce text : List Int) : (ap key c nonce text).length = text.length := by
 unfold ap
 rw [xorL_length, sk_len]
 omega
set_option maxRecDepth 8000 in
theorem ap_byt (key : List Int) (c : Int) (nonce : List Int) {text : List Int} (h : Byt text) : Byt (ap key c nonce text) := xorL_byt h (sk_byt _ _ _ _)
set_option maxRecDepth 8000 in
theorem xorL_cut (x y : List Int) (n : Nat) (hy : y.length ≤ n) : xorL (x.take n) y = xorL x y := by
 unfold xorL
 have e : y = y.take n := (List.take_of_length_le hy).symm
 rw [show List.zipWith (bits .xor .u8) (x.take n) y = List.zipWith (bits .xor .u8) (x.take n) (y.take n) by rw [← e], ← List.take_zipWith, List.take_of_length_le]
 rw [List.length_zipWith]
 omega
set_option maxRecDepth 8000 in
/-- One block more. -/
theorem ap_step (key : List Int) (c : Int) (nonce text : List Int) (k : Nat) (h : 64 * k < text.length) : (ap key c nonce text).take (64 * k) ++ xorL (text.drop (64 * k)) (blk key (ad c k) nonce) = (ap key c nonce text).take (64 * (k + 1)) := by
 have e : 64 * (k + 1) = 64 * k + 64 := by omega
 rw [e, List.take_add]
 congr 1
 have hp := sk_part key nonce c k text.length (by omega)
 unfold ap
 rw [← hp, ← xorL_cut (text.drop (64 * k)) _ 64 (by rw [List.length_take]; omega)]
 unfold xorL
 rw [← List.take_zipWith, ← List.drop_zipWith]
set_option maxRecDepth 8000 in
theorem xor_g (a : Option Addr) (la ca : Nat) (x : List Int) (b : Option Addr) (lb cb : Nat) (y : List Int) (w : World) (ha : Rd w a la ca x) (hb : Rd w b lb cb y) (ma : la ≤ 281474976710656) (mb : lb ≤ 281474976710656) :
  Calls Tryz.prog 77 #[.slice a la ca, .slice b lb cb] w fun e w' => ∃ g m, e = .returned (.slice (some ⟨g, 0, none⟩) m m) ∧ Hid (m = min la lb) ∧ Hid (Rd w' (some ⟨g, 0, none⟩) m m (xorL x y)) ∧ Below w.heap.size w w' := by
 refine (xor_any a la ca x b lb cb y w ha hb ma mb).mono ?_
 rintro e w' ⟨rfl, ho, hbel⟩
 exact ⟨_, _, rfl, rfl, Rd.owns (xorL_byt ha.byt hb.byt) ho, hbel⟩
set_option maxRecDepth 8000 in
theorem ad_next (c : Int) (k : Nat) : (ad c k + 1) % 4294967296 = ad c ((k + 1 : Nat) : Int) := by unfold ad; omega
structure Ma (w : World) (q1 b off g len cap : Nat) (key nonce text : List Int) (n : Nat) (O : List Int) (u : World) : Prop where
 ak : Ar u w.heap.size 32 (List.map (Value.int .u8) key)
 an : Ar u q1 12 (List.map (Value.int .u8) nonce)
 rd : Rd u (some ⟨b, off, none⟩) len cap text
 own : u.ownsRow w.heap.size 5 1 (.slice (some ⟨g, 0, none⟩) n len) n (List.map (Value.int .u8) O)
 bel : Below w.heap.size w u
set_option maxRecDepth 8000 in
theorem Ma.later {w : World} {q1 b off g len cap : Nat} {key nonce text : List Int} {n : Nat} {O : List Int} {u v : World} (h : Ma w q1 b off g len cap key nonce text n O u) (hb : Below u.heap.size u v) : Ma w q1 b off g len cap key nonce text n O v :=
 ⟨h.ak.later hb, h.an.later hb, h.rd.below hb, owns_later h.own hb, h.bel.trans (hb.mono h.bel.size)⟩
set_option maxRecDepth 8000 in
set_option maxHeartbeats 4000000 in
theorem apply_some (key : List Int) (count : Int) (nonce : List Int) (b off len cap : Nat) (text : List Int) (hk : Bn 32 key) (hc : W32 count) (hn : Bn 12 nonce) (w : World) (hr : Rd w (some ⟨b, off, none⟩) len cap text) (hb : b < w.heap.size) (hm : len ≤ 140737488351232) :
  Calls Tryz.prog 64 #[(.agg (List.map (Value.int .u8) key).toArray), .int .u32 count, (.agg (List.map (Value.int .u8) nonce).toArray), .slice (some ⟨b, off, none⟩) len cap] w fun e w' => ∃ g X, e = .returned (.slice (some ⟨g, 0, none⟩) len len) ∧ Hid (X = ap key count nonce text) ∧ w'.ownsRow w.heap.size 5 1 (.slice (some ⟨g, 0, none⟩) len len) len (List.map (Value.int .u8) X) ∧ Below w.heap.size w w' := by
 obtain ⟨i0, hi, hz0, hz1, hz2⟩ := info_parts info5
 have HK : Hid (Bn 32 key) := hk
 have HN : Hid (Bn 12 nonce) := hn
 have HWC : Hid (W32 count) := hc
 have HTL : Hid (text.length = len) := hr.hlen
 have HTB : Hid (Byt text) := hr.byt
 have hle := hr.hle
 obtain ⟨c0, c1⟩ := hc
 clear hk hn
 go_enter Tryz.func64, Tryz.ntmps64
 go_upto_region 1 with fail
 have AK : Hid (Ar ((w.alloc (.cells (List.map (Value.int .u8) key).toArray 33)).alloc (.cells (List.map (Value.int .u8) nonce).toArray 81)) w.heap.size 32 (List.map (Value.int .u8) key)) := (ar_box w _ 32 HK.out.map_len _).later (bel1 _ _)
 have AN : Hid (Ar ((w.alloc (.cells (List.map (Value.int .u8) key).toArray 33)).alloc (.cells (List.map (Value.int .u8) nonce).toArray 81)) (w.heap.size + 1) 12 (List.map (Value.int .u8) nonce)) := by have := ar_box (w.alloc (.cells (List.map (Value.int .u8) key).toArray 33)) _ 12 HN.out.map_len 81; simpa [Hid] using this
 have HB : Hid (Below w.heap.size w ((w.alloc (.cells (List.map (Value.int .u8) key).toArray 33)).alloc (.cells (List.map (Value.int .u8) nonce).toArray 81))) := bel2 _ _ _
 have hsz : Hid (((w.alloc (.cells (List.map (Value.int .u8) key).toArray 33)).alloc (.cells (List.map (Value.int .u8) nonce).toArray 81)).heap.size = w.heap.size + 2) := by simp [Hid]
 have HR : Hid (Rd ((w.alloc (.cells (List.map (Value.int .u8) key).toArray 33)).alloc (.cells (List.map (Value.int .u8) nonce).toArray 81)) (some ⟨b, off, none⟩) len cap text) := hr.below (bel2 _ _ _)
 clear hr
 generalize (w.alloc (.cells (List.map (Value.int .u8) key).toArray 33)).alloc (.cells (List.map (Value.int .u8) nonce).toArray 81) = W0 at *
 have k1 : w.heap.size < w.heap.size + 1 := by omega
 have k2 : w.heap.size + 1 < w.heap.size + 2 := by omega
 generalize hq1 : w.heap.size + 1 = q1 at *
 go_wp2_with (at_make; refine wpList_make_own _ rfl _ _ 28 rfl w.heap.size 5 i0 (.int .u8 0) 1 Tryz.underlying28 hi hz0 hz1 _ _ _ len rfl rfl rfl (by rw [hz2]; omega) (by unfold maxLen; omega) (by have := hsz.out; omega) ?_)
 intro W1 hown hgrow
 have hb1 : Below W0.heap.size W0 W1 := (Below.refl _ _).grown hgrow (Nat.le_refl _) (fun k h => by cases h)
 obtain ⟨g, hg⟩ : ∃ g, g = W0.heap.size := ⟨_, rfl⟩
 rw [← hg] at hown ⊢
 have kg : w.heap.size + 2 ≤ g := by have := hsz.out; omega
 have HM : Hid (Ma w q1 b off g len cap key nonce text 0 ((ap key count nonce text).take (64 * 0)) W1) := ⟨AK.out.later hb1, AN.out.later hb1, HR.out.below hb1, hown, HB.out.trans (hb1.mono HB.out.size)⟩
 clear AK AN HR HB hown hgrow hb1 hsz hg
 go_wp2
 go_loopw [9, 1] (fun v c wr => ∃ (k n : Nat) (d : Int), v = .slice (some ⟨g, 0, none⟩) n len ∧ c = .int .u32 d ∧ 0 ≤ d ∧ d < 4294967296 ∧ n ≤ len ∧ Hid (n = min (64 * k) len) ∧ Hid (d = ad count k) ∧ Hid (Ma w q1 b off g len cap key nonce text n ((ap key count nonce text).take (64 * k)) wr)) (fun v _ _ => len - slen v)
 case atStart => exact ⟨0, 0, count, rfl, rfl, c0, c1, Nat.zero_le _, by simp [Hid], by unfold Hid ad; omega, HM⟩
 case round =>
  clear HM
  obtain ⟨k, n, d, rfl, rfl, d0, d1, hnl, HN2, HD, HM⟩ := hrel
  by_cases hlt : n < len
  ·have g1 : (n : Int) < len := by omega
   obtain ⟨_, _, hiK⟩ := bn32_cells HK.out
   obtain ⟨_, _, hiN⟩ := bn12_cells HN.out
   go_wp2_with (first
    | (refine wpList_load_mid rfl 33 (.tmp 4) rfl (w.heap.size) 0 rfl (List.map (Value.int .u8) key) _ HM.out.ak.rng Tryz.underlying33 rfl hiK ?_)
    | (refine wpList_load_mid rfl 81 (.tmp 6) rfl q1 0 rfl (List.map (Value.int .u8) nonce) _ HM.out.an.rng Tryz.underlying81 rfl hiN ?_))
   clear hiK hiN
   refine (block_c key d nonce HK.out ⟨d0, d1⟩ HN.out _).mono ?_
   rintro e V ⟨B, rfl, HBk, hB, hb⟩
   replace HM := hidp (HM.out.later hb)
   have HBn : Hid (Bn 64 B) := hB
   clear hb hB
   obtain ⟨hlen, hone, hi2⟩ := bn64_cells HBn.out
   generalize hcs : (List.map (Value.int .u8) B) = cs at *
   have HC : Hid ((List.map (Value.int .u8) B) = cs) := hcs
   clear hcs
   have hth := there_new V 64 zb64 rfl 90
   have A10 : Hid (Ar ((V.alloc (.cells zb64 90)).setCells V.heap.size 0 cs) V.heap.size 64 cs) := ar_var V _ 64 rfl _ _ hlen
   have HX : Hid (Below V.heap.size V ((V.alloc (.cells zb64 90)).setCells V.heap.size 0 cs)) := bel_var _ _ _ _
   go_wp2_with (refine wpList_store_mid rfl 90 (.tmp 10) (.tmp 22) rfl (V.heap.size) 0 cs.toArray rfl rfl (by simpa [hlen] using hth) (by simpa using hi2) (all_oneCell_toArray hone) ?_)
   clear hth
   have kb : g < V.heap.size := (HM.out.own.lt g (by simp [Value.ownBlock])).2
   replace HM := hidp (HM.out.later HX.out)
   clear HX
   generalize (V.alloc (.cells zb64 90)).setCells V.heap.size 0 cs = W5 at *
   obtain ⟨b10, hb10⟩ : ∃ b, b = V.heap.size := ⟨_, rfl⟩
   rw [← hb10] at A10 kb ⊢
   clear hb10
   have HC' := HC.out
   subst HC'
   clear HC hlen hone hi2
   have htn : (n : Int).toNat = n := by omega
   have gnl : (n : Int) ≤ len := by omega
   have gnc : (n : Int) ≤ cap := by omega
   have hcn : ¬ cap = n := by omega
   have hnk : Hid (n = 64 * k) := by have := HN2.out; unfold Hid; omega
   refine wp_region_noPanic ?_
   refine wp_region_held_drew (S := ExtB g W5) (by kernel_rfl) (ExtB.refl _ _).drew (fun hH => ?_)
   change wpAnyH _ _ _ _ _ _ #[false, false, false, false, false, false, false, false, false] _ _
   refine tk 0 ?_
   try simp only [Act.put, List.setIfInBounds_toArray, List.set_cons_zero, List.set_cons_succ]
   refine tk 1 ?_
   try simp only [Act.put, List.setIfInBounds_toArray, List.set_cons_zero, List.set_cons_succ]
   refine tk 2 ?_
   try simp only [Act.put, List.setIfInBounds_toArray, List.set_cons_zero, List.set_cons_succ]
   refine tk 3 ?_
   try simp only [Act.put, List.setIfInBounds_toArray, List.set_cons_zero, List.set_cons_succ]
   refine tk 4 ?_
   try simp only [Act.put, List.setIfInBounds_toArray, List.set_cons_zero, List.set_cons_succ]
   refine tk 5 ?_
   try simp only [Act.put, List.setIfInBounds_toArray, List.set_cons_zero, List.set_cons_succ]
   try simp only [if_neg hcn]
   refine rdy 6 (fun K hK => ?_)
   go_simp
   refine (xor_g (some ⟨b, off + n, none⟩) (len - n) (cap - n) (text.drop n) (some ⟨b10, 0, none⟩) 64 64 B _ (HM.out.rd.drew.from n (by omega) _ _ rfl (by omega)) (A10.out.drew.rd_all HBn.out.byt 64 (by decide)) (by omega) (by decide)).mono ?_
   rintro e V6 ⟨gx, m, rfl, HMm, HRx, hb6⟩
   refine hK.out _ _ (hH.trans hb6) (fun hH' => ?_)
   clear hK K hH; have hH := hH'; clear hH'; try simp only [List.setIfInBounds_toArray, List.set]
   replace hb6 : Below W5.heap.size W5 V6 := (Below.refl _ _).drew.trans (hb6.mono (Nat.le_refl _))
   replace HM := hidp (HM.out.later hb6)
   clear hb6 A10
   have hml : n + m ≤ len := by have := HMm.out; omega
   have hnl2 : (List.map (Value.int .u8) (xorL (text.drop n) B)).length = m * 1 := by rw [List.length_map, HRx.out.hlen, Nat.mul_one]
   have hnews := HRx.out.news m
   rw [List.take_of_length_le (by rw [HRx.out.hlen]; exact Nat.le_refl _)] at hnews
   obtain ⟨V7, hrun, ho7, hg7⟩ := run_append_fits (P := Tryz.prog) V6 w.heap.size 28 28 5 i0 1 Tryz.underlying28 hi hz1 g n len _ HM.out.own ⟨gx, 0, none⟩ m m _ hnl2 hnews (bytes_oneCell _) hml
   have HO7 : Hid (V7.ownsRow w.heap.size 5 1 (.slice (some ⟨g, 0, none⟩) (n + m) len) (n + m) (List.map (Value.int .u8) ((ap key count nonce text).take (64 * k)) ++ List.map (Value.int .u8) (xorL (text.drop n) B))) := ho7
   have HG7 : Hid (V6.grownBy V7 (some g)) := hg7
   clear ho7 hg7 hnews hnl2
   refine rdy 7 (fun K hK => ?_)
   refine step_append_run rfl (.tmp 23) (.tmp 29) 28 rfl _ _ rfl rfl _ _ hrun ?_
   refine hK.out _ _ (ExtB.comp hH (extb_grown HG7.out)) (fun hH' => ?_)
   clear hK K hH; have hH := hH'; clear hH'; try simp only [List.setIfInBounds_toArray, List.set]
   clear hrun
   refine tk 8 ?_
   try simp only [Act.put, List.setIfInBounds_toArray, List.set_cons_zero, List.set_cons_succ]
   refine wpAnyH_done (by kernel_rfl) ?_ _
   refine NoPanic.normal ?_
   clear hH
   have HM7 : Hid (Ma w q1 b off g len cap key nonce text (n + m) ((ap key count nonce text).take (64 * (k + 1))) V7) := ⟨HM.out.ak.extb (extb_grown HG7.out) (by omega), HM.out.an.extb (extb_grown HG7.out) (by omega), HM.out.rd.extb (extb_grown HG7.out) (by omega), by have h := HO7.out; rw [← List.map_append, HBk.out, HD.out, hnk.out, ap_step key count nonce text k (by rw [HTL.out]; have := hnk.out; omega), ← hnk.out] at h; exact h, ExtB.below (extb_grown HG7.out) HM.out.bel (by omega)⟩
   clear HM HO7 HG7 HRx
   have HND : Hid ((d + 1) % 4294967296 = ad count ((k + 1 : Nat) : Int)) := by unfold Hid; rw [HD.out]; exact ad_next _ _
   have HNN : Hid (n + m = min (64 * (k + 1)) len) := by have h1 := HMm.out; have h2 := hnk.out; unfold Hid; omega
   have hm0 : 0 < m := by have := HMm.out; omega
   clear hnk HMm
   go_wp2
   go_roundw
   case rel => exact ⟨k + 1, n + m, (d + 1) % 4294967296, rfl, by go_num, by omega, by omega, hml, HNN, HND, HM7⟩
   case measure => simp [slen]; omega
  ·have e : n = len := by omega
   subst e
   have hfull : Hid ((ap key count nonce text).take (64 * k) = ap key count nonce text) := List.take_of_length_le (by rw [ap_len, HTL.out]; have := HN2.out; omega)
   go_wp2
   go_ret
   refine ⟨g, _, rfl, rfl, ?_, HM.out.bel⟩
   have h := HM.out.own
   rw [hfull.out] at h
   exact h

set_option maxRecDepth 8000 in
set_option maxHeartbeats 1000000 in
theorem apply_zero (key : List Int) (count : Int) (nonce : List Int) (a : Option Addr) (cap : Nat) (w : World) :
  Calls Tryz.prog 64 #[(.agg (List.map (Value.int .u8) key).toArray), .int .u32 count, (.agg (List.map (Value.int .u8) nonce).toArray), .slice a 0 cap] w fun e w' => ∃ g X, e = .returned (.slice (some ⟨g, 0, none⟩) 0 0) ∧ Hid (X = ap key count nonce []) ∧ w'.ownsRow w.heap.size 5 1 (.slice (some ⟨g, 0, none⟩) 0 0) 0 (List.map (Value.int .u8) X) ∧ Below w.heap.size w w' := by
 obtain ⟨i0, hi, hz0, hz1, hz2⟩ := info_parts info5
 go_enter Tryz.func64, Tryz.ntmps64
 go_upto_region 1 with fail
 have HB : Hid (Below w.heap.size w ((w.alloc (.cells (List.map (Value.int .u8) key).toArray 33)).alloc (.cells (List.map (Value.int .u8) nonce).toArray 81))) := bel2 _ _ _
 generalize (w.alloc (.cells (List.map (Value.int .u8) key).toArray 33)).alloc (.cells (List.map (Value.int .u8) nonce).toArray 81) = W0 at *
 go_wp2_with (at_make; refine wpList_make_own _ rfl _ _ 28 rfl w.heap.size 5 i0 (.int .u8 0) 1 Tryz.underlying28 hi hz0 hz1 _ _ _ 0 rfl rfl (by omega) (by rw [hz2]; omega) (by unfold maxLen; omega) HB.out.size ?_)
 intro W1 hown hgrow
 have hb1 : Below W0.heap.size W0 W1 := (Below.refl _ _).grown hgrow (Nat.le_refl _) (fun k h => by cases h)
 have HO : Hid (W1.ownsRow w.heap.size 5 1 (.slice (some ⟨W0.heap.size, 0, none⟩) 0 0) 0 []) := hown
 replace HB := hidp (HB.out.trans (hb1.mono HB.out.size))
 clear hown hgrow hb1
 go_wp2
 refine wp_loop_rounds 1 ?_
 rw [rounds_succ]; go_wp2
 go_ret
 exact ⟨_, [], rfl, by simp [Hid, ap, xorL, sk], HO.out, HB.out⟩
set_option maxRecDepth 8000 in
theorem apply_any (key : List Int) (count : Int) (nonce : List Int) (a : Option Addr) (len cap : Nat) (text : List Int) (hk : Bn 32 key) (hc : W32 count) (hn : Bn 12 nonce) (w : World) (hr : Rd w a len cap text) (hm : len ≤ 140737488351232) :
  Calls Tryz.prog 64 #[(.agg (List.map (Value.int .u8) key).toArray), .int .u32 count, (.agg (List.map (Value.int .u8) nonce).toArray), .slice a len cap] w fun e w' => ∃ g X, e = .returned (.slice (some ⟨g, 0, none⟩) len len) ∧ Hid (X = ap key count nonce text) ∧ w'.ownsRow w.heap.size 5 1 (.slice (some ⟨g, 0, none⟩) len len) len (List.map (Value.int .u8) X) ∧ Below w.heap.size w w' := by
 by_cases h0 : 0 < len
 ·obtain ⟨b, off, rfl, hcell⟩ := hr.cell h0
  exact apply_some key count nonce b off len cap text hk hc hn w hr (World.block_lt_of_cell? w _ (hcell 0 h0)) hm
 ·have e : len = 0 := by omega
  subst e
  have e2 : text = [] := List.eq_nil_of_length_eq_zero hr.hlen
  subst e2
  exact apply_zero key count nonce a cap w
end Go.Proofs.YtmibjgkakolhiaaGreatDoor
