/-
  Several texts of one's own, laid together. No statement of the seat is proved here.
-/
import Derived.Test.YtmibjgkakolhiaaGreatDoorPk1
import Derived.Test.YtmibjgkakolhiaaGreatDoorPk21
import Derived.Test.YtmibjgkakolhiaaGreatDoorRBlk
import Derived.Test.YtmibjgkakolhiaaGreatDoorPk8
import Derived.Test.YtmibjgkakolhiaaGreatDoorPk13
import Derived.Test.YtmibjgkakolhiaaGreatDoorA6O
import Derived.Test.YtmibjgkakolhiaaGreatDoorPk38
import Derived.Test.YtmibjgkakolhiaaGreatDoorPk15
import Derived.Test.YtmibjgkakolhiaaGreatDoorPk35
import Derived.Test.YtmibjgkakolhiaaGreatDoorPk42
/-
 What the reference's Apply does: the same text with the stream. No statement of the seat is proved here.
-/
namespace Go.Proofs.YtmibjgkakolhiaaGreatDoor
open Go.RowKit


set_option maxRecDepth 8000 in
theorem owns_below {u v : World} {base : Nat} {e : TypeId} {x : Value} {n : Nat} {xs : List Value} (h : u.ownsRow base e 1 x n xs) (hb : Below u.heap.size u v) : v.ownsRow base e 1 x n xs :=
 h.kept (w' := v) (row := none) ⟨hb.os, hb.tape, hb.output, hb.size, fun k hk _ => hb.block k hk⟩ (Classical.em _)
set_option maxRecDepth 8000 in
theorem min_take (key : List Int) (c : Int) (nonce text : List Int) (k : Nat) (h : 64 * k < text.length) (m : Nat) (hm : m = min 64 (text.length - 64 * k)) (B : List Int) (hB : B = blk key (ad c k) nonce) : (ap key c nonce text).take (64 * k) ++ xorL ((text.drop (64 * k)).take m) B = (ap key c nonce text).take (64 * (k + 1)) := by
 rw [← ap_step key c nonce text k h, ← hB]
 congr 1
 have hl : B.length = 64 := by rw [hB]; exact (blk_bn _ _ _).len
 rcases Nat.le_total 64 (text.length - 64 * k) with h1 | h1
 ·rw [show m = 64 by omega]
  exact xorL_cut _ _ 64 (by omega)
 ·rw [List.take_of_length_le (by rw [List.length_drop]; omega)]

set_option maxRecDepth 8000 in
set_option maxHeartbeats 8000000 in
theorem rapply_f (key : List Int) (count : Int) (nonce : List Int) (a : Option Addr) (len cap : Nat) (text : List Int) (hk : Bn 32 key) (hc : W32 count) (hn : Bn 12 nonce) (w : World) (hr : Rd w a len cap text) (hm : len ≤ 140737488351232) (hg : Gr w) :
  Calls Tryz.prog 58 #[(.agg (List.map (Value.int .u8) key).toArray), .int .u32 count, (.agg (List.map (Value.int .u8) nonce).toArray), .slice a len cap] w fun e w' => ∃ a' c' X, e = .returned (.slice a' len c') ∧ Hid (X = ap key count nonce text) ∧ Hid (Rd w' a' len c' X) ∧ Fr w.heap.size a' len ∧ Below w.heap.size w w' := by
 obtain ⟨i0, hi, hz0, hz1, hz2⟩ := info_parts info5
 have HK : Hid (Bn 32 key) := hk
 have HN : Hid (Bn 12 nonce) := hn
 have HTL : Hid (text.length = len) := hr.hlen
 have HTB : Hid (Byt text) := hr.byt
 have hle := hr.hle
 obtain ⟨c0, c1⟩ := hc
 clear hk hn
 obtain ⟨_, _, hiK⟩ := bn32_cells HK.out
 obtain ⟨_, _, hiN⟩ := bn12_cells HN.out
 go_enter Tryz.func58, Tryz.ntmps58
 go_upto_region 1 with fail
 obtain ⟨W0, hW0⟩ : ∃ W, W = (w.alloc (.cells (List.map (Value.int .u8) key).toArray 33)).alloc (.cells (List.map (Value.int .u8) nonce).toArray 81) := ⟨_, rfl⟩
 obtain ⟨q1, hq1⟩ : ∃ q, q = w.heap.size + 1 := ⟨_, rfl⟩
 rw [← hW0, ← hq1]
 have AK : Hid (Ar W0 w.heap.size 32 (List.map (Value.int .u8) key)) := by unfold Hid; rw [hW0]; exact (ar_box w _ 32 HK.out.map_len _).later (bel1 _ _)
 have AN : Hid (Ar W0 q1 12 (List.map (Value.int .u8) nonce)) := by unfold Hid; rw [hW0, hq1]; have := ar_box (w.alloc (.cells (List.map (Value.int .u8) key).toArray 33)) _ 12 HN.out.map_len 81; simpa using this
 have HB : Hid (Below w.heap.size w W0) := by unfold Hid; rw [hW0]; exact bel2 _ _ _
 have HR : Hid (Rd W0 a len cap text) := hr.below HB.out
 have HG : Hid (Gr W0) := hg.later HB.out
 clear hW0 hq1 hr hg
 go_wp2
 go_loopw [3, 9, 1] (fun tv v c wr => ∃ (k n r : Nat) (d : Int) (a' : Option Addr) (c' : Nat), tv = .slice a' r c' ∧ c = .int .u32 d ∧ 0 ≤ d ∧ d < 4294967296 ∧ Hid (n = min (64 * k) len) ∧ Hid (r = len - n) ∧ Hid (d = ad count k) ∧ Hid (Ext W0 wr) ∧ Hid (Rd W0 a' r c' (text.drop n)) ∧ Hid (wr.ownsRow W0.heap.size 5 1 v n (List.map (Value.int .u8) ((ap key count nonce text).take (64 * k))))) (fun tv _ _ _ => slen tv)
 case atStart => exact ⟨0, 0, len, count, a, cap, rfl, rfl, c0, c1, by simp [Hid], by simp [Hid], by unfold Hid ad; omega, Ext.refl _, HR, by have := World.ownsRow_nil W0 W0.heap.size 5 1; simpa [Hid] using this⟩
 case round =>
  obtain ⟨k, n, r, d, a', c', rfl, rfl, d0, d1, HN2, HRl, HD, HE, HT, HO⟩ := hrel
  by_cases hlt : 0 < r
  ·have g1 : (0 : Int) < r := by omega
   have hnk : Hid (n = 64 * k) := by have h1 := HN2.out; have h2 := HRl.out; unfold Hid; omega
   have hnl : n < len := by have h2 := HRl.out; omega
   have hrl : r ≤ len := by have h2 := HRl.out; omega
   obtain ⟨b, off, rfl, hcell⟩ := HT.out.cell hlt
   clear hcell
   have AK' := AK.out.later HE.out
   have AN' := AN.out.later HE.out
   go_wp2_with (first
    | (refine wpList_load_mid rfl 33 (.tmp 4) rfl (w.heap.size) 0 rfl (List.map (Value.int .u8) key) _ AK'.rng Tryz.underlying33 rfl hiK ?_)
    | (refine wpList_load_mid rfl 81 (.tmp 6) rfl q1 0 rfl (List.map (Value.int .u8) nonce) _ AN'.rng Tryz.underlying81 rfl hiN ?_))
   clear AK' AN'
   refine (rblock_c key d nonce HK.out ⟨d0, d1⟩ HN.out _ (HG.out.later HE.out)).mono ?_
   rintro e V ⟨B, rfl, HBk, hB, hb⟩
   have HBn : Hid (Bn 64 B) := hB
   replace HO : Hid (V.ownsRow W0.heap.size 5 1 _ n (List.map (Value.int .u8) ((ap key count nonce text).take (64 * k)))) := owns_below HO.out hb
   replace HE : Hid (Ext W0 V) := Ext.trans HE.out hb
   clear hb hB
   obtain ⟨hlen, hone, hi2⟩ := bn64_cells HBn.out
   obtain ⟨cs, HC⟩ : ∃ cs, Hid (cs = (List.map (Value.int .u8) B)) := ⟨_, rfl⟩
   rw [← HC.out] at hlen hone hi2 ⊢
   have hth := there_new V 64 zb64 rfl 90
   have hcc := HT.out.hle
   by_cases h64 : 64 ≤ r
   ·have g64 : ¬ (r : Int) < 64 := by omega
    go_upto_region 5 with (refine wpList_store_mid rfl 90 (.tmp 10) (.tmp 18) rfl (V.heap.size) 0 cs.toArray rfl rfl (by simpa [hlen] using hth) (by simpa using hi2) (all_oneCell_toArray hone) ?_)
    clear hth
    obtain ⟨W5, hW5⟩ : ∃ W, W = (V.alloc (.cells zb64 90)).setCells V.heap.size 0 cs := ⟨_, rfl⟩
    obtain ⟨b10, hb10⟩ : ∃ b, b = V.heap.size := ⟨_, rfl⟩
    rw [← hW5, ← hb10]
    have A10 : Hid (Ar W5 b10 64 (List.map (Value.int .u8) B)) := by unfold Hid; rw [hW5, hb10, ← HC.out]; exact ar_var V _ 64 rfl _ _ hlen
    have hbl : Below V.heap.size V W5 := by rw [hW5]; exact bel_var _ _ _ _
    replace HO : Hid (W5.ownsRow W0.heap.size 5 1 _ n (List.map (Value.int .u8) ((ap key count nonce text).take (64 * k)))) := owns_below HO.out hbl
    replace HE : Hid (Ext W0 W5) := Ext.trans HE.out hbl
    clear hbl hW5 hb10 hlen hone hi2 HC
    have gmc : (64 : Int) ≤ c' := by omega
    have gmr : (64 : Int) ≤ r := by omega
    refine wp_region_noPanic ?_
    refine wp_region_held_drew (S := Ext W0) (by kernel_rfl) HE.out.drew (fun hH => ?_)
    change wpAnyH _ _ _ _ _ _ #[false, false, false, false, false, false, false, false] _ _
    refine tk 0 ?_
    try simp only [Act.put, List.setIfInBounds_toArray, List.set_cons_zero, List.set_cons_succ]
    refine tk 1 ?_
    try simp only [Act.put, List.setIfInBounds_toArray, List.set_cons_zero, List.set_cons_succ]
    refine tk 2 ?_
    try simp only [Act.put, List.setIfInBounds_toArray, List.set_cons_zero, List.set_cons_succ]
    refine tk 3 ?_
    try simp only [Act.put, List.setIfInBounds_toArray, List.set_cons_zero, List.set_cons_succ]
    refine tk 4 ?_
    try simp only [Act.put, List.setIfInBounds_toArray, List.set_cons_zero, List.set_cons_succ]
    refine rdy 5 (fun K hK => ?_)
    go_simp
    refine (refxor_g (some ⟨b, off, none⟩) 64 c' ((text.drop n).take 64) (some ⟨b10, 0, none⟩) 64 64 B _ ((HT.out.below hH).cut 64 (by omega)) (A10.out.drew.rd_all HBn.out.byt 64 (by decide)) (by omega) (by decide)).mono ?_
    rintro e V6 ⟨ax, m', cx, rfl, hRx, hb6⟩
    refine hK.out _ _ (Ext.trans hH hb6) (fun hH' => ?_)
    clear hK K hH; have hH := hH'; clear hH'; try simp only [List.setIfInBounds_toArray, List.set]
    replace hb6 : Below W5.heap.size W5 V6 := (Below.refl _ _).drew.trans (hb6.mono (Nat.le_refl _))
    replace HO : Hid (V6.ownsRow W0.heap.size 5 1 _ n (List.map (Value.int .u8) ((ap key count nonce text).take (64 * k)))) := owns_below HO.out hb6
    clear hb6 A10
    have hm' : m' = 64 := by rw [← hRx.hlen, xorL_length, List.length_take, List.length_drop, HTL.out, HBn.out.len]; have := HRl.out; omega
    rw [hm'] at hRx ⊢
    clear hm' m'
    obtain ⟨bx, ox, rfl, hcx⟩ := hRx.cell (by omega)
    clear hcx
    have hnews := hRx.news 64
    rw [List.take_of_length_le (by rw [hRx.hlen]; exact Nat.le_refl _)] at hnews
    obtain ⟨v7, V7, hrun, ho7, hg7, _⟩ := run_append_own (P := Tryz.prog) V6 W0.heap.size 28 28 5 i0 (.int .u8 0) 1 1 Tryz.underlying28 hi hz0 hz1 hz2 rfl (by decide) _ n _ HO.out ⟨bx, ox, none⟩ 64 cx _ (by rw [List.length_map, hRx.hlen, Nat.mul_one]) hnews (bytes_oneCell _) (by unfold maxLen; omega) (by omega) hH.size
    have HB7 : Hid (Below W0.heap.size W0 V7) := Below.grown hH hg7 hH.size (fun j hj => (HO.out.lt j hj).1)
    have HO7 : Hid (V7.ownsRow W0.heap.size 5 1 v7 (n + 64) (List.map (Value.int .u8) ((ap key count nonce text).take (64 * k)) ++ List.map (Value.int .u8) (xorL ((text.drop n).take 64) B))) := ho7
    clear ho7 hg7 hnews hRx HO
    refine rdy 6 (fun K hK => ?_)
    refine step_append_run rfl (.tmp 22) (.tmp 27) 28 rfl _ _ rfl rfl _ _ hrun ?_
    refine hK.out _ _ HB7.out (fun hH' => ?_)
    clear hK K hH; have hH := hH'; clear hH'; try simp only [List.setIfInBounds_toArray, List.set]
    clear hrun
    refine tk 7 ?_
    try simp only [Act.put, List.setIfInBounds_toArray, List.set_cons_zero, List.set_cons_succ]
    refine wpAnyH_done (by kernel_rfl) ?_ _
    refine NoPanic.normal ?_
    clear hH
    have HM : Hid (64 = min 64 (len - 64 * k)) := by have h1 := HRl.out; have h2 := hnk.out; unfold Hid; omega
    have HO8 : Hid (V7.ownsRow W0.heap.size 5 1 v7 (n + 64) (List.map (Value.int .u8) ((ap key count nonce text).take (64 * (k + 1))))) := by
     have h := HO7.out
     have e2 := hnk.out
     rw [← List.map_append, e2, min_take key count nonce text k (by rw [HTL.out]; omega) 64 (by rw [HTL.out]; exact HM.out) B (by rw [HBk.out, HD.out]), ← e2] at h
     exact h
    have HT8 := HT.out.rest 64 (by omega)
    rw [List.drop_drop] at HT8
    obtain ⟨a8, ha8⟩ : ∃ x, (if c' = 64 then some (⟨b, off, none⟩ : Addr) else some ⟨b, off + 64, none⟩) = x := ⟨_, rfl⟩
    rw [ha8] at HT8
    have HT9 : Hid _ := HT8
    clear HT8 HO7 HT
    have HND : Hid ((d + 1) % 4294967296 = ad count ((k + 1 : Nat) : Int)) := by unfold Hid; rw [HD.out]; exact ad_next _ _
    have HNN : Hid (n + 64 = min (64 * (k + 1)) len) := by have h1 := HRl.out; have h2 := hnk.out; unfold Hid; omega
    have HRN : Hid (r - 64 = len - (n + 64)) := by have h1 := HRl.out; unfold Hid; omega
    go_wp2
    go_roundw
    case rel => exact ⟨k + 1, n + 64, r - 64, (d + 1) % 4294967296, a8, c' - 64, rfl, by go_num, by omega, by omega, HNN, HRN, HND, HB7, HT9, HO8⟩
    case measure => simp [slen]; omega
   ·have g64 : (r : Int) < 64 := by omega
    go_upto_region 5 with (refine wpList_store_mid rfl 90 (.tmp 10) (.tmp 18) rfl (V.heap.size) 0 cs.toArray rfl rfl (by simpa [hlen] using hth) (by simpa using hi2) (all_oneCell_toArray hone) ?_)
    clear hth
    obtain ⟨W5, hW5⟩ : ∃ W, W = (V.alloc (.cells zb64 90)).setCells V.heap.size 0 cs := ⟨_, rfl⟩
    obtain ⟨b10, hb10⟩ : ∃ b, b = V.heap.size := ⟨_, rfl⟩
    rw [← hW5, ← hb10]
    have A10 : Hid (Ar W5 b10 64 (List.map (Value.int .u8) B)) := by unfold Hid; rw [hW5, hb10, ← HC.out]; exact ar_var V _ 64 rfl _ _ hlen
    have hbl : Below V.heap.size V W5 := by rw [hW5]; exact bel_var _ _ _ _
    replace HO : Hid (W5.ownsRow W0.heap.size 5 1 _ n (List.map (Value.int .u8) ((ap key count nonce text).take (64 * k)))) := owns_below HO.out hbl
    replace HE : Hid (Ext W0 W5) := Ext.trans HE.out hbl
    clear hbl hW5 hb10 hlen hone hi2 HC
    have gmc : (r : Int) ≤ c' := by omega
    have gmr : (r : Int) ≤ r := by omega
    refine wp_region_noPanic ?_
    refine wp_region_held_drew (S := Ext W0) (by kernel_rfl) HE.out.drew (fun hH => ?_)
    change wpAnyH _ _ _ _ _ _ #[false, false, false, false, false, false, false, false] _ _
    refine tk 0 ?_
    try simp only [Act.put, List.setIfInBounds_toArray, List.set_cons_zero, List.set_cons_succ]
    refine tk 1 ?_
    try simp only [Act.put, List.setIfInBounds_toArray, List.set_cons_zero, List.set_cons_succ]
    refine tk 2 ?_
    try simp only [Act.put, List.setIfInBounds_toArray, List.set_cons_zero, List.set_cons_succ]
    refine tk 3 ?_
    try simp only [Act.put, List.setIfInBounds_toArray, List.set_cons_zero, List.set_cons_succ]
    refine tk 4 ?_
    try simp only [Act.put, List.setIfInBounds_toArray, List.set_cons_zero, List.set_cons_succ]
    refine rdy 5 (fun K hK => ?_)
    go_simp
    refine (refxor_g (some ⟨b, off, none⟩) r c' ((text.drop n).take r) (some ⟨b10, 0, none⟩) 64 64 B _ ((HT.out.below hH).cut r (by omega)) (A10.out.drew.rd_all HBn.out.byt 64 (by decide)) (by omega) (by decide)).mono ?_
    rintro e V6 ⟨ax, m', cx, rfl, hRx, hb6⟩
    refine hK.out _ _ (Ext.trans hH hb6) (fun hH' => ?_)
    clear hK K hH; have hH := hH'; clear hH'; try simp only [List.setIfInBounds_toArray, List.set]
    replace hb6 : Below W5.heap.size W5 V6 := (Below.refl _ _).drew.trans (hb6.mono (Nat.le_refl _))
    replace HO : Hid (V6.ownsRow W0.heap.size 5 1 _ n (List.map (Value.int .u8) ((ap key count nonce text).take (64 * k)))) := owns_below HO.out hb6
    clear hb6 A10
    have hm' : m' = r := by rw [← hRx.hlen, xorL_length, List.length_take, List.length_drop, HTL.out, HBn.out.len]; have := HRl.out; omega
    rw [hm'] at hRx ⊢
    clear hm' m'
    obtain ⟨bx, ox, rfl, hcx⟩ := hRx.cell (by omega)
    clear hcx
    have hnews := hRx.news r
    rw [List.take_of_length_le (by rw [hRx.hlen]; exact Nat.le_refl _)] at hnews
    obtain ⟨v7, V7, hrun, ho7, hg7, _⟩ := run_append_own (P := Tryz.prog) V6 W0.heap.size 28 28 5 i0 (.int .u8 0) 1 1 Tryz.underlying28 hi hz0 hz1 hz2 rfl (by decide) _ n _ HO.out ⟨bx, ox, none⟩ r cx _ (by rw [List.length_map, hRx.hlen, Nat.mul_one]) hnews (bytes_oneCell _) (by unfold maxLen; omega) (by omega) hH.size
    have HB7 : Hid (Below W0.heap.size W0 V7) := Below.grown hH hg7 hH.size (fun j hj => (HO.out.lt j hj).1)
    have HO7 : Hid (V7.ownsRow W0.heap.size 5 1 v7 (n + r) (List.map (Value.int .u8) ((ap key count nonce text).take (64 * k)) ++ List.map (Value.int .u8) (xorL ((text.drop n).take r) B))) := ho7
    clear ho7 hg7 hnews hRx HO
    refine rdy 6 (fun K hK => ?_)
    refine step_append_run rfl (.tmp 22) (.tmp 27) 28 rfl _ _ rfl rfl _ _ hrun ?_
    refine hK.out _ _ HB7.out (fun hH' => ?_)
    clear hK K hH; have hH := hH'; clear hH'; try simp only [List.setIfInBounds_toArray, List.set]
    clear hrun
    refine tk 7 ?_
    try simp only [Act.put, List.setIfInBounds_toArray, List.set_cons_zero, List.set_cons_succ]
    refine wpAnyH_done (by kernel_rfl) ?_ _
    refine NoPanic.normal ?_
    clear hH
    have HM : Hid (r = min 64 (len - 64 * k)) := by have h1 := HRl.out; have h2 := hnk.out; unfold Hid; omega
    have HO8 : Hid (V7.ownsRow W0.heap.size 5 1 v7 (n + r) (List.map (Value.int .u8) ((ap key count nonce text).take (64 * (k + 1))))) := by
     have h := HO7.out
     have e2 := hnk.out
     rw [← List.map_append, e2, min_take key count nonce text k (by rw [HTL.out]; omega) r (by rw [HTL.out]; exact HM.out) B (by rw [HBk.out, HD.out]), ← e2] at h
     exact h
    have HT8 := HT.out.rest r (by omega)
    rw [List.drop_drop] at HT8
    obtain ⟨a8, ha8⟩ : ∃ x, (if c' = r then some (⟨b, off, none⟩ : Addr) else some ⟨b, off + r, none⟩) = x := ⟨_, rfl⟩
    rw [ha8] at HT8
    rw [Nat.sub_self] at HT8
    have HT9 : Hid _ := HT8
    clear HT8 HO7 HT
    have HND : Hid ((d + 1) % 4294967296 = ad count ((k + 1 : Nat) : Int)) := by unfold Hid; rw [HD.out]; exact ad_next _ _
    have HNN : Hid (n + r = min (64 * (k + 1)) len) := by have h1 := HRl.out; have h2 := hnk.out; unfold Hid; omega
    have HRN : Hid (0 = len - (n + r)) := by have h1 := HRl.out; unfold Hid; omega
    go_wp2
    go_roundw
    case rel => exact ⟨k + 1, n + r, 0, (d + 1) % 4294967296, a8, c' - r, rfl, by go_num, by omega, by omega, HNN, HRN, HND, HB7, HT9, HO8⟩
    case measure => simp [slen]; omega
  ·have e : r = 0 := by omega
   subst e
   have hfull : Hid ((ap key count nonce text).take (64 * k) = ap key count nonce text) := List.take_of_length_le (by rw [ap_len, HTL.out]; have h1 := HN2.out; have h2 := HRl.out; omega)
   have hnl : Hid (n = len) := by have h1 := HN2.out; have h2 := HRl.out; unfold Hid; omega
   go_wp2
   go_ret
   have h := HO.out
   rw [hfull.out, hnl.out] at h
   obtain ⟨x, y, rfl⟩ := owns_shape h
   exact ⟨x, y, _, rfl, rfl, Rd.owns (ap_byt _ _ _ HTB.out) h, (fr_owns h).mono HB.out.size, HB.out.trans (Below.mono HE.out HB.out.size)⟩
set_option maxRecDepth 8000 in
theorem rapply_c (key : List Int) (count : Int) (nonce : List Int) (a : Option Addr) (len cap : Nat) (text : List Int) (hk : Bn 32 key) (hc : W32 count) (hn : Bn 12 nonce) (w : World) (hr : Rd w a len cap text) (hm : len ≤ 140737488351232) (hg : Gr w) :
  Calls Tryz.prog 58 #[(.agg (List.map (Value.int .u8) key).toArray), .int .u32 count, (.agg (List.map (Value.int .u8) nonce).toArray), .slice a len cap] w fun e w' => ∃ a' c' X, e = .returned (.slice a' len c') ∧ Hid (X = ap key count nonce text) ∧ Hid (Rd w' a' len c' X) ∧ Below w.heap.size w w' := by
 refine (rapply_f key count nonce a len cap text hk hc hn w hr hm hg).mono ?_
 rintro e w' ⟨a', c', X, rfl, h1, h2, -, h3⟩
 exact ⟨a', c', X, rfl, h1, h2, h3⟩
end Go.Proofs.YtmibjgkakolhiaaGreatDoor
/-
 An append of whatever bytes to a slice of one's own; picks of any number. No statement of the seat is proved here.
-/
namespace Go.Proofs.YtmibjgkakolhiaaGreatDoor
open Go.RowKit

set_option maxRecDepth 8000 in
set_option maxHeartbeats 1000000 in
theorem pick_big (n m : Int) (hn : -9223372036854775808 ≤ n ∧ n ≤ 9223372036854775807) (hm : 1 ≤ m ∧ m ≤ 1099511627776) (w : World) :
  Calls Tryz.prog 7 #[.int .i64 n, .int .i64 m] w fun e w' => ∃ k, e = .returned (.int .i64 k) ∧ 0 ≤ k ∧ k < m ∧ w' = w := by
 obtain ⟨n0, n1⟩ := hn
 obtain ⟨m0, m1⟩ := hm
 have hl : n.tmod m < m := Int.tmod_lt_of_pos n (by omega)
 have hg : -m < n.tmod m := by
  have := Int.lt_tmod_of_pos n (show 0 < m by omega)
  omega
 by_cases h : 0 ≤ n.tmod m
 ·go_enter Tryz.func7, Tryz.ntmps7
  go_wp2
  go_ret
  exact ⟨_, rfl, h, hl, rfl⟩
 ·go_enter Tryz.func7, Tryz.ntmps7
  go_wp2
  go_ret
  exact ⟨_, rfl, by omega, by omega, rfl⟩
end Go.Proofs.YtmibjgkakolhiaaGreatDoor
/-
 What the reference's Put64, Nonce and fill do. No statement of the seat is proved here.
-/
namespace Go.Proofs.YtmibjgkakolhiaaGreatDoor
open Go.RowKit

set_option maxRecDepth 8000 in
set_option maxHeartbeats 1000000 in
theorem rput64_c (n : Int) (w : World) (h0 : 0 ≤ n) (h1 : n < 18446744073709551616) :
  Calls Tryz.prog 60 #[.int .u64 n] w fun e w' => ∃ g c, e = .returned (.slice (some ⟨g, 0, none⟩) 8 c) ∧ Hid (Rd w' (some ⟨g, 0, none⟩) 8 c (lay 8 n)) ∧ w.heap.size ≤ g ∧ Below w.heap.size w w' := by
 go_enter Tryz.func60, Tryz.ntmps60
 go_wp2_with fail
 refine (refput32_any _ _ (by omega) (by omega)).mono ?_
 rintro e w1 ⟨rfl, ho1, hb1⟩
 have HB : Hid (Below w.heap.size w w1) := hb1
 have HO : Hid (w1.ownsRow w.heap.size 5 1 (.slice (some ⟨w.heap.size, 0, none⟩) 4 4) 4 (List.map (Value.int .u8) (lay 4 (n % 4294967296)))) := ho1
 clear ho1 hb1
 go_wp2_with fail
 refine (refput32_any _ _ (by omega) (by omega)).mono ?_
 rintro e w2 ⟨rfl, ho2, hb2⟩
 replace HO : Hid (w2.ownsRow w.heap.size 5 1 (.slice (some ⟨w.heap.size, 0, none⟩) 4 4) 4 (List.map (Value.int .u8) (lay 4 (n % 4294967296)))) := own_later HO.out hb2
 have HR : Hid (Rd w2 (some ⟨w1.heap.size, 0, none⟩) 4 4 (lay 4 (n / 4294967296))) := Rd.owns (lay_byt _ _) ho2
 replace HB := hidp (HB.out.trans (hb2.mono HB.out.size))
 clear ho2 hb2
 go_wp2_with (at_builtin; refine wpList_app_l rfl (.tmp 5) (.tmp 9) rfl w.heap.size _ 4 (lay 4 (n % 4294967296)) rfl HO.out _ 4 4 (lay 4 (n / 4294967296)) rfl HR.out (by decide) HB.out.size ?_)
 intro v' w3 hown hb3
 obtain ⟨a, c, rfl⟩ := owns_shape hown
 obtain ⟨g, rfl, hg, -⟩ := owns_block hown (by decide)
 have e : lay 4 (n % 4294967296) ++ lay 4 (n / 4294967296) = lay 8 n := by
  simp only [lay, List.cons_append, List.nil_append, List.cons.injEq, and_true]
  refine ⟨?_, ?_, ?_, ?_, ?_, ?_, ?_, ?_⟩ <;> omega
 rw [← List.map_append, e] at hown
 have HR8 : Hid (Rd w3 (some ⟨g, 0, none⟩) 8 c (lay 8 n)) := rd_own (lay_byt _ _) hown
 replace HB := hidp (HB.out.trans hb3)
 clear hown hb3 HO HR e
 go_wp2
 go_ret
 exact ⟨g, c, rfl, HR8, hg, HB.out⟩

set_option maxRecDepth 8000 in
set_option maxHeartbeats 2000000 in
theorem rnonce_c (m : Int) (h0 : 0 ≤ m) (h1 : m < 18446744073709551616) (w : World) :
  Calls Tryz.prog 45 #[.int .u64 m] w fun e w' => ∃ N, e = .returned (.agg (List.map (Value.int .u8) N).toArray) ∧ Hid (N = nn6 m) ∧ Hid (Bn 12 N) ∧ Below w.heap.size w w' := by
 go_enter Tryz.func45, Tryz.ntmps45
 go_upto_region 2 with fail
 have AD : Hid (((w.alloc (.cells zb12 81)).alloc (.cells zb12 81)).there w.heap.size 0 12) := there_later (bel1 _ _) (there_new w 12 zb12 rfl 81)
 have A3 : Hid (Ar ((w.alloc (.cells zb12 81)).alloc (.cells zb12 81)) (w.heap.size + 1) 12 (List.map (Value.int .u8) (List.replicate 12 0))) := by have := ar_box (w.alloc (.cells zb12 81)) (List.map (Value.int .u8) (List.replicate 12 0)) 12 rfl 81; simpa [Hid] using this
 have HB : Hid (Below w.heap.size w ((w.alloc (.cells zb12 81)).alloc (.cells zb12 81))) := bel2 _ _ _
 generalize ((w.alloc (.cells zb12 81)).alloc (.cells zb12 81)) = W at *
 have k1 : w.heap.size < w.heap.size + 1 := by omega
 generalize w.heap.size + 1 = b3 at *
 go_wp2_with fail
 refine (rput64_c m _ h0 h1).mono ?_
 rintro e V ⟨g, c, rfl, HP, hg, hb⟩
 have hne : g ≠ b3 := by have := A3.out.lt (by decide); omega
 replace AD : Hid (V.there w.heap.size 0 12) := there_later hb AD.out
 replace A3 := hidp (A3.out.later hb)
 replace HB := hidp (HB.out.trans (hb.mono HB.out.size))
 clear hb
 have A4 : Hid (Ar V b3 12 (List.map (Value.int .u8) ((nn6 m).take (4 + 0) ++ (List.replicate 12 0).drop (4 + 0)))) := A3.out
 clear A3
 go_wp2
 go_loopw [5] (fun iv wr => ∃ j : Nat, j ≤ 8 ∧ iv = .int .i64 j ∧ Hid (Ar wr b3 12 (List.map (Value.int .u8) ((nn6 m).take (4 + j) ++ (List.replicate 12 0).drop (4 + j)))) ∧ Hid (wr.there w.heap.size 0 12) ∧ Hid (Rd wr (some ⟨g, 0, none⟩) 8 c (lay 8 m)) ∧ Hid (Below w.heap.size w wr)) (fun iv _ => 8 - (intOf iv).toNat)
 case atStart => exact ⟨0, Nat.zero_le _, rfl, A4, AD, HP, HB⟩
 case round =>
  clear A4 AD HP HB
  obtain ⟨j, hj, rfl, A4, AD, HP, HB⟩ := hrel
  by_cases hlt : j < 8
  ·have g1 : (j : Int) < 8 := by omega
   have htn : (j : Int).toNat = j := by omega
   have ht4 : (4 : Int) + (j : Int) = ((4 + j : Nat) : Int) := by omega
   obtain ⟨i4, hi4⟩ : ∃ i, i = 4 + j := ⟨_, rfl⟩
   rw [← hi4] at ht4
   have ht5 : (i4 : Int).toNat = i4 := by omega
   have ht6 : (i4 : Int) < 12 := by omega
   obtain ⟨b', off', ha', hcell⟩ := HP.out.cell (by decide)
   cases ha'
   have cj := hcell j hlt
   rw [Nat.zero_add] at cj
   obtain ⟨x, hx⟩ : ∃ x, x = (lay 8 m)[j]?.getD 0 := ⟨_, rfl⟩
   rw [← hx] at cj
   have hxs : (nn6 m)[i4]? = some x := by
    unfold nn6
    rw [List.getElem?_append_right (by simp; omega), hx, hi4]
    simp only [List.length_replicate]
    rw [show 4 + j - 4 = j by omega, List.getElem?_eq_getElem (by rw [lay_length]; exact hlt)]
    rfl
   have HXS : Hid ((nn6 m)[i4]? = some x) := hxs
   clear hcell hx hxs
   obtain ⟨cy, fy⟩ := A4.out.cell i4 (by omega)
   have HI4 : Hid (i4 = 4 + j) := hi4
   clear hi4
   go_wp2
   go_roundw
   case rel => exact ⟨j + 1, by omega, by go_num, by
    have := A4.out.set i4 (by have := HI4.out; omega) (.int .u8 x)
    rw [← List.map_set, ← HI4.out, half2_set _ _ i4 x HXS.out (by have := HI4.out; simp; omega)] at this
    rw [show 4 + (j + 1) = i4 + 1 by have := HI4.out; omega]
    exact this, there_set AD.out _ _ _, HP.out.extb ((ExtB.refl _ _).set _ _) hne, HB.out.setCell (p := ⟨b3, i4, none⟩) (by dsimp only; omega) _⟩
   case measure => simp [intOf]; omega
  ·have e : j = 8 := by omega
   subst e
   have A5 : Hid (Ar wr b3 12 (List.map (Value.int .u8) (nn6 m))) := by
    have := A4.out
    rwa [List.take_of_length_le (by rw [(nn6_bn m).len]; decide), List.drop_eq_nil_of_le (by decide), List.append_nil] at this
   clear A4 HP hlt hj
   go_upto_region 7 with fail
   generalize wr = Y at *
   obtain ⟨hlenE, honeE, hiE⟩ := bn12_cells (nn6_bn m)
   obtain ⟨csE, hcs⟩ : ∃ cs, cs = (List.map (Value.int .u8) (nn6 m)) := ⟨_, rfl⟩
   have HE : Hid (csE = (List.map (Value.int .u8) (nn6 m))) := hcs
   have hrE := A5.out.rng
   rw [← hcs] at hlenE honeE hiE hrE
   clear hcs
   go_wp2_with (first
    | (refine wpList_load_mid rfl 81 (.tmp 3) rfl b3 0 rfl csE _ hrE Tryz.underlying81 rfl hiE ?_)
    | (refine wpList_store_mid rfl 81 (.tmp 2) (.tmp 19) rfl w.heap.size 0 csE.toArray rfl rfl (by simpa [hlenE] using AD.out) (by simpa using hiE) (all_oneCell_toArray honeE) ?_))
   have HR2 : Hid ((Y.setCells w.heap.size 0 csE).rangeAt w.heap.size 0 csE) := World.rangeAt_setCells_same _ _ _ _ (by rw [hlenE]; exact AD.out)
   have hld := run_loadVar_mid (P := Tryz.prog) _ _ 0 81 _ _ HR2.out Tryz.underlying81 rfl hiE
   exact bodyPost_ret (v := .agg csE.toArray) (by simp [results, Tryz.results45]; exact hld) rfl ⟨nn6 m, by rw [HE.out], rfl, nn6_bn m, below_setCells _ (by omega) _ _ _ HB.out⟩
set_option maxRecDepth 8000 in
set_option maxHeartbeats 2000000 in
theorem rfill_c (a : Option Addr) (len cap : Nat) (l : List Int) (w : World) (hr : Rd w a len cap l) (hm : len ≤ 549755813888) :
  Calls Tryz.prog 71 #[.slice a len cap] w fun e w' => ∃ a' m c' X, e = .returned (.slice a' m c') ∧ Hid (m = len + fl6 len) ∧ Hid (X = l ++ List.replicate (fl6 l.length) 0) ∧ Hid (w'.ownsRow w.heap.size 5 1 (.slice a' m c') m (List.map (Value.int .u8) X)) ∧ Below w.heap.size w w' := by
 have HR : Hid (Rd (w.alloc (.cells #[] 5)) a len cap l) := hr.alloc _
 have HL : Hid (l.length = len) := hr.hlen
 have HY : Hid (Byt l) := hr.byt
 have HO : Hid ((w.alloc (.cells #[] 5)).ownsRow w.heap.size 5 1 (.slice (some ⟨w.heap.size, 0, none⟩) 0 0) 0 (List.map (Value.int .u8) [])) := World.ownsRow_made w #[] 0 (Nat.le_refl _) (by decide) rfl
 clear hr
 go_enter Tryz.func71, Tryz.ntmps71
 go_wp2_with (at_builtin; refine wpList_app_l rfl (.tmp 4) (.tmp 5) rfl w.heap.size _ 0 [] rfl HO.out a len cap l rfl HR.out (by omega) (by simp) ?_)
 intro v1 W1 hown hb1
 obtain ⟨a1, c1, rfl⟩ := owns_shape hown
 have HO1 : Hid (W1.ownsRow w.heap.size 5 1 (.slice a1 len c1) len (List.map (Value.int .u8) (l ++ List.replicate 0 0))) := by unfold Hid; rw [List.replicate_zero, List.append_nil]; exact hown
 have HB : Hid (Below w.heap.size w W1) := (bel1 _ _).trans hb1
 clear hown hb1 HO HR
 obtain ⟨F0, hF0⟩ : ∃ f, f = fl6 len := ⟨_, rfl⟩
 have HF : Hid (F0 = fl6 len) := hF0
 have hF16 : F0 < 16 := by rw [hF0]; exact fl6_lt len
 clear hF0
 go_wp2
 go_loopw [3] (fun v wr => ∃ (j m : Nat) (a' : Option Addr) (c' : Nat), v = .slice a' m c' ∧ j ≤ F0 ∧ Hid (m = len + j) ∧ Hid (wr.ownsRow w.heap.size 5 1 (.slice a' m c') m (List.map (Value.int .u8) (l ++ List.replicate j 0))) ∧ Hid (Below w.heap.size w wr)) (fun v _ => len + F0 - slen v)
 case atStart => exact ⟨0, len, a1, c1, rfl, Nat.zero_le _, rfl, HO1, HB⟩
 case round =>
  clear HO1 HB
  obtain ⟨j, m, a', c', rfl, hj, HM, HO, HB⟩ := hrel
  have hm2 : m ≤ 549755813904 := by have := HM.out; omega
  by_cases hlt : j < F0
  ·obtain ⟨p, hp⟩ : ∃ p, p = m % 16 := ⟨_, rfl⟩
   have hp1 : Int.tmod (m : Int) 16 = (p : Int) := by rw [Int.tmod_eq_emod_of_nonneg (by omega)]; omega
   have hp0 : 0 < p := by
    have h1 := HM.out
    have h2 := HF.out
    unfold fl6 at h2
    omega
   have hp2 : (0 : Int) < (p : Int) := by omega
   clear hp
   have HR1 : Hid (Rd (wr.alloc (.cells #[.int .u8 0] 5)) (some ⟨wr.heap.size, 0, none⟩) 1 1 [0]) := Rd.laid wr [0] (byt_zero 1) 5 1 (by decide) #[.int .u8 0] (fun i hi => by match i, hi with | 0, _ => rfl)
   go_wp2_with (at_builtin; refine wpList_app_l rfl (.tmp 11) (.tmp 12) rfl w.heap.size _ m (l ++ List.replicate j 0) rfl (HO.out.alloc _) _ 1 1 [0] rfl HR1.out (by omega) (by have := HB.out.size; simp; omega) ?_)
   intro v2 W2 hown hb2
   obtain ⟨a2, c2, rfl⟩ := owns_shape hown
   have HO2 : Hid (W2.ownsRow w.heap.size 5 1 (.slice a2 (m + 1) c2) (m + 1) (List.map (Value.int .u8) (l ++ List.replicate (j + 1) 0))) := by unfold Hid; simpa [List.replicate_succ'] using hown
   have HB2 : Hid (Below w.heap.size w W2) := (HB.out.alloc HB.out.size _).trans hb2
   clear hown hb2 HO HB HR1 hp1
   go_wp2
   go_roundw
   case rel => exact ⟨j + 1, m + 1, a2, c2, rfl, by omega, by have := HM.out; unfold Hid; omega, HO2, HB2⟩
   case measure => have := HM.out; simp [slen]; omega
  ·have e : j = F0 := by omega
   subst e
   have hp1 : Int.tmod (m : Int) 16 = 0 := by
    rw [Int.tmod_eq_emod_of_nonneg (by omega)]
    have h1 := HM.out
    have h2 := HF.out
    unfold fl6 at h2
    omega
   go_wp2
   go_ret
   exact ⟨a', m, c', (l ++ List.replicate j 0), rfl, by unfold Hid; rw [HM.out, HF.out], by unfold Hid; rw [HF.out, HL.out], HO, HB.out⟩
end Go.Proofs.YtmibjgkakolhiaaGreatDoor
