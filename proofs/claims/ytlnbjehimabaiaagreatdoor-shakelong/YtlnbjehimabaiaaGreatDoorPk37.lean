/-
  Several texts of one's own, laid together. No statement of the seat is proved here.
-/
import Derived.Test.YtlnbjehimabaiaaGreatDoorPk1
import Derived.Test.YtlnbjehimabaiaaGreatDoorPk9
import Derived.Test.YtlnbjehimabaiaaGreatDoorPk35
import Derived.Test.YtlnbjehimabaiaaGreatDoorPk16
/-
 What kdf's filled does: a key as a block. No statement of the seat is proved here.
-/
namespace Go.Proofs.YtlnbjehimabaiaaGreatDoor
open Go.RowKit
set_option maxRecDepth 8000

set_option maxHeartbeats 4000000 in
theorem filled_c (a : Option Addr) (len cap : Nat) (l : List Int) (w : World) (hr : Rd w a len cap l) (hg : Gb w) (hlen : len ≤ 4611686018427387904) :
  Calls Tryz.prog 142 #[.slice a len cap] w fun e w' => ∃ B, e = .returned (.agg (List.map (Value.int .u8) B).toArray) ∧ Hid (B = kp8 l) ∧ Below w.heap.size w w' := by
 have HR : Hid (Rd w a len cap l) := hr
 have HG : Hid (Gb w) := hg
 have HLL : Hid (l.length = len) := hr.hlen
 have HB8 : Hid (Byt l) := hr.byt
 clear hr hg
 go_enter Tryz.func142, Tryz.ntmps142
 go_upto_region 1 with fail
 have HD : Hid ((w.alloc (.cells zb64 163)).there w.heap.size 0 64) := by unfold Hid; exact there_new _ 64 _ rfl _
 have HB : Hid (Below w.heap.size w (w.alloc (.cells zb64 163))) := bel1 _ _
 obtain ⟨W0, hW0⟩ : ∃ W, W = (w.alloc (.cells zb64 163)) := ⟨_, rfl⟩
 obtain ⟨q2, hq2⟩ : ∃ q, q = w.heap.size := ⟨_, rfl⟩
 rw [← hW0] at HD HB ⊢
 have HQ : Hid (q2 = w.heap.size) := hq2
 rw [← hq2] at HD ⊢
 have k1 : q2 < W0.heap.size := there_lt HD.out (by decide)
 clear hW0 hq2
 replace HR := hidp (HR.out.below HB.out)
 replace HG := hidp (HG.out.later HB.out)
 go_upto_if 7 with fail
 go_cut [0] from 7 (fun v wx => ∃ (a' : Option Addr) (n' c' : Nat) (l' : List Int), v = .slice a' n' c' ∧ Hid (Rd wx a' n' c' l') ∧ n' ≤ 64 ∧ Hid (l' = if 64 < l.length then sum7 l else l) ∧ Hid (Below W0.heap.size W0 wx))
 case first =>
  by_cases hgt : 64 < len
  ·have q1 : (64 : Int) < (len : Int) := by omega
   have hb1 := bel1 W0 (.cells #[.slice a len cap] 25)
   have Y1 : Hid (RdL (W0.alloc (.cells #[.slice a len cap] 25)) (some ⟨W0.heap.size, 0, none⟩) 1 [l]) := RdL.one W0 _ len cap _ 25 HR.out
   go_wp2_with fail
   refine (sum_c (some ⟨W0.heap.size, 0, none⟩) 1 1 [l] _ Y1.out (HG.out.later hb1) (by decide) (by simp only [List.flatten_cons, List.flatten_nil, List.append_nil]; rw [HLL.out]; exact hlen)).mono ?_
   rintro e V1 ⟨S1, rfl, HS1, hb⟩
   replace HS1 : Hid (S1 = sum7 l) := by have := HS1.out; rwa [List.flatten_cons, List.flatten_nil, List.append_nil] at this
   have hb2 : Below W0.heap.size W0 V1 := hb1.trans (hb.mono hb1.size)
   have hSn : Bn 32 S1 := by rw [HS1.out]; exact sum7_bn _
   clear hb hb1 Y1
   obtain ⟨hlenb1, honeb1, hib1⟩ := bn32_cells hSn
   obtain ⟨csb1, hcs⟩ : ∃ cs, cs = (List.map (Value.int .u8) S1) := ⟨_, rfl⟩
   rw [← hcs] at hlenb1 honeb1 hib1 ⊢
   have HCb1 : Hid (csb1 = (List.map (Value.int .u8) S1)) := hcs
   clear hcs
   have hth := there_new V1 32 zb32 rfl 30
   have Ab1 : Hid (Ar ((V1.alloc (.cells zb32 30)).setCells V1.heap.size 0 csb1) V1.heap.size 32 (List.map (Value.int .u8) S1)) := by rw [← HCb1.out]; exact ar_var _ _ 32 rfl _ _ hlenb1
   have hX : Below V1.heap.size V1 ((V1.alloc (.cells zb32 30)).setCells V1.heap.size 0 csb1) := bel_var _ _ _ _
   go_upto_region 3 with (refine wpList_store_mid rfl 30 (.tmp 3) (.tmp 10) rfl V1.heap.size 0 csb1.toArray rfl rfl (by simpa [hlenb1] using hth) (by simpa using hib1) (all_oneCell_toArray honeb1) ?_)
   clear hth honeb1 hlenb1
   obtain ⟨W1, hnew⟩ : ∃ W, W = ((V1.alloc (.cells zb32 30)).setCells V1.heap.size 0 csb1) := ⟨_, rfl⟩
   obtain ⟨b1, hblk⟩ : ∃ q, q = V1.heap.size := ⟨_, rfl⟩
   rw [← hnew] at Ab1 hX ⊢
   rw [← hblk] at Ab1 ⊢
   rw [HCb1.out] at hib1
   clear hnew HCb1
   clear hblk
   replace hX : Below W0.heap.size W0 W1 := hb2.trans (hX.mono hb2.size)
   go_wp2_with fail
   go_meet
   case rel => exact ⟨_, 32, 32, S1, rfl, Ab1.out.rd_all hSn.byt 32 (by decide), by decide, by unfold Hid; rw [if_pos (by rw [HLL.out]; exact hgt)]; exact HS1.out, hX⟩
  ·have q1 : ¬ (64 : Int) < (len : Int) := by omega
   go_wp2_with fail
   go_meet
   case rel => exact ⟨a, len, cap, l, rfl, HR, by omega, by unfold Hid; rw [if_neg (by rw [HLL.out]; exact hgt)], Below.refl _ _⟩
 case rest =>
  obtain ⟨a', n', c', l', rfl, HR2, hn', HL2, HB2⟩ := hcut
  obtain ⟨W1, hW1⟩ : ∃ W, W = wc := ⟨_, rfl⟩
  rw [← hW1] at HR2 HB2 ⊢
  clear hW1
  replace HD : Hid (W1.there q2 0 64) := there_later HB2.out HD.out
  replace HB := hidp (HB.out.trans (HB2.out.mono HB.out.size))
  replace k1 : q2 < W1.heap.size := by have := HB2.out.size; omega
  have hLl : l'.length = n' := HR2.out.hlen
  clear HR HG HB2
  go_upto_region 5 with fail
  have hb := bel1 W1 (.cells zb64 163)
  have AD : Hid (Ar (W1.alloc (.cells zb64 163)) W1.heap.size 64 (List.map (Value.int .u8) (List.replicate 64 0))) := ar_box W1 (List.map (Value.int .u8) (List.replicate 64 0)) 64 rfl 163
  replace HR2 := hidp (HR2.out.below hb)
  replace HD : Hid ((W1.alloc (.cells zb64 163)).there q2 0 64) := there_later hb HD.out
  replace HB := hidp (HB.out.trans (hb.mono HB.out.size))
  obtain ⟨W2, hW2⟩ : ∃ W, W = W1.alloc (.cells zb64 163) := ⟨_, rfl⟩
  obtain ⟨gb, hgb⟩ : ∃ q, q = W1.heap.size := ⟨_, rfl⟩
  rw [← hW2] at AD HR2 HD HB ⊢
  rw [← hgb] at AD k1 ⊢
  clear hW2 hgb hb
  go_cut [] from 12 (fun wx => Hid (Ar wx gb 64 (List.map (Value.int .u8) (pad7 l'))) ∧ Hid (ExtB gb W2 wx))
  case first =>
   have hA := AD.out
   have hAC : Ar (W2.setCells gb 0 (List.map (Value.int .u8) l')) gb 64 (List.map (Value.int .u8) (pad7 l')) := by
    have := hA.part 0 (List.map (Value.int .u8) l') (by rw [List.length_map]; omega)
    rw [List.length_map, ← List.map_take, ← List.map_drop, ← List.map_append, ← List.map_append, pad8_copy] at this
    exact this
   rcases a' with _ | ⟨ba, off, sp⟩
   ·obtain ⟨hr0, hc0, -⟩ := HR2.out.none_len
    have hC0 : l' = [] := List.eq_nil_of_length_eq_zero (by omega)
    subst hr0 hc0
    have hcp := fun ty => run_copy_none (P := Tryz.prog) W2 25 25 ty 5 (some ⟨gb, 0, none⟩) none 64 64 0 0 Tryz.underlying25 (by kernel_rfl) (by decide)
    go_wp2_with fail
    go_meet
    case rel => exact ⟨by rw [hC0] at hAC ⊢; exact hAC, ExtB.refl _ _⟩
   ·have hle := HR2.out.hle
    have hcp := fun ty => copy_c W2 gb 0 64 64 ⟨ba, off, sp⟩ n' c' l' HR2.out n' (by omega) (there_part AD.out.all 0 n' (by omega)) ty
    rw [List.take_of_length_le (by omega)] at hcp
    go_wp2_with fail
    go_meet
    case rel => exact ⟨hAC, extB_setCells _ _ _ (ExtB.refl _ _)⟩
  case rest =>
   obtain ⟨AB, HE⟩ := hcut
   replace HD : Hid (wc.there q2 0 64) := there_extb HE.out (by omega) HD.out
   have hbw : w.heap.size ≤ gb := by have := HQ.out; omega
   replace HB : Hid (Below w.heap.size w wc) := HE.out.below HB.out hbw
   obtain ⟨K, HK⟩ : ∃ K, Hid (K = kp8 l) := ⟨_, rfl⟩
   have hKe : pad7 l' = K := by rw [HL2.out, HK.out]; rfl
   rw [hKe] at AB
   have hKn : Bn 64 K := ⟨by have := AB.out.len; rwa [List.length_map] at this, by rw [HK.out]; exact kp8_byt HB8.out⟩
   clear hKe HL2 AD HR2 HE
   obtain ⟨_, _, hi0⟩ := bn64_cells7 hKn
   have hR : wc.rangeAt gb 0 (List.map (Value.int .u8) K) := AB.out.rng
   obtain ⟨hlen', hone, hi⟩ := bn64_cells7 hKn
   obtain ⟨cs, hcs⟩ : ∃ cs, cs = (List.map (Value.int .u8) K) := ⟨_, rfl⟩
   have HC : Hid (cs = (List.map (Value.int .u8) K)) := hcs
   rw [← hcs] at hlen' hone hi hR
   clear hcs hi0
   have hth := HD.out
   go_wp2_with (first
    | (refine wpList_load_mid rfl 163 (.tmp 4) rfl gb 0 rfl cs _ hR Tryz.underlying163 rfl hi ?_)
    | (refine wpList_store_mid rfl 163 (.tmp 2) (.tmp 15) rfl q2 0 cs.toArray rfl rfl (by simpa [hlen'] using hth) (by simpa using hi) (all_oneCell_toArray hone) ?_))
   have HR2 : Hid ((wc.setCells q2 0 cs).rangeAt q2 0 cs) := World.rangeAt_setCells_same _ _ _ _ (by rw [hlen']; exact hth)
   have hld := run_loadVar_mid (P := Tryz.prog) _ _ 0 163 _ _ HR2.out Tryz.underlying163 rfl hi
   exact bodyPost_ret (v := .agg cs.toArray) (by simp [results, Tryz.results142]; exact hld) rfl ⟨K, by rw [HC.out], HK, below_setCells _ (by have := HQ.out; omega) _ _ _ HB.out⟩
end Go.Proofs.YtlnbjehimabaiaaGreatDoor
/-
 What kdf's begun does: a hash of a key's block, turned by a pad. No statement of the seat is proved here.
-/
namespace Go.Proofs.YtlnbjehimabaiaaGreatDoor
open Go.RowKit
set_option maxRecDepth 8000

set_option maxHeartbeats 4000000 in
theorem begun_c (B : List Int) (x : Int) (hB : Bn 64 B) (hx : 0 ≤ x ∧ x ≤ 255) (w : World) (hg : Gb w) :
  Calls Tryz.prog 143 #[(.agg (List.map (Value.int .u8) B).toArray), .int .u8 x] w fun e w' => ∃ b, e = .returned (.pointer (some ⟨b, 0, none⟩)) ∧ w.heap.size ≤ b ∧ Hid (Hx w' b (xm8 x B)) ∧ Below w.heap.size w w' := by
 have HG : Hid (Gb w) := hg
 have hgw := hg
 have HBn : Hid (Bn 64 B) := hB
 clear hg hB
 go_enter Tryz.func143, Tryz.ntmps143
 go_upto_region 1 with fail
 have AD : Hid (Ar (w.alloc (.cells (List.map (Value.int .u8) B).toArray 163)) w.heap.size 64 (List.map (Value.int .u8) (xw8 x B 0))) := by unfold Hid; rw [xw8_zero]; exact ar_box w _ 64 HBn.out.map_len 163
 have HB : Hid (Below w.heap.size w (w.alloc (.cells (List.map (Value.int .u8) B).toArray 163))) := bel1 _ _
 obtain ⟨W0, hW0⟩ : ∃ W, W = (w.alloc (.cells (List.map (Value.int .u8) B).toArray 163)) := ⟨_, rfl⟩
 obtain ⟨bq, hbq⟩ : ∃ q, q = w.heap.size := ⟨_, rfl⟩
 rw [← hW0] at AD HB ⊢
 have HQ : Hid (bq = w.heap.size) := hbq
 rw [← hbq] at AD ⊢
 replace HG := hidp (HG.out.later HB.out)
 clear hW0 hbq
 go_wp2
 go_loopw [7] (fun i wr => ∃ k : Nat, k ≤ 64 ∧ i = .int .i64 k ∧ Hid (Ar wr bq 64 (List.map (Value.int .u8) (xw8 x B k))) ∧ Hid (Gb wr) ∧ Hid (Below w.heap.size w wr)) (fun i _ => 64 - (intOf i).toNat)
 case atStart => exact ⟨0, by decide, rfl, AD, HG, HB⟩
 case round =>
  clear AD HG HB
  obtain ⟨k, hk, rfl, AD, HG, HB⟩ := hrel
  by_cases hlt : k < 64
  ·have c1 : (k : Int) < 64 := by omega
   obtain ⟨y, hy0, hy1, hyl⟩ := byte_at HBn.out k hlt
   have hc := cell8 AD.out (xw8_get x B k (by rw [HBn.out.len]; exact hlt)) hlt
   obtain ⟨ck, fk⟩ := hc
   rw [hyl] at ck
   obtain ⟨z, hz⟩ : ∃ z, z = bits .xor .u8 y x := ⟨_, rfl⟩
   have hzz : bits .xor .u8 y x = z := hz.symm
   have AN : Hid (Ar (wr.setCell ⟨bq, k, none⟩ (.int .u8 z)) bq 64 (List.map (Value.int .u8) (xw8 x B (k + 1)))) := by
    have := AD.out.set k hlt (.int .u8 z)
    unfold Hid
    rw [xw8_succ x B k (by rw [HBn.out.len]; exact hlt), hyl, hzz, List.map_set]
    exact this
   have HG' : Hid (Gb (wr.setCell ⟨bq, k, none⟩ (.int .u8 z))) := HG.out.set bq k (by have := HQ.out; have := hgw.ivlt; omega) (by have := HQ.out; have := hgw.sglt; omega) _
   have HB' : Hid (Below w.heap.size w (wr.setCell ⟨bq, k, none⟩ (.int .u8 z))) := HB.out.setCell (p := ⟨bq, k, none⟩) (by have := HQ.out; dsimp only; omega) _
   clear hz hyl AD HG HB
   go_wp2
   go_roundw
   case rel => exact ⟨k + 1, by omega, by go_num, AN, HG', HB'⟩
   case measure => simp [intOf]; omega
  ·have e : k = 64 := by omega
   subst e
   rw [xw8_all x B HBn.out.len] at AD
   have hXB : Byt (xm8 x B) := xm8_byt hx HBn.out.byt
   have hbq0 : bq < wr.heap.size := AD.out.lt (by decide)
   go_wp2_with fail
   refine (new_c _ HG.out).mono ?_
   rintro e V0 ⟨rfl, HX, hb⟩
   replace AD := hidp (AD.out.later hb)
   obtain ⟨b0, hb0⟩ : ∃ q, q = wr.heap.size := ⟨_, rfl⟩
   rw [← hb0] at HX hbq0 ⊢
   have kb : w.heap.size ≤ b0 := by rw [hb0]; exact HB.out.size
   replace HG := hidp (HG.out.later hb)
   replace HB := hidp (HB.out.trans (hb.mono HB.out.size))
   have g0 := HG.out.ivlt
   have g1 := HG.out.sglt
   clear hb hb0
   have HRX : Hid (Rd V0 (some ⟨bq, 0, none⟩) 64 64 (xm8 x B)) := AD.out.rd_all hXB 64 (by decide)
   go_wp2_with fail
   refine (write_c b0 [] (some ⟨bq, 0, none⟩) 64 64 (xm8 x B) _ HX.out HG.out (by have := hgw.ivlt; have := hgw.sglt; omega) (by have := hgw.ivlt; have := hgw.sglt; omega) HRX.out (fun _ p hp => by cases hp; dsimp only; omega) (by decide)).mono ?_
   rintro e V1 ⟨rfl, HX2, hb⟩
   replace HX2 : Hid (Hx V1 b0 (xm8 x B)) := HX2.out
   replace HB : Hid (Below w.heap.size w V1) := hb.below HB.out kb
   clear hb
   go_wp2
   go_ret
   exact ⟨b0, rfl, kb, HX2, HB.out⟩
end Go.Proofs.YtlnbjehimabaiaaGreatDoor
/-
 What kdf's mac and Hmac do. No statement of the seat is proved here.
-/
namespace Go.Proofs.YtlnbjehimabaiaaGreatDoor
open Go.RowKit
set_option maxRecDepth 8000

set_option maxHeartbeats 4000000 in
theorem mac_c (a : Option Addr) (len cap : Nat) (key : List Int) (ap : Option Addr) (lp cp : Nat) (L : List (List Int)) (w : World) (hr : Rd w a len cap key) (hp : RdL w ap lp L) (hg : Gb w) (hlen : len ≤ 4611686018427387904) (hlp : lp ≤ 281474976710656) (hT : 64 + L.flatten.length ≤ 4611686018427387904) :
  Calls Tryz.prog 116 #[.slice a len cap, .slice ap lp cp] w fun e w' => ∃ S, e = .returned (.agg (List.map (Value.int .u8) S).toArray) ∧ Hid (S = hm8 key L.flatten) ∧ Below w.heap.size w w' := by
 have HR : Hid (Rd w a len cap key) := hr
 have HP : Hid (RdL w ap lp L) := hp
 have HG : Hid (Gb w) := hg
 have HLL : Hid (L.length = lp) := hp.hlen
 have HKB : Hid (Bn 64 (kp8 key)) := kp8_bn hr.byt
 have g0 := hg.ivlt
 have g1 := hg.sglt
 clear hr hp hg
 go_enter Tryz.func116, Tryz.ntmps116
 go_upto_region 1 with fail
 have HD : Hid ((w.alloc (.cells zb32 30)).there w.heap.size 0 32) := by unfold Hid; exact there_new _ 32 _ rfl _
 have HB : Hid (Below w.heap.size w (w.alloc (.cells zb32 30))) := bel1 _ _
 obtain ⟨W0, hW0⟩ : ∃ W, W = (w.alloc (.cells zb32 30)) := ⟨_, rfl⟩
 obtain ⟨q2, hq2⟩ : ∃ q, q = w.heap.size := ⟨_, rfl⟩
 rw [← hW0] at HD HB ⊢
 have HQ : Hid (q2 = w.heap.size) := hq2
 rw [← hq2] at HD ⊢
 have k1 : q2 < W0.heap.size := there_lt HD.out (by decide)
 clear hW0 hq2
 go_wp2_with fail
 refine (filled_c a len cap key _ (HR.out.below HB.out) (HG.out.later HB.out) hlen).mono ?_
 rintro e V0 ⟨B, rfl, HBe, hb⟩
 have hBn : Bn 64 B := by rw [HBe.out]; exact HKB.out
 have HBN : Hid (Bn 64 B) := hBn
 replace HD : Hid (V0.there q2 0 32) := there_later hb HD.out
 replace HB := hidp (HB.out.trans (hb.mono HB.out.size))
 replace k1 : q2 < V0.heap.size := by have := hb.size; omega
 clear hb HR
 obtain ⟨hlenb5, honeb5, hib5⟩ := bn64_cells7 hBn
 obtain ⟨csb5, hcs⟩ : ∃ cs, cs = (List.map (Value.int .u8) B) := ⟨_, rfl⟩
 rw [← hcs] at hlenb5 honeb5 hib5 ⊢
 have HCb5 : Hid (csb5 = (List.map (Value.int .u8) B)) := hcs
 clear hcs
 have hth := there_new V0 64 zb64 rfl 163
 have Ab5 : Hid (Ar ((V0.alloc (.cells zb64 163)).setCells V0.heap.size 0 csb5) V0.heap.size 64 (List.map (Value.int .u8) B)) := by rw [← HCb5.out]; exact ar_var _ _ 64 rfl _ _ hlenb5
 have hX : Below V0.heap.size V0 ((V0.alloc (.cells zb64 163)).setCells V0.heap.size 0 csb5) := bel_var _ _ _ _
 go_upto_region 2 with (refine wpList_store_mid rfl 163 (.tmp 5) (.tmp 12) rfl V0.heap.size 0 csb5.toArray rfl rfl (by simpa [hlenb5] using hth) (by simpa using hib5) (all_oneCell_toArray honeb5) ?_)
 clear hth honeb5 hlenb5
 obtain ⟨W1, hnew⟩ : ∃ W, W = ((V0.alloc (.cells zb64 163)).setCells V0.heap.size 0 csb5) := ⟨_, rfl⟩
 obtain ⟨b5, hblk⟩ : ∃ q, q = V0.heap.size := ⟨_, rfl⟩
 rw [← hnew] at Ab5 hX ⊢
 rw [← hblk] at Ab5 ⊢
 rw [HCb5.out] at hib5
 clear hnew HCb5
 replace HD : Hid (W1.there q2 0 32) := there_later hX HD.out
 replace HB := hidp (HB.out.trans (hX.mono HB.out.size))
 rw [← hblk] at k1
 have kb5 : b5 < W1.heap.size := Ab5.out.lt (by decide)
 clear hX hblk hBn
 go_wp2_with (refine wpList_load_mid rfl 163 (.tmp 5) rfl b5 0 rfl (List.map (Value.int .u8) B) _ Ab5.out.rng Tryz.underlying163 rfl hib5 ?_)
 refine (begun_c B 54 HBN.out (by decide) _ (HG.out.later HB.out)).mono ?_
 rintro e V1 ⟨bi, rfl, hbi, HX, hb⟩
 replace Ab5 := hidp (Ab5.out.later hb)
 replace HD : Hid (V1.there q2 0 32) := there_later hb HD.out
 have kbi : w.heap.size ≤ bi := Nat.le_trans HB.out.size hbi
 replace HB := hidp (HB.out.trans (hb.mono HB.out.size))
 have n5 : b5 ≠ bi := by omega
 have n2 : q2 ≠ bi := by omega
 clear hb hbi kb5
 have H0 : Hid (Hx V1 bi (xm8 54 B ++ (L.take 0).flatten)) := by unfold Hid; rw [List.take_zero, List.flatten_nil, List.append_nil]; exact HX.out
 clear HX
 go_wp2
 go_loopw [17] (fun i wr => ∃ k : Nat, k ≤ lp ∧ i = .int .i64 k ∧ Hid (Hx wr bi (xm8 54 B ++ (L.take k).flatten)) ∧ Hid (Ar wr b5 64 (List.map (Value.int .u8) B)) ∧ Hid (wr.there q2 0 32) ∧ Hid (Below w.heap.size w wr)) (fun i _ => lp - (intOf i).toNat)
 case atStart => exact ⟨0, Nat.zero_le _, rfl, H0, Ab5, HD, HB⟩
 case round =>
  clear H0 Ab5 HD HB
  obtain ⟨k, hk, rfl, HX, Ab5, HD, HB⟩ := hrel
  by_cases hlt : k < lp
  ·have c1 : (k : Int) < lp := by omega
   obtain ⟨bL, off, rfl, hc⟩ := HP.out.cell (by omega)
   obtain ⟨ai, ni, ci, cc, hrd⟩ := hc k hlt
   have HRD : Hid (Rd w ai ni ci (L[k]?.getD [])) := hrd
   have cx := cell_later HB.out cc
   have hne : 0 < ni → ∀ p, ai = some p → p.block ≠ bi := by
    intro h0 p hp
    obtain ⟨b', o', ha, hc'⟩ := HRD.out.cell h0
    rw [ha] at hp
    cases hp
    have := World.block_lt_of_cell? w _ (hc' 0 h0)
    dsimp only at this ⊢
    omega
   have HNE : Hid (0 < ni → ∀ p, ai = some p → p.block ≠ bi) := hne
   have hfl : (xm8 54 B ++ (L.take k).flatten).length + ni ≤ 4611686018427387904 := by
    have h1 := flen_le L (k + 1)
    rw [flen_succ L k (by rw [HLL.out]; exact hlt), HRD.out.hlen] at h1
    unfold flen at h1
    rw [List.length_append, xm8_len, HBN.out.len]
    omega
   clear hc cc hrd hne
   go_wp2_with fail
   refine (write_c bi _ ai ni ci (L[k]?.getD []) _ HX.out (HG.out.later HB.out) (by omega) (by omega) (HRD.out.below HB.out) HNE.out hfl).mono ?_
   rintro e V ⟨rfl, HX2, hb⟩
   rw [List.append_assoc, ← flat_succ L k (by rw [HLL.out]; exact hlt)] at HX2
   replace HD : Hid (V.there q2 0 32) := there_extb hb n2 HD.out
   replace Ab5 := hidp (Ab5.out.extb hb n5)
   replace HB : Hid (Below w.heap.size w V) := hb.below HB.out kbi
   clear hb cx
   go_wp2
   go_roundw
   case rel => exact ⟨k + 1, by omega, by go_num, HX2, Ab5, HD, HB⟩
   case measure => simp [intOf]; omega
  ·have e : k = lp := by omega
   subst e
   rw [List.take_of_length_le (by rw [HLL.out]; exact Nat.le_refl _)] at HX
   go_wp2_with fail
   refine (sumh_c bi _ _ HX.out (HG.out.later HB.out) (by rw [List.length_append, xm8_len, HBN.out.len]; exact hT)).mono ?_
   rintro e V ⟨S1, rfl, HS1, hb⟩
   have HSN1 : Hid (Bn 32 S1) := by unfold Hid; rw [HS1.out]; exact sum7_bn _
   replace HD : Hid (V.there q2 0 32) := there_later hb HD.out
   replace Ab5 := hidp (Ab5.out.later hb)
   replace HB := hidp (HB.out.trans (hb.mono HB.out.size))
   clear hb HX
   obtain ⟨hlenb9, honeb9, hib9⟩ := bn32_cells HSN1.out
   obtain ⟨csb9, hcs⟩ : ∃ cs, cs = (List.map (Value.int .u8) S1) := ⟨_, rfl⟩
   rw [← hcs] at hlenb9 honeb9 hib9 ⊢
   have HCb9 : Hid (csb9 = (List.map (Value.int .u8) S1)) := hcs
   clear hcs
   have hth := there_new V 32 zb32 rfl 30
   have Ab9 : Hid (Ar ((V.alloc (.cells zb32 30)).setCells V.heap.size 0 csb9) V.heap.size 32 (List.map (Value.int .u8) S1)) := by rw [← HCb9.out]; exact ar_var _ _ 32 rfl _ _ hlenb9
   have hX : Below V.heap.size V ((V.alloc (.cells zb32 30)).setCells V.heap.size 0 csb9) := bel_var _ _ _ _
   go_upto_region 9 with (refine wpList_store_mid rfl 30 (.tmp 9) (.tmp 26) rfl V.heap.size 0 csb9.toArray rfl rfl (by simpa [hlenb9] using hth) (by simpa using hib9) (all_oneCell_toArray honeb9) ?_)
   clear hth honeb9 hlenb9
   obtain ⟨W2, hnew⟩ : ∃ W, W = ((V.alloc (.cells zb32 30)).setCells V.heap.size 0 csb9) := ⟨_, rfl⟩
   obtain ⟨b9, hblk⟩ : ∃ q, q = V.heap.size := ⟨_, rfl⟩
   rw [← hnew] at Ab9 hX ⊢
   rw [← hblk] at Ab9 ⊢
   rw [HCb9.out] at hib9
   clear hnew HCb9
   replace HD : Hid (W2.there q2 0 32) := there_later hX HD.out
   replace Ab5 := hidp (Ab5.out.later hX)
   replace HB := hidp (HB.out.trans (hX.mono HB.out.size))
   have kb9 : b9 < W2.heap.size := Ab9.out.lt (by decide)
   have kq2 : q2 < W2.heap.size := there_lt HD.out (by decide)
   clear hX hblk
   go_wp2_with (refine wpList_load_mid rfl 163 (.tmp 5) rfl b5 0 rfl (List.map (Value.int .u8) B) _ Ab5.out.rng Tryz.underlying163 rfl hib5 ?_)
   refine (begun_c B 92 HBN.out (by decide) _ (HG.out.later HB.out)).mono ?_
   rintro e V3 ⟨bo, rfl, hbo, HX, hb⟩
   replace Ab9 := hidp (Ab9.out.later hb)
   replace HD : Hid (V3.there q2 0 32) := there_later hb HD.out
   have kbo : w.heap.size ≤ bo := Nat.le_trans HB.out.size hbo
   replace HB := hidp (HB.out.trans (hb.mono HB.out.size))
   have n9 : b9 ≠ bo := by omega
   have n2' : q2 ≠ bo := by omega
   clear hb hbo kb9 kq2 Ab5 hib5 hib9
   have HR9 : Hid (Rd V3 (some ⟨b9, 0, none⟩) 32 32 S1) := Ab9.out.rd_all HSN1.out.byt 32 (by decide)
   go_wp2_with fail
   refine (write_c bo _ (some ⟨b9, 0, none⟩) 32 32 S1 _ HX.out (HG.out.later HB.out) (by omega) (by omega) HR9.out (fun _ p hp => by cases hp; exact n9) (by rw [xm8_len, HBN.out.len]; decide)).mono ?_
   rintro e V4 ⟨rfl, HX2, hb⟩
   replace HD : Hid (V4.there q2 0 32) := there_extb hb n2' HD.out
   replace HB : Hid (Below w.heap.size w V4) := hb.below HB.out kbo
   clear hb HR9 Ab9 HX
   go_wp2_with fail
   refine (sumh_c bo _ _ HX2.out (HG.out.later HB.out) (by rw [List.length_append, xm8_len, HBN.out.len, HSN1.out.len]; decide)).mono ?_
   rintro e V5 ⟨S, rfl, HS, hb⟩
   have hSn : Bn 32 S := by rw [HS.out]; exact sum7_bn _
   replace HS : Hid (S = hm8 key L.flatten) := by unfold Hid hm8; rw [HS.out, HS1.out, HBe.out]
   replace HD : Hid (V5.there q2 0 32) := there_later hb HD.out
   replace HB := hidp (HB.out.trans (hb.mono HB.out.size))
   clear hb HX2 HS1 HSN1 HBe
   obtain ⟨hlen', hone, hi⟩ := bn32_cells hSn
   obtain ⟨cs, hcs⟩ : ∃ cs, cs = (List.map (Value.int .u8) S) := ⟨_, rfl⟩
   have HC : Hid (cs = (List.map (Value.int .u8) S)) := hcs
   rw [← hcs] at hlen' hone hi ⊢
   clear hcs
   have hth := HD.out
   go_wp2_with (refine wpList_store_mid rfl 30 (.tmp 4) (.tmp 33) rfl q2 0 cs.toArray rfl rfl (by simpa [hlen'] using hth) (by simpa using hi) (all_oneCell_toArray hone) ?_)
   have HR2 : Hid ((V5.setCells q2 0 cs).rangeAt q2 0 cs) := World.rangeAt_setCells_same _ _ _ _ (by rw [hlen']; exact hth)
   have hld := run_loadVar_mid (P := Tryz.prog) _ _ 0 30 _ _ HR2.out Tryz.underlying30 rfl hi
   exact bodyPost_ret (v := .agg cs.toArray) (by simp [results, Tryz.results116]; exact hld) rfl ⟨S, by rw [HC.out], HS, below_setCells _ (by have := HQ.out; omega) _ _ _ HB.out⟩


end Go.Proofs.YtlnbjehimabaiaaGreatDoor
/-
 What kdf's Derive does. No statement of the seat is proved here.
-/
namespace Go.Proofs.YtlnbjehimabaiaaGreatDoor
open Go.RowKit
set_option maxRecDepth 8000

/-- The keys so far, and noughts. -/
def kz8 (t : List Int) (n k : Nat) : List Int := (kl8 t k).flatten ++ List.replicate (32 * (n - k)) 0
theorem kz8_flat (t : List Int) (k : Nat) : (kl8 t k).flatten.length = 32 * k := by rw [flat32 (kl8_bn t k), kl8_len]
theorem kz8_zero (t : List Int) (n : Nat) : kz8 t n 0 = List.replicate (32 * n) 0 := rfl
theorem kz8_all (t : List Int) (n : Nat) : kz8 t n n = (kl8 t n).flatten := by unfold kz8; rw [Nat.sub_self, Nat.mul_zero, List.replicate_zero, List.append_nil]
theorem kz8_byt (t : List Int) (n k : Nat) : Byt (kz8 t n k) := (flat_byt (kl8_bn t k)).app (byt_zero _)
theorem kz8_len (t : List Int) (n k : Nat) (h : k ≤ n) : (kz8 t n k).length = 32 * n := by unfold kz8; rw [List.length_append, kz8_flat, List.length_replicate]; omega
theorem kz8_succ (t : List Int) (n k : Nat) (h : k < n) : (kz8 t n k).take (32 * k) ++ (ky8 t (k + 1) ++ (kz8 t n k).drop (32 * k + 32)) = kz8 t n (k + 1) := by
 unfold kz8
 have e := kz8_flat t k
 rw [List.take_left' e, ← List.drop_drop, List.drop_left' e, List.drop_replicate, kl8, List.flatten_append, List.flatten_cons, List.flatten_nil, List.append_nil, List.append_assoc]
 congr 3
 omega
theorem kz8_at (t : List Int) (n k : Nat) : ((kz8 t n (k + 1)).drop (32 * k)).take 32 = ky8 t (k + 1) := by
 unfold kz8
 have e := kz8_flat t k
 have e2 := (ky8_bn t k).len
 rw [kl8, List.flatten_append, List.flatten_cons, List.flatten_nil, List.append_nil, List.append_assoc, List.drop_left' e, List.take_left' e2]
theorem rd_one (u : World) (x : Int) (hx : 0 ≤ x ∧ x ≤ 255) (t : TypeId) : Rd (u.alloc (.cells #[.int .u8 x] t)) (some ⟨u.heap.size, 0, none⟩) 1 1 [x] :=
 rd_mark u [x] (fun y hy => by rw [List.mem_singleton.1 hy]; exact hx) t _ 1 (Nat.le_refl _) _ (fun i hi => by match i, hi with | 0, _ => rfl)
theorem info32 : (Tryz.prog.info? 30).map (fun i => (i.zero, i.size, i.bytes)) = some (some (.agg zb32), 32, 32) := by kernel_rfl
theorem made32 (n : Nat) (h : n = 2 ∨ n = 3) : (madeCells zb32 (n * 32)).toList = (List.map (Value.int .u8) (List.replicate (32 * n) 0)) := by
 rcases h with rfl | rfl <;> kernel_rfl
theorem own_ar {u : World} {base e g n cap N : Nat} {xs : List Value} (h : u.ownsRow base e 32 (.slice (some ⟨g, 0, none⟩) n cap) n xs) (hN : N = n * 32) : Ar u g N xs :=
 ⟨fun j v hv => by
  have hj : j < n * 32 := by rw [← h.1]; exact (List.getElem?_eq_some_iff.1 hv).1
  rw [Nat.zero_add, h.cellAt j hj]
  exact hv, fun j hj => by
  rw [Nat.zero_add]
  have hj2 : j < xs.length := by rw [h.1]; omega
  exact ⟨by rw [h.cellAt j (by omega), List.getElem?_eq_getElem hj2]; rfl, World.ownsRow.frozenAt h j⟩, by rw [h.1, hN]⟩
set_option maxHeartbeats 4000000 in
theorem derive_no (chain : List Int) (a : Option Addr) (len cap : Nat) (n : Int) (h2 : n ≠ 2) (h3 : n ≠ 3) (w : World) :
  Calls Tryz.prog 79 #[(.agg (List.map (Value.int .u8) chain).toArray), .slice a len cap, .int .i64 n] w fun e w' => e = .returned (.slice none 0 0) ∧ Below w.heap.size w w' := by
 have e2 : (n != 2) = true := by simpa using h2
 have e3 : (n != 3) = true := by simpa using h3
 go_enter Tryz.func79, Tryz.ntmps79
 go_wp2
 go_ret
 exact ⟨rfl, bel1 _ _⟩
set_option maxHeartbeats 4000000 in
theorem derive_yes (chain : List Int) (a : Option Addr) (len cap : Nat) (input : List Int) (n : Nat) (hc : Bn 32 chain) (hn : n = 2 ∨ n = 3) (w : World) (hr : Rd w a len cap input) (hg : Gb w) (hT : 64 + len ≤ 4611686018427387904) :
  Calls Tryz.prog 79 #[(.agg (List.map (Value.int .u8) chain).toArray), .slice a len cap, .int .i64 n] w fun e w' => ∃ g, e = .returned (.slice (some ⟨g, 0, none⟩) n n) ∧ Hid (RdA w' (some ⟨g, 0, none⟩) n (kl8 (hm8 chain input) n)) ∧ Below w.heap.size w w' := by
 have HR : Hid (Rd w a len cap input) := hr
 have HG : Hid (Gb w) := hg
 have HC : Hid (Bn 32 chain) := hc
 have HLI : Hid (input.length = len) := hr.hlen
 have hn3 : n ≤ 3 := by omega
 have hn2 : 2 ≤ n := by omega
 have HN : Hid (n = 2 ∨ n = 3) := hn
 obtain ⟨i0, hi, hz0, hz1, hz2⟩ := info_parts info32
 clear hr hg hc hn
 go_enter Tryz.func79, Tryz.ntmps79
 go_upto_region 1 with fail
 have AC : Hid (Ar (w.alloc (.cells (List.map (Value.int .u8) chain).toArray 30)) w.heap.size 32 (List.map (Value.int .u8) chain)) := ar_box w _ 32 HC.out.map_len _
 have HB : Hid (Below w.heap.size w (w.alloc (.cells (List.map (Value.int .u8) chain).toArray 30))) := bel1 _ _
 obtain ⟨W0, hW0⟩ : ∃ W, W = (w.alloc (.cells (List.map (Value.int .u8) chain).toArray 30)) := ⟨_, rfl⟩
 obtain ⟨bc, hbc⟩ : ∃ q, q = w.heap.size := ⟨_, rfl⟩
 rw [← hW0] at AC HB ⊢
 have HQ : Hid (bc = w.heap.size) := hbc
 rw [← hbc] at AC ⊢
 clear hW0 hbc
 go_cut [16] from 11 (fun v wx => v = .bool false ∧ wx = W0)
 case first =>
  rcases HN.out with rfl | rfl
  ·have e2 : (((2 : Nat) : Int) != 2) = false := rfl
   go_wp2_with fail
   go_meet
   case rel => exact ⟨rfl, rfl⟩
  ·have e2 : (((3 : Nat) : Int) != 2) = true := rfl
   have e3 : (((3 : Nat) : Int) != 3) = false := rfl
   go_wp2_with fail
   go_meet
   case rel => exact ⟨rfl, rfl⟩
 case rest =>
 obtain ⟨rfl, hcw⟩ := hcut
 rw [hcw]
 clear hcw
 have hb1 := bel1 W0 (.cells #[.slice a len cap] 25)
 have Y1 : Hid (RdL (W0.alloc (.cells #[.slice a len cap] 25)) (some ⟨W0.heap.size, 0, none⟩) 1 [input]) := RdL.one W0 _ len cap _ 25 (HR.out.below HB.out)
 have HB1 : Hid (Below w.heap.size w (W0.alloc (.cells #[.slice a len cap] 25))) := HB.out.trans (hb1.mono HB.out.size)
 have HRC : Hid (Rd (W0.alloc (.cells #[.slice a len cap] 25)) (some ⟨bc, 0, none⟩) 32 32 chain) := (AC.out.later hb1).rd_all HC.out.byt 32 (by decide)
 go_wp2_with fail
 refine (mac_c (some ⟨bc, 0, none⟩) 32 32 chain (some ⟨W0.heap.size, 0, none⟩) 1 1 [input] _ HRC.out Y1.out (HG.out.later HB1.out) (by decide) (by decide) (by simp only [List.flatten_cons, List.flatten_nil, List.append_nil]; rw [HLI.out]; exact hT)).mono ?_
 rintro e V ⟨T, rfl, HT, hb⟩
 replace HT : Hid (T = hm8 chain input) := by have := HT.out; rwa [List.flatten_cons, List.flatten_nil, List.append_nil] at this
 have HTN : Hid (Bn 32 T) := by unfold Hid; rw [HT.out]; exact hm8_bn _ _
 replace HB : Hid (Below w.heap.size w V) := HB1.out.trans (hb.mono HB1.out.size)
 clear hb hb1 Y1 HB1 HRC AC HR
 obtain ⟨hlenbt, honebt, hibt⟩ := bn32_cells HTN.out
 obtain ⟨csbt, hcs⟩ : ∃ cs, cs = (List.map (Value.int .u8) T) := ⟨_, rfl⟩
 rw [← hcs] at hlenbt honebt hibt ⊢
 have HCbt : Hid (csbt = (List.map (Value.int .u8) T)) := hcs
 clear hcs
 have hth := there_new V 32 zb32 rfl 30
 have Abt : Hid (Ar ((V.alloc (.cells zb32 30)).setCells V.heap.size 0 csbt) V.heap.size 32 (List.map (Value.int .u8) T)) := by rw [← HCbt.out]; exact ar_var _ _ 32 rfl _ _ hlenbt
 have hX : Below V.heap.size V ((V.alloc (.cells zb32 30)).setCells V.heap.size 0 csbt) := bel_var _ _ _ _
 go_upto_region 4 with (refine wpList_store_mid rfl 30 (.tmp 7) (.tmp 20) rfl V.heap.size 0 csbt.toArray rfl rfl (by simpa [hlenbt] using hth) (by simpa using hibt) (all_oneCell_toArray honebt) ?_)
 clear hth honebt hlenbt
 obtain ⟨W1, hnew⟩ : ∃ W, W = ((V.alloc (.cells zb32 30)).setCells V.heap.size 0 csbt) := ⟨_, rfl⟩
 obtain ⟨bt, hblk⟩ : ∃ q, q = V.heap.size := ⟨_, rfl⟩
 rw [← hnew] at Abt hX ⊢
 rw [← hblk] at Abt ⊢
 rw [HCbt.out] at hibt
 clear hnew HCbt
 replace HB := hidp (HB.out.trans (hX.mono HB.out.size))
 have kbt : bt < W1.heap.size := Abt.out.lt (by decide)
 have kW1 : w.heap.size ≤ W1.heap.size := HB.out.size
 clear hX hblk hibt
 go_wp2_with (at_make; refine wpList_make_full _ rfl _ _ 115 rfl W1.heap.size 30 i0 (.agg zb32) 32 Tryz.underlying115 hi hz0 hz1 _ _ _ _ n rfl rfl rfl rfl (by rw [hz2]; omega) (by unfold maxLen; omega) (Nat.le_refl _) ?_)
 intro W2 hown hgrow
 have hb : Below W1.heap.size W1 W2 := (Below.refl _ _).grown hgrow (Nat.le_refl _) (fun k h => by cases h)
 rw [made32 n HN.out] at hown
 have AK : Hid (Ar W2 W1.heap.size (32 * n) (List.map (Value.int .u8) (kz8 T n 0))) := own_ar hown (Nat.mul_comm _ _)
 replace Abt := hidp (Abt.out.later hb)
 replace HB := hidp (HB.out.trans (hb.mono HB.out.size))
 obtain ⟨g, hgg⟩ : ∃ q, q = W1.heap.size := ⟨_, rfl⟩
 rw [← hgg] at AK kbt ⊢
 have kg : w.heap.size ≤ g := by
  rw [hgg]
  exact kW1
 clear hown hgrow hb hgg hz0 hz1 hz2 hi
 go_wp2
 go_loopw [9, 25] (fun bv i wr => ∃ (k : Nat) (ab : Option Addr) (nb cb : Nat), k ≤ n ∧ i = .int .i64 k ∧ bv = .slice ab nb cb ∧ Hid (Rd wr ab nb cb (ky8 T k)) ∧ Hid (Ar wr g (32 * n) (List.map (Value.int .u8) (kz8 T n k))) ∧ Hid (Ar wr bt 32 (List.map (Value.int .u8) T)) ∧ Hid (Below w.heap.size w wr)) (fun _ i _ => n - (intOf i).toNat)
 case atStart => exact ⟨0, none, 0, 0, Nat.zero_le _, rfl, rfl, Rd.nil _ none 0 (fun _ => rfl), AK, Abt, HB⟩
 case round =>
  clear AK Abt HB
  obtain ⟨k, ab, nb, cb, hk, rfl, rfl, HRB, AK, Abt, HB⟩ := hrel
  by_cases hlt : k < n
  ·have c1 : (k : Int) < n := by omega
   have hw8 : IntKind.u8.wrap ((k : Int) + 1) = (k : Int) + 1 := by rw [IntKind.wrap_u8]; omega
   have hnb : (ky8 T k).length = nb := HRB.out.hlen
   have hkyl : (ky8 T k).length ≤ 32 := by cases k with | zero => exact Nat.zero_le _ | succ k => exact Nat.le_of_eq (ky8_bn T k).len
   have hb2 := bel2 wr (.cells #[.int .u8 ((k : Int) + 1)] 5) (.cells #[.slice ab nb cb, .slice (some ⟨wr.heap.size, 0, none⟩) 1 1] 25)
   have Y2 : Hid (RdL ((wr.alloc (.cells #[.int .u8 ((k : Int) + 1)] 5)).alloc (.cells #[.slice ab nb cb, .slice (some ⟨wr.heap.size, 0, none⟩) 1 1] 25)) (some ⟨wr.heap.size + 1, 0, none⟩) 2 [ky8 T k, [(k : Int) + 1]]) := by
    have := RdL.two (wr.alloc (.cells #[.int .u8 ((k : Int) + 1)] 5)) ab nb cb (ky8 T k) (some ⟨wr.heap.size, 0, none⟩) 1 1 [(k : Int) + 1] 25 (HRB.out.below (bel1 wr (.cells #[.int .u8 ((k : Int) + 1)] 5))) (rd_one wr ((k : Int) + 1) (by omega) 5)
    simpa [Hid] using this
   have AK2 : Hid (Ar ((wr.alloc (.cells #[.int .u8 ((k : Int) + 1)] 5)).alloc (.cells #[.slice ab nb cb, .slice (some ⟨wr.heap.size, 0, none⟩) 1 1] 25)) g (32 * n) (List.map (Value.int .u8) (kz8 T n k))) := AK.out.later hb2
   have Abt2 : Hid (Ar ((wr.alloc (.cells #[.int .u8 ((k : Int) + 1)] 5)).alloc (.cells #[.slice ab nb cb, .slice (some ⟨wr.heap.size, 0, none⟩) 1 1] 25)) bt 32 (List.map (Value.int .u8) T)) := Abt.out.later hb2
   have HB2 : Hid (Below w.heap.size w ((wr.alloc (.cells #[.int .u8 ((k : Int) + 1)] 5)).alloc (.cells #[.slice ab nb cb, .slice (some ⟨wr.heap.size, 0, none⟩) 1 1] 25))) := HB.out.trans (hb2.mono HB.out.size)
   have HRT : Hid (Rd ((wr.alloc (.cells #[.int .u8 ((k : Int) + 1)] 5)).alloc (.cells #[.slice ab nb cb, .slice (some ⟨wr.heap.size, 0, none⟩) 1 1] 25)) (some ⟨bt, 0, none⟩) 32 32 T) := Abt2.out.rd_all HTN.out.byt 32 (by decide)
   clear hb2
   go_wp2_with fail
   refine (mac_c (some ⟨bt, 0, none⟩) 32 32 T (some ⟨wr.heap.size + 1, 0, none⟩) 2 2 [ky8 T k, [(k : Int) + 1]] _ HRT.out Y2.out (HG.out.later HB2.out) (by decide) (by decide) (by simp only [List.flatten_cons, List.flatten_nil, List.append_nil, List.length_append, List.length_cons, List.length_nil]; omega)).mono ?_
   rintro e V1 ⟨S, rfl, HS, hb⟩
   replace HS : Hid (S = ky8 T (k + 1)) := by have := HS.out; rwa [List.flatten_cons, List.flatten_cons, List.flatten_nil, List.append_nil] at this
   have hSn : Bn 32 S := by rw [HS.out]; exact ky8_bn _ _
   replace AK : Hid (Ar V1 g (32 * n) (List.map (Value.int .u8) (kz8 T n k))) := AK2.out.later hb
   replace Abt : Hid (Ar V1 bt 32 (List.map (Value.int .u8) T)) := Abt2.out.later hb
   replace HB : Hid (Below w.heap.size w V1) := HB2.out.trans (hb.mono HB2.out.size)
   clear hb HRT Abt2 AK2 HB2 Y2 HRB
   obtain ⟨hlenS, honeS, hiS⟩ := bn32_cells hSn
   have e32 : 32 * k = k * 32 := Nat.mul_comm _ _
   have AN : Hid (Ar (V1.setCells g (k * 32) (List.map (Value.int .u8) S)) g (32 * n) (List.map (Value.int .u8) (kz8 T n (k + 1)))) := by
    have := AK.out.part (32 * k) (List.map (Value.int .u8) S) (by rw [hlenS]; omega)
    rw [hlenS, ← List.map_take, ← List.map_drop, ← List.map_append, ← List.map_append, HS.out, kz8_succ T n k hlt] at this
    unfold Hid
    rw [HS.out, ← e32]
    exact this
   have HthK : Hid (V1.there g (k * 32) 32) := there_part AK.out.all (k * 32) 32 (by omega)
   obtain ⟨cs, hcs⟩ : ∃ cs, cs = (List.map (Value.int .u8) S) := ⟨_, rfl⟩
   rw [← hcs] at hlenS honeS hiS AN ⊢
   clear hcs e32
   have Abt' : Hid (Ar (V1.setCells g (k * 32) cs) bt 32 (List.map (Value.int .u8) T)) := Ar.else_cells (by omega) cs (k * 32) Abt.out
   have HB' : Hid (Below w.heap.size w (V1.setCells g (k * 32) cs)) := below_setCells _ kg _ _ _ HB.out
   have HRN : Hid (Rd (V1.setCells g (k * 32) cs) (some ⟨g, k * 32, none⟩) 32 32 (ky8 T (k + 1))) := by
    have := AN.out.rd (kz8_byt T n (k + 1)) (k * 32) 32 32 (by omega) (Nat.le_refl _)
    rw [Nat.mul_comm k 32, kz8_at, Nat.mul_comm 32 k] at this
    exact this
   have hth := HthK.out
   clear Abt AK HB HthK
   go_upto_region 10 with (refine wpList_store_mid rfl 30 (.tmp 38) (.tmp 37) rfl g (k * 32) cs.toArray rfl rfl (by simpa [hlenS] using hth) (by simpa using hiS) (all_oneCell_toArray honeS) ?_)
   obtain ⟨V2, hV2⟩ : ∃ V, V = V1.setCells g (k * 32) cs := ⟨_, rfl⟩
   rw [← hV2] at AN Abt' HB' HRN ⊢
   clear hV2 hth hlenS honeS hiS
   go_wp2
   go_roundw
   case rel => exact ⟨k + 1, some ⟨g, k * 32, none⟩, 32, 32, by omega, by go_num, rfl, HRN, AN, Abt', HB'⟩
   case measure => simp [intOf]; omega
  ·have e : k = n := by omega
   subst e
   rw [kz8_all] at AK
   go_wp2
   go_ret
   exact ⟨g, rfl, ⟨kl8_len _ _, by rw [← HT.out]; exact kl8_bn _ _, fun _ => ⟨g, rfl, by rw [← HT.out]; exact AK.out.rng⟩⟩, HB.out⟩
end Go.Proofs.YtlnbjehimabaiaaGreatDoor
