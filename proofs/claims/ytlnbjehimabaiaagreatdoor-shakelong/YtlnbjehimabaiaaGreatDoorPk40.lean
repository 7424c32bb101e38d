/-
  Several texts of one's own, laid together. No statement of the seat is proved here.
-/
import Derived.Test.YtlnbjehimabaiaaGreatDoorPk1
import Derived.Test.YtlnbjehimabaiaaGreatDoorPk39
import Derived.Test.YtlnbjehimabaiaaGreatDoorPk33
import Derived.Test.YtlnbjehimabaiaaGreatDoorPk38
import Derived.Test.YtlnbjehimabaiaaGreatDoorPk17
/-
 What shake's agree does, where it goes well. No statement of the seat is proved here.
-/
namespace Go.Proofs.YtlnbjehimabaiaaGreatDoor
open Go.RowKit
set_option maxRecDepth 8000

theorem pr11_fst (f : Bool) {ss sf : List Int} (hs : Bn 32 ss) (he : Bn 32 sf) (t : Int) (os oF : List Int) : Bn 32 (pr11 f ss sf os oF t).1 := by
 unfold pr11
 split
 ·exact he
 ·split
  ·exact he
  ·exact hs
theorem pr11_snd (f : Bool) (ss sf : List Int) {os oF : List Int} (hs : Bn 32 os) (he : Bn 32 oF) (t : Int) : Bn 32 (pr11 f ss sf os oF t).2 := by
 unfold pr11
 split
 ·exact he
 ·split
  ·exact hs
  ·exact he
set_option maxHeartbeats 4000000 in
theorem agree11_c (b : Nat) (f : Bool) (ss sf : List Int) (S : S11) (p : P11) (st : Int) (t : Int) (h3 : t = 61 ∨ t = 62 ∨ t = 60) (w : World) (hs : Zs w b f ss sf S p false st) (hg : Gs w) (hz : dh (pr11 f ss sf p.os p.oF t).1 (pr11 f ss sf p.os p.oF t).2 ≠ 0) :
  Calls Tryz.prog 88 #[.pointer (some ⟨b, 0, none⟩), .int .i32 t] w fun e w' => e = .returned (.int .i64 0) ∧ Hid (Zs w' b f ss sf (S.mk' (dh (pr11 f ss sf p.os p.oF t).1 (pr11 f ss sf p.os p.oF t).2)) p false st) ∧ ExtB b w w' := by
 have HS : Hid (Zs w b f ss sf S p false st) := hs
 have HG : Hid (Gs w) := hg
 have hM := pr11_fst f hs.bs hs.be t p.os p.oF
 have hO := pr11_snd f ss sf hs.bo hs.bp t
 have hlt := hs.lt
 clear hs hg
 go_enter Tryz.func88, Tryz.ntmps88
 go_wp2_with fail
 refine (pair11_c b f ss sf S p st t h3 _ HS.out).mono ?_
 rintro e V ⟨rfl, hb⟩
 obtain ⟨M, hMe⟩ : ∃ x, x = (pr11 f ss sf p.os p.oF t).1 := ⟨_, rfl⟩
 obtain ⟨O, hOe⟩ : ∃ x, x = (pr11 f ss sf p.os p.oF t).2 := ⟨_, rfl⟩
 rw [← hMe] at hM hz
 rw [← hOe] at hO hz
 rw [← hMe, ← hOe]
 have HME : Hid (M = (pr11 f ss sf p.os p.oF t).1) := hMe
 have HOE : Hid (O = (pr11 f ss sf p.os p.oF t).2) := hOe
 clear hMe hOe h3
 have HZ0 : Hid (dh M O ≠ 0) := hz
 clear hz
 have HB : Hid (Below w.heap.size w V) := hb
 clear hb
 go_wp2_with fail
 refine (Fc.shared_l M O (by_bn hM) (by_bn hO) _).mono ?_
 rintro e V2 ⟨z, -, hz, h, hb⟩
 obtain ⟨hz1, rfl⟩ : z ≠ 0 ∧ e = .returned (.tuple #[(.agg (List.map (Value.int .u8) (lay 32 z)).toArray), .int .i64 0]) := by
  rcases h with ⟨h0, -⟩ | h
  ·exact absurd (hz.out.symm.trans h0) HZ0.out
  ·exact h
 have HZ : Hid (z = dh M O) := hz
 clear hz hz1 h HZ0
 replace HB := hidp (HB.out.trans (hb.mono HB.out.size))
 clear hb
 obtain ⟨hlenbz, honebz, hibz⟩ := bn32_cells (lay_bn 32 z)
 obtain ⟨csbz, hcs⟩ : ∃ cs, cs = (List.map (Value.int .u8) (lay 32 z)) := ⟨_, rfl⟩
 rw [← hcs] at hlenbz honebz hibz ⊢
 have HCbz : Hid (csbz = (List.map (Value.int .u8) (lay 32 z))) := hcs
 clear hcs
 have hth := there_new V2 32 zb32 rfl 30
 have Abz : Hid (Ar ((V2.alloc (.cells zb32 30)).setCells V2.heap.size 0 csbz) V2.heap.size 32 (List.map (Value.int .u8) (lay 32 z))) := by rw [← HCbz.out]; exact ar_var _ _ 32 rfl _ _ hlenbz
 have hX : Below V2.heap.size V2 ((V2.alloc (.cells zb32 30)).setCells V2.heap.size 0 csbz) := bel_var _ _ _ _
 go_upto_region 2 with (refine wpList_store_mid rfl 30 (.tmp 5) (.tmp 14) rfl V2.heap.size 0 csbz.toArray rfl rfl (by simpa [hlenbz] using hth) (by simpa using hibz) (all_oneCell_toArray honebz) ?_)
 clear hth honebz hlenbz
 obtain ⟨W1, hnew⟩ : ∃ W, W = ((V2.alloc (.cells zb32 30)).setCells V2.heap.size 0 csbz) := ⟨_, rfl⟩
 obtain ⟨bz, hblk⟩ : ∃ q, q = V2.heap.size := ⟨_, rfl⟩
 rw [← hnew] at Abz hX ⊢
 rw [← hblk] at Abz ⊢
 rw [HCbz.out] at hibz
 clear hnew HCbz
 replace HB := hidp (HB.out.trans (hX.mono HB.out.size))
 clear hX hblk
 have HE : Hid (ExtB b w W1) := extb_of HB.out
 replace HS := hidp (HS.out.later HB.out)
 replace HG := hidp (HG.out.later HB.out)
 clear HB
 go_upto_region 4 with fail
 refine wp_region_noPanic ?_
 refine wp_region_held_drew (S := ExtB b W1) (by kernel_rfl) (ExtB.refl b W1).drew (fun hH => ?_)
 change wpAnyH _ _ _ _ _ _ #[false, false, false, false, false] _ _
 refine tn 0 ?_
 refine tn 1 ?_
 refine tn 2 ?_
 refine tn 3 ?_
 refine rdy 4 (fun K hK => ?_)
 go_simp
 refine (mixkey10_c b S.k S.h S.n S.H S.C (some ⟨bz, 0, none⟩) 32 32 (lay 32 z) _ HS.out.drew.my ((Abz.out.rd_all (lay_byt _ _) 32 (by decide)).below (Below.refl _ _).drew) (HG.out.gb.later (Below.refl _ _).drew) (by decide)).mono ?_
 rintro e V3 ⟨K1, C1, rfl, HC1, HK1, HM, hx⟩
 refine ko hK ((ExtB.refl b W1).drew.comp hx.ext) fun hH => ?_; clear hK K
 refine wpAnyH_done (by kernel_rfl) ?_ _
 refine NoPanic.normal ?_
 replace HS : Hid (Zs V3 b f ss sf (S.mk' z) p false st) := (HS.out.drew.sym HM.out hx).is (by rw [HC1.out, HK1.out]; rfl)
 replace HE : Hid (ExtB b w V3) := HE.out.comp hH
 clear HM hx hH HC1 HK1 Abz HG
 go_wp2
 go_ret
 exact ⟨rfl, by rw [← HME.out, ← HOE.out, ← HZ.out]; exact HS, HE.out⟩
end Go.Proofs.YtlnbjehimabaiaaGreatDoor
/-
 What aead's filling, Nonce and oneTimeKey do. No statement of the seat is proved here.
-/
namespace Go.Proofs.YtlnbjehimabaiaaGreatDoor
open Go.RowKit
set_option maxRecDepth 8000

set_option maxHeartbeats 1000000 in
theorem filling_c (a : Option Addr) (len cap : Nat) (hm : len ≤ 281474976710656) (w : World) :
  Calls Tryz.prog 127 #[.slice a len cap] w fun e w' => ∃ g m, e = .returned (.slice (some ⟨g, 0, none⟩) m m) ∧ m < 16 ∧ Hid (m = fl6 len) ∧ Hid (Ow w' g m (List.replicate m 0)) ∧ w.heap.size ≤ g ∧ Below w.heap.size w w' := by
 obtain ⟨i0, hi, hz0, hz1, hz2⟩ := info_parts info5
 obtain ⟨p, hp⟩ : ∃ p, p = len % 16 := ⟨_, rfl⟩
 have hp1 : Int.tmod (len : Int) 16 = (p : Int) := by rw [Int.tmod_eq_emod_of_nonneg (by omega)]; omega
 have hp2 : p < 16 := by omega
 obtain ⟨q, hq⟩ : ∃ q : Nat, q = 16 - p := ⟨_, rfl⟩
 have hq1 : (16 : Int) - (p : Int) = (q : Int) := by omega
 obtain ⟨m, hmm⟩ : ∃ m, m = q % 16 := ⟨_, rfl⟩
 have hm1 : Int.tmod (q : Int) 16 = (m : Int) := by rw [Int.tmod_eq_emod_of_nonneg (by omega)]; omega
 have hm2 : m < 16 := by omega
 have HM : Hid (m = fl6 len) := by unfold Hid fl6; rw [hmm, hq, hp]
 clear hp hmm hq
 go_enter Tryz.func127, Tryz.ntmps127
 go_wp2_with (at_make; refine wpList_make_full _ rfl _ _ 25 rfl w.heap.size 5 i0 (.int .u8 0) 1 Tryz.underlying25 hi hz0 hz1 _ _ _ _ m rfl rfl rfl rfl (by rw [hz2]; omega) (by unfold maxLen; omega) (Nat.le_refl _) ?_)
 intro W1 hown hgrow
 have hb1 : Below w.heap.size w W1 := (Below.refl _ _).grown hgrow (Nat.le_refl _) (fun k h => by cases h)
 have HO : Hid (Ow W1 w.heap.size m (List.replicate m 0)) := ⟨⟨w.heap.size, by rw [← made_zero]; simpa [Value.cells] using hown⟩, byt_zero m⟩
 clear hown hgrow hp1 hq1 hm1
 go_wp2
 go_ret
 exact ⟨_, m, rfl, hm2, HM, HO, Nat.le_refl _, hb1⟩

set_option maxHeartbeats 2000000 in
theorem nonce_c (m : Int) (h0 : 0 ≤ m) (h1 : m < 18446744073709551616) (w : World) :
  Calls Tryz.prog 56 #[.int .u64 m] w fun e w' => ∃ N, e = .returned (.agg (List.map (Value.int .u8) N).toArray) ∧ Hid (N = nn6 m) ∧ Hid (Bn 12 N) ∧ Below w.heap.size w w' := by
 go_enter Tryz.func56, Tryz.ntmps56
 go_upto_region 2 with fail
 have AD : Hid (((w.alloc (.cells zb12 91)).alloc (.cells zb12 91)).there w.heap.size 0 12) := there_later (bel1 _ _) (there_new w 12 zb12 rfl 91)
 have A3 : Hid (Ar ((w.alloc (.cells zb12 91)).alloc (.cells zb12 91)) (w.heap.size + 1) 12 (List.map (Value.int .u8) (List.replicate 12 0))) := by have := ar_box (w.alloc (.cells zb12 91)) (List.map (Value.int .u8) (List.replicate 12 0)) 12 rfl 91; simpa [Hid] using this
 have HB : Hid (Below w.heap.size w ((w.alloc (.cells zb12 91)).alloc (.cells zb12 91))) := bel2 _ _ _
 generalize ((w.alloc (.cells zb12 91)).alloc (.cells zb12 91)) = W at *
 have k1 : w.heap.size < w.heap.size + 1 := by omega
 generalize w.heap.size + 1 = b3 at *
 refine wp_region_noPanic ?_
 refine wp_region_held_drew (S := ExtB b3 W) (by kernel_rfl) (ExtB.refl _ _).drew (fun hH => ?_)
 change wpAnyH _ _ _ _ _ _ #[false, false, false, false] _ _
 refine tn 0 ?_
 refine tn 1 ?_
 refine rdy 2 (fun K hK => ?_)
 go_simp
 refine (put64_g m _ ⟨h0, h1⟩).mono ?_
 rintro e V ⟨gp, rfl, HP, hb⟩
 refine ko hK (hH.trans hb) fun hH => ?_; clear hK K
 replace hb : Below W.heap.size W V := (Below.refl _ _).drew.trans (hb.mono (Nat.le_refl _))
 replace A3 := hidp (A3.out.later hb)
 replace AD : Hid (V.there w.heap.size 0 12) := there_later hb AD.out
 replace HB := hidp (HB.out.trans (hb.mono HB.out.size))
 have hcp := fun ty => copy_c V b3 4 8 8 ⟨gp, 0, none⟩ 8 8 (lay 8 m) HP.out 8 (by decide) (there_part A3.out.all 4 8 (by decide)) ty
 rw [List.take_of_length_le (by rw [lay_length]; decide)] at hcp
 clear hb
 refine rdy 3 (fun K hK => ?_)
 go_simp
 refine ko hK (extB_setCells _ _ _ hH) fun hH => ?_; clear hK K
 refine wpAnyH_done (by kernel_rfl) ?_ _
 refine NoPanic.normal ?_
 have A4 : Hid (Ar (V.setCells b3 4 (List.map (Value.int .u8) (lay 8 m))) b3 12 (List.map (Value.int .u8) (nn6 m))) := by
  have := A3.out.part 4 (List.map (Value.int .u8) (lay 8 m)) (by rw [List.length_map, lay_length]; decide)
  rw [List.length_map, lay_length, ← List.map_take, ← List.map_drop, ← List.map_append, ← List.map_append] at this
  simpa [Hid, nn6] using this
 replace AD : Hid ((V.setCells b3 4 (List.map (Value.int .u8) (lay 8 m))).there w.heap.size 0 12) := World.there_setCells AD.out _ _ _
 replace HB : Hid (Below w.heap.size w (V.setCells b3 4 (List.map (Value.int .u8) (lay 8 m)))) := below_setCells _ (by omega) _ _ _ HB.out
 clear A3 hH hcp
 go_upto_region 3 with fail
 generalize (V.setCells b3 4 (List.map (Value.int .u8) (lay 8 m))) = Y at *
 obtain ⟨hlenE, honeE, hiE⟩ := bn12_cells (nn6_bn m)
 obtain ⟨csE, hcs⟩ : ∃ cs, cs = (List.map (Value.int .u8) (nn6 m)) := ⟨_, rfl⟩
 have HE : Hid (csE = (List.map (Value.int .u8) (nn6 m))) := hcs
 have hrE := A4.out.rng
 rw [← hcs] at hlenE honeE hiE hrE
 clear hcs
 go_wp2_with (first
  | (refine wpList_load_mid rfl 91 (.tmp 3) rfl b3 0 rfl csE _ hrE Tryz.underlying91 rfl hiE ?_)
  | (refine wpList_store_mid rfl 91 (.tmp 2) (.tmp 8) rfl w.heap.size 0 csE.toArray rfl rfl (by simpa [hlenE] using AD.out) (by simpa using hiE) (all_oneCell_toArray honeE) ?_))
 have HR2 : Hid ((Y.setCells w.heap.size 0 csE).rangeAt w.heap.size 0 csE) := World.rangeAt_setCells_same _ _ _ _ (by rw [hlenE]; exact AD.out)
 have hld := run_loadVar_mid (P := Tryz.prog) _ _ 0 91 _ _ HR2.out Tryz.underlying91 rfl hiE
 exact bodyPost_ret (v := .agg csE.toArray) (by simp [results, Tryz.results56]; exact hld) rfl ⟨nn6 m, by rw [HE.out], rfl, nn6_bn m, below_setCells _ (by omega) _ _ _ HB.out⟩


set_option maxHeartbeats 4000000 in
theorem onekey_c (key nonce : List Int) (hk : Bn 32 key) (hn : Bn 12 nonce) (w : World) :
  Calls Tryz.prog 126 #[(.agg (List.map (Value.int .u8) key).toArray), (.agg (List.map (Value.int .u8) nonce).toArray)] w fun e w' => ∃ X, e = .returned (.agg (List.map (Value.int .u8) X).toArray) ∧ Hid (X = ot6 key nonce) ∧ Hid (Bn 32 X) ∧ Below w.heap.size w w' := by
 have HK : Hid (Bn 32 key) := hk
 have HN : Hid (Bn 12 nonce) := hn
 clear hk hn
 obtain ⟨_, _, hiK⟩ := bn32_cells HK.out
 obtain ⟨_, _, hiN⟩ := bn12_cells HN.out
 go_enter Tryz.func126, Tryz.ntmps126
 go_upto_region 1 with fail
 have AK : Hid (Ar (((w.alloc (.cells (List.map (Value.int .u8) key).toArray 30)).alloc (.cells (List.map (Value.int .u8) nonce).toArray 91)).alloc (.cells zb32 30)) w.heap.size 32 (List.map (Value.int .u8) key)) := (ar_box w _ 32 HK.out.map_len _).later (bel2 _ _ _)
 have AN : Hid (Ar (((w.alloc (.cells (List.map (Value.int .u8) key).toArray 30)).alloc (.cells (List.map (Value.int .u8) nonce).toArray 91)).alloc (.cells zb32 30)) (w.heap.size + 1) 12 (List.map (Value.int .u8) nonce)) := by have := (ar_box (w.alloc (.cells (List.map (Value.int .u8) key).toArray 30)) _ 12 HN.out.map_len 91).later (bel1 _ (.cells zb32 30)); simpa [Hid] using this
 have AD : Hid ((((w.alloc (.cells (List.map (Value.int .u8) key).toArray 30)).alloc (.cells (List.map (Value.int .u8) nonce).toArray 91)).alloc (.cells zb32 30)).there (w.heap.size + 1 + 1) 0 32) := by have := there_new ((w.alloc (.cells (List.map (Value.int .u8) key).toArray 30)).alloc (.cells (List.map (Value.int .u8) nonce).toArray 91)) 32 zb32 rfl 30; simpa [Hid] using this
 have HB : Hid (Below w.heap.size w (((w.alloc (.cells (List.map (Value.int .u8) key).toArray 30)).alloc (.cells (List.map (Value.int .u8) nonce).toArray 91)).alloc (.cells zb32 30))) := bel3 _ _ _ _
 generalize (((w.alloc (.cells (List.map (Value.int .u8) key).toArray 30)).alloc (.cells (List.map (Value.int .u8) nonce).toArray 91)).alloc (.cells zb32 30)) = W0 at *
 have k1 : w.heap.size < w.heap.size + 1 := by omega
 have k2 : w.heap.size + 1 < w.heap.size + 1 + 1 := by omega
 generalize hq1 : w.heap.size + 1 = q1 at *
 generalize hq2 : q1 + 1 = q2 at *
 go_wp2_with (first
 | (refine wpList_load_mid rfl 30 (.tmp 2) rfl w.heap.size 0 rfl (List.map (Value.int .u8) key) _ AK.out.rng Tryz.underlying30 rfl hiK ?_)
 | (refine wpList_load_mid rfl 91 (.tmp 3) rfl q1 0 rfl (List.map (Value.int .u8) nonce) _ AN.out.rng Tryz.underlying91 rfl hiN ?_))
 refine (block_c key 0 nonce HK.out ⟨by decide, by decide⟩ HN.out _).mono ?_
 rintro e V ⟨B, rfl, HBk, hB, hb⟩
 have HBn : Hid (Bn 64 B) := hB
 clear hB
 have kV : q2 < W0.heap.size := there_lt AD.out (by decide)
 replace AD : Hid (V.there q2 0 32) := there_later hb AD.out
 replace HB := hidp (HB.out.trans (hb.mono HB.out.size))
 clear hb
 clear AK AN hiK hiN
 have kV2 : q2 < V.heap.size := there_lt AD.out (by decide)
 obtain ⟨hlen5, hone5, hi5⟩ := bn64_cells HBn.out
 obtain ⟨cs5, hcs⟩ : ∃ cs, cs = (List.map (Value.int .u8) B) := ⟨_, rfl⟩
 rw [← hcs] at hlen5 hone5 hi5 ⊢
 have HC5 : Hid (cs5 = (List.map (Value.int .u8) B)) := hcs
 clear hcs
 have hth := there_new V 64 zb64 rfl 163
 have A5 : Hid (Ar ((V.alloc (.cells zb64 163)).setCells V.heap.size 0 cs5) V.heap.size 64 (List.map (Value.int .u8) B)) := by rw [← HC5.out]; exact ar_var _ _ 64 rfl _ _ hlen5
 have hX : Below V.heap.size V ((V.alloc (.cells zb64 163)).setCells V.heap.size 0 cs5) := bel_var _ _ _ _
 have hbs5 : w.heap.size ≤ V.heap.size := HB.out.size
 replace AD : Hid (((V.alloc (.cells zb64 163)).setCells V.heap.size 0 cs5).there q2 0 32) := there_later hX AD.out
 replace HB := hidp (HB.out.trans (hX.mono HB.out.size))
 clear hX
 go_upto_region 2 with (refine wpList_store_mid rfl 163 (.tmp 5) (.tmp 9) rfl (V.heap.size) 0 cs5.toArray rfl rfl (by simpa [hlen5] using hth) (by simpa using hi5) (all_oneCell_toArray hone5) ?_)
 clear hth
 generalize ((V.alloc (.cells zb64 163)).setCells V.heap.size 0 cs5) = W2 at *
 generalize V.heap.size = b5 at *
 clear HC5 hone5 hlen5 hi5
 have k5 : b5 < W2.heap.size := A5.out.lt (by decide)
 go_upto_region 3 with fail
 have A6 : Hid (Ar (W2.alloc (.cells zb32 30)) W2.heap.size 32 (List.map (Value.int .u8) (List.replicate 32 0))) := ar_box W2 (List.map (Value.int .u8) (List.replicate 32 0)) 32 rfl 30
 have hX := bel1 W2 (.cells zb32 30)
 have hbs6 : w.heap.size ≤ W2.heap.size := HB.out.size
 replace AD : Hid ((W2.alloc (.cells zb32 30)).there q2 0 32) := there_later hX AD.out
 replace A5 := hidp (A5.out.later hX)
 replace HB := hidp (HB.out.trans (hX.mono HB.out.size))
 clear hX
 generalize W2.alloc (.cells zb32 30) = W3 at *
 generalize W2.heap.size = b6 at *
 refine wp_region_noPanic ?_
 refine wp_region_held_drew (S := ExtB b6 W3) (by kernel_rfl) (ExtB.refl _ _).drew (fun hH => ?_)
 change wpAnyH _ _ _ _ _ _ #[false, false, false] _ _
 refine tn 0 ?_
 refine tn 1 ?_
 have hcp := fun ty => copy_c W3.drew b6 0 32 32 ⟨b5, 0, none⟩ 64 64 B (A5.out.drew.rd_all HBn.out.byt 64 (by decide)) 32 (by decide) A6.out.drew.all ty
 obtain ⟨B2, hB2⟩ : ∃ l, l = B.take 32 := ⟨_, rfl⟩
 rw [← hB2] at hcp
 have HB2 : Hid (B2 = B.take 32) := hB2
 clear hB2
 have HBt : Hid (Bn 32 B2) := ⟨by rw [HB2.out, List.length_take, HBn.out.len]; decide, by rw [HB2.out]; exact HBn.out.byt.take 32⟩
 refine rdy 2 (fun K hK => ?_)
 go_simp
 refine ko hK (extB_setCells _ _ _ hH) fun hH => ?_; clear hK K
 refine wpAnyH_done (by kernel_rfl) ?_ _
 refine NoPanic.normal ?_
 have A7 : Hid (Ar (W3.drew.setCells b6 0 (List.map (Value.int .u8) B2)) b6 32 (List.map (Value.int .u8) B2)) := by
  have := A6.out.drew.part 0 (List.map (Value.int .u8) B2) (by rw [HBt.out.map_len]; decide)
  rw [HBt.out.map_len, ← List.map_take, ← List.map_drop, ← List.map_append, ← List.map_append] at this
  simpa [Hid] using this
 replace AD : Hid ((W3.drew.setCells b6 0 (List.map (Value.int .u8) B2)).there q2 0 32) := World.there_setCells (there_later (Below.refl _ _).drew AD.out) _ _ _
 replace HB : Hid (Below w.heap.size w (W3.drew.setCells b6 0 (List.map (Value.int .u8) B2))) := below_setCells _ (by omega) _ _ _ HB.out.drew
 clear A5 A6 hH hcp
 go_upto_region 4 with fail
 generalize (W3.drew.setCells b6 0 (List.map (Value.int .u8) B2)) = Y at *
 obtain ⟨hlenE, honeE, hiE⟩ := bn32_cells HBt.out
 obtain ⟨csE, hcs⟩ : ∃ cs, cs = (List.map (Value.int .u8) B2) := ⟨_, rfl⟩
 have HE : Hid (csE = (List.map (Value.int .u8) B2)) := hcs
 have hrE := A7.out.rng
 rw [← hcs] at hlenE honeE hiE hrE
 clear hcs
 go_wp2_with (first
  | (refine wpList_load_mid rfl 30 (.tmp 6) rfl b6 0 rfl csE _ hrE Tryz.underlying30 rfl hiE ?_)
  | (refine wpList_store_mid rfl 30 (.tmp 4) (.tmp 13) rfl q2 0 csE.toArray rfl rfl (by simpa [hlenE] using AD.out) (by simpa using hiE) (all_oneCell_toArray honeE) ?_))
 have HR2 : Hid ((Y.setCells q2 0 csE).rangeAt q2 0 csE) := World.rangeAt_setCells_same _ _ _ _ (by rw [hlenE]; exact AD.out)
 have hld := run_loadVar_mid (P := Tryz.prog) _ _ 0 30 _ _ HR2.out Tryz.underlying30 rfl hiE
 exact bodyPost_ret (v := .agg csE.toArray) (by simp [results, Tryz.results126]; exact hld) rfl ⟨B2, by rw [HE.out], by unfold Hid ot6; rw [HB2.out, HBk.out], HBt, below_setCells _ (by omega) _ _ _ HB.out⟩
end Go.Proofs.YtlnbjehimabaiaaGreatDoor
