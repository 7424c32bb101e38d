/-
 ShakeKnown's walk. No statement of the seat is proved here.
-/
import Derived.Test.YtlnbjehimabaiaaGreatDoorPk1
import Derived.Test.YtlnbjehimabaiaaGreatDoorPk46
import Derived.Test.YtlnbjehimabaiaaGreatDoorPk35
import Derived.Test.YtlnbjehimabaiaaGreatDoorPk16
namespace Go.Proofs.YtlnbjehimabaiaaGreatDoor
open Go.RowKit
set_option maxRecDepth 8000

set_option maxHeartbeats 4000000 in
theorem shakeKnown_walk (w : World) (hg : Gs w) :
  Calls Tryz.prog 3 #[] w fun e w' => e = .returned (.bool true) ∧ Below w.heap.size w w' := by
 have HG : Hid (Gs w) := hg
 clear hg
 go_enter Tryz.func3, Tryz.ntmps3
 have v1 := Go.Lib.run_convert_bytes_const (P := Tryz.prog) w 25 5 #[.int .u8 112] 1 1 Tryz.underlying25 Tryz.underlying5
 simp only [List.size_toArray, List.length_cons, List.length_nil, Nat.zero_add, Nat.reduceAdd] at v1
 have v2 := Go.Lib.run_convert_bytes_const (P := Tryz.prog) (w.alloc (.cells #[.int .u8 112] 5 (1, 2))) 25 5 #[.int .u8 112] 1 1 Tryz.underlying25 Tryz.underlying5
 simp only [List.size_toArray, List.length_cons, List.length_nil, Nat.zero_add, Nat.reduceAdd] at v2
 have hs1 : (w.alloc (.cells #[.int .u8 112] 5 (1, 2))).heap.size = w.heap.size + 1 := by simp
 rw [hs1] at v2
 have HR1 : Hid (Rd ((w.alloc (.cells #[.int .u8 112] 5 (1, 2))).alloc (.cells #[.int .u8 112] 5 (1, 2))) (some ⟨w.heap.size, 0, none⟩) 1 1 [112]) := (rd_mark w [112] (byt5 _ (by decide)) 5 (1, 2) 1 (by decide) #[.int .u8 112] (fun i hi => by match i, hi with | 0, _ => rfl)).alloc _
 have HR2 : Hid (Rd ((w.alloc (.cells #[.int .u8 112] 5 (1, 2))).alloc (.cells #[.int .u8 112] 5 (1, 2))) (some ⟨w.heap.size + 1, 0, none⟩) 1 1 [112]) := by
  have h := (rd_mark (w.alloc (.cells #[.int .u8 112] 5 (1, 2))) [112] (byt5 _ (by decide)) 5 (1, 2) 1 (by decide) #[.int .u8 112] (fun i hi => by match i, hi with | 0, _ => rfl))
  rw [hs1] at h
  exact h
 have HB : Hid (Below w.heap.size w ((w.alloc (.cells #[.int .u8 112] 5 (1, 2))).alloc (.cells #[.int .u8 112] 5 (1, 2)))) := bel2 _ _ _
 replace HG := hidp (HG.out.later HB.out)
 clear hs1
 go_wp2_with fail
 refine (pair_l (some ⟨w.heap.size, 0, none⟩) 1 1 [112] (some ⟨w.heap.size + 1, 0, none⟩) 1 1 [112] 9 (by decide) _ HR1.out HR2.out HG.out (by decide) (by decide)).mono ?_
 rintro e V1 ⟨ba, bb, a, x, b, y, rfl, kba, hab, HSB, ZA, ZB, hb⟩
 replace kba : w.heap.size ≤ ba := Nat.le_trans HB.out.size kba
 have kbb : w.heap.size ≤ bb := by omega
 replace HG := hidp (HG.out.later hb)
 replace HB := hidp (HB.out.trans (hb.mono HB.out.size))
 clear hb
 clear v1 v2 HR1 HR2
 have HXn : Hid (Bn 32 x) := ZA.out.be
 have HAn : Hid (Bn 32 a) := ZA.out.bs
 have HBn : Hid (Bn 32 b) := ZB.out.bs
 have HYn : Hid (Bn 32 y) := ZB.out.be
 obtain ⟨S0, hS0⟩ : ∃ z, z = s11 [112] := ⟨_, rfl⟩
 rw [← hS0] at ZA ZB
 have hS0h : S0.h = false := by rw [hS0]; rfl
 have hS0n : S0.n = 0 := by rw [hS0]; rfl
 clear hS0
 go_wp2_with fail
 refine (known11_any _ HG.out).mono ?_
 rintro e V2 ⟨rfl, hb⟩
 replace HG := hidp (HG.out.later hb)
 replace ZA := hidp (ZA.out.later hb)
 replace ZB := hidp (ZB.out.later hb)
 replace HB := hidp (HB.out.trans (hb.mono HB.out.size))
 clear hb
 have klba : ba < V2.heap.size := ZA.out.lt
 have klbb : bb < V2.heap.size := ZB.out.lt
 go_wp2_with fail
 refine (w0_c ba a x S0 ⟨z9l, z9l, false⟩ none 0 0 [] _ ZA.out HG.out (Rd.nil _ _ _ (fun _ => rfl)) nq_nil (by decide) (by rw [hS0n]; decide)).mono ?_
 rintro e V3 ⟨aX, nX, cX, X, rfl, HX, RX, Z', hb, hfX, hnX⟩
 have NXba : Hid (Nq ba aX nX) := hfX.nq klba
 clear klba
 have NXbb : Hid (Nq bb aX nX) := hfX.nq klbb
 clear klbb
 replace HG : Hid (Gs V3) := ZA.out.gs HG.out hb
 replace ZB : Hid (Zs V3 bb false b y S0 ⟨z9l, z9l, false⟩ false (0 : Nat)) := ZB.out.extb hb (by omega)
 replace HB : Hid (Below w.heap.size w V3) := hb.below HB.out kba
 replace ZA := Z'
 clear Z' hb
 clear hfX
 have hl : nX = 32 := by rw [← RX.out.hlen, HX.out]; exact x0_len x [] S0 hS0h
 subst hl
 go_wp2_with fail
 refine (r0_c bb b y x S0 ⟨z9l, z9l, false⟩ aX 32 cX X [] Byt.nil _ ZB.out HG.out RX.out HX.out NXbb.out (by decide) (by rw [hS0n]; decide)).mono ?_
 rintro e V4 ⟨aU0, nU0, cU0, U0, rfl, HU0, RU0, Z', hb, hfU0⟩
 replace HG : Hid (Gs V4) := ZB.out.gs HG.out hb
 replace ZA : Hid (Zs V4 ba true a x (c0 x [] S0) ⟨z9l, z9l, false⟩ false (1 : Nat)) := ZA.out.extb hb (by omega)
 replace RX : Hid (Rd V4 aX 32 cX X) := RX.out.nq hb NXbb.out
 replace HB : Hid (Below w.heap.size w V4) := hb.below HB.out kbb
 replace ZB := Z'
 clear Z' hb
 clear hfU0
 clear RX RU0
 clear HX HU0
 obtain ⟨S1, hS1⟩ : ∃ z, z = c0 x [] S0 := ⟨_, rfl⟩
 rw [← hS1] at ZA ZB
 have HS1 : Hid (S1 = c0 x [] S0) := hS1
 clear hS1
 have klba : ba < V4.heap.size := ZA.out.lt
 have klbb : bb < V4.heap.size := ZB.out.lt
 go_wp2_with fail
 refine (w1_c bb b y x HXn.out HBn.out HYn.out S1 ⟨z9l, pb x, false⟩ none 0 0 [] _ ZB.out rfl HG.out (Rd.nil _ _ _ (fun _ => rfl)) nq_nil (by decide)).mono ?_
 rintro e V5 ⟨aY, nY, cY, Y, rfl, HY, RY, Z', hb, hfY, hnY⟩
 have NYba : Hid (Nq ba aY nY) := hfY.nq klba
 clear klba
 have NYbb : Hid (Nq bb aY nY) := hfY.nq klbb
 clear klbb
 replace HG : Hid (Gs V5) := ZB.out.gs HG.out hb
 replace ZA : Hid (Zs V5 ba true a x S1 ⟨z9l, z9l, false⟩ false (1 : Nat)) := ZA.out.extb hb (by omega)
 replace HB : Hid (Below w.heap.size w V5) := hb.below HB.out kbb
 replace ZB := Z'
 clear Z' hb
 clear hfY
 have hl : nY = 96 := by rw [← RY.out.hlen, HY.out]; exact x1_len x b y S1
 subst hl
 go_wp2_with fail
 refine (r1_c ba a x b y HXn.out HBn.out HYn.out S1 ⟨z9l, z9l, false⟩ aY 96 cY Y [] Byt.nil _ ZA.out HG.out RY.out HY.out NYba.out (by decide)).mono ?_
 rintro e V6 ⟨aU1, nU1, cU1, U1, rfl, HU1, RU1, Z', hb, hfU1⟩
 replace HG : Hid (Gs V6) := ZA.out.gs HG.out hb
 replace ZB : Hid (Zs V6 bb false b y (c1 x b y [] S1) ⟨z9l, pb x, false⟩ false (2 : Nat)) := ZB.out.extb hb (by omega)
 replace RY : Hid (Rd V6 aY 96 cY Y) := RY.out.nq hb NYba.out
 replace HB : Hid (Below w.heap.size w V6) := hb.below HB.out kba
 replace ZA := Z'
 clear Z' hb
 clear hfU1
 clear RY RU1
 clear HY HU1
 have hn1 : (c1 x b y [] S1).n = 1 := c1_n _ _ _ _ _
 have hh1 : (c1 x b y [] S1).h = true := rfl
 obtain ⟨S2, hS2⟩ : ∃ z, z = c1 x b y [] S1 := ⟨_, rfl⟩
 rw [← hS2] at ZA ZB hn1 hh1
 clear hS2
 have klba : ba < V6.heap.size := ZA.out.lt
 have klbb : bb < V6.heap.size := ZB.out.lt
 go_wp2_with fail
 refine (w2_c ba a x y HAn.out HYn.out S2 ⟨pb b, pb y, true⟩ none 0 0 [] _ ZA.out rfl HG.out (Rd.nil _ _ _ (fun _ => rfl)) nq_nil (by decide) (by rw [hn1]; decide)).mono ?_
 rintro e V7 ⟨aZ, nZ, cZ, Z, rfl, HZ, RZ, Z', hb, hfZ, hnZ⟩
 have NZba : Hid (Nq ba aZ nZ) := hfZ.nq klba
 clear klba
 have NZbb : Hid (Nq bb aZ nZ) := hfZ.nq klbb
 clear klbb
 replace HG : Hid (Gs V7) := ZA.out.gs HG.out hb
 replace ZB : Hid (Zs V7 bb false b y S2 ⟨z9l, pb x, false⟩ false (2 : Nat)) := ZB.out.extb hb (by omega)
 replace HB : Hid (Below w.heap.size w V7) := hb.below HB.out kba
 replace ZA := Z'
 clear Z' hb
 clear hfZ
 have hl : nZ = 64 := by rw [← RZ.out.hlen, HZ.out]; exact x2_len a y S2 hh1 (by rw [hn1]; decide)
 subst hl
 go_wp2_with fail
 refine (r2_c bb b y a HAn.out HYn.out S2 ⟨z9l, pb x, false⟩ aZ 64 cZ Z [] Byt.nil _ ZB.out HG.out RZ.out HZ.out NZbb.out (by decide) (by rw [hn1]; decide)).mono ?_
 rintro e V8 ⟨aU2, nU2, cU2, U2, rfl, HU2, RU2, Z', hb, hfU2⟩
 replace HG : Hid (Gs V8) := ZB.out.gs HG.out hb
 replace ZA : Hid (Zs V8 ba true a x (c2 a y [] S2) ⟨pb b, pb y, true⟩ false (3 : Nat)) := ZA.out.extb hb (by omega)
 replace RZ : Hid (Rd V8 aZ 64 cZ Z) := RZ.out.nq hb NZbb.out
 replace HB : Hid (Below w.heap.size w V8) := hb.below HB.out kbb
 replace ZB := Z'
 clear Z' hb
 clear hfU2
 clear RZ RU2
 clear HZ HU2 hn1 hh1 hS0h hS0n
 obtain ⟨S3, hS3⟩ : ∃ z, z = c2 a y [] S2 := ⟨_, rfl⟩
 rw [← hS3] at ZA ZB
 clear hS3
 go_wp2_with fail
 refine (peer11_c ba true a x S3 ⟨pb b, pb y, true⟩ (3 : Nat) _ ZA.out).mono ?_
 rintro e V9 ⟨he0, hb⟩
 obtain ⟨Lp, hLp⟩ : ∃ z, z = pb b := ⟨_, rfl⟩
 have HLp : Hid (Lp = pb b) := hLp
 have HLn : Hid (Bn 32 Lp) := by rw [hLp]; exact pb_bn _
 obtain rfl : e = .returned (.tuple #[(.agg (List.map (Value.int .u8) Lp).toArray), .bool true]) := by rw [hLp]; exact he0
 clear he0 hLp
 replace HG := hidp (HG.out.later hb)
 replace ZA := hidp (ZA.out.later hb)
 replace ZB := hidp (ZB.out.later hb)
 replace HB := hidp (HB.out.trans (hb.mono HB.out.size))
 clear hb
 obtain ⟨hlenbp, honebp, hibp⟩ := bn32_cells HLn.out
 obtain ⟨csbp, hcs⟩ : ∃ cs, cs = (List.map (Value.int .u8) Lp) := ⟨_, rfl⟩
 rw [← hcs] at hlenbp honebp hibp ⊢
 have HCbp : Hid (csbp = (List.map (Value.int .u8) Lp)) := hcs
 clear hcs
 have hth := there_new V9 32 zb32 rfl 30
 have Abp : Hid (Ar ((V9.alloc (.cells zb32 30)).setCells V9.heap.size 0 csbp) V9.heap.size 32 (List.map (Value.int .u8) Lp)) := by rw [← HCbp.out]; exact ar_var _ _ 32 rfl _ _ hlenbp
 have hX : Below V9.heap.size V9 ((V9.alloc (.cells zb32 30)).setCells V9.heap.size 0 csbp) := bel_var _ _ _ _
 go_upto_region 11 with (refine wpList_store_mid rfl 30 (.tmp 15) (.tmp 73) rfl V9.heap.size 0 csbp.toArray rfl rfl (by simpa [hlenbp] using hth) (by simpa using hibp) (all_oneCell_toArray honebp) ?_)
 clear hth honebp hlenbp
 obtain ⟨W9, hnew⟩ : ∃ W, W = ((V9.alloc (.cells zb32 30)).setCells V9.heap.size 0 csbp) := ⟨_, rfl⟩
 obtain ⟨bp, hblk⟩ : ∃ q, q = V9.heap.size := ⟨_, rfl⟩
 rw [← hnew] at Abp hX ⊢
 rw [← hblk] at Abp ⊢
 rw [HCbp.out] at hibp
 clear hnew HCbp
 clear hblk
 replace HG := hidp (HG.out.later hX)
 replace ZA := hidp (ZA.out.later hX)
 replace ZB := hidp (ZB.out.later hX)
 replace HB := hidp (HB.out.trans (hX.mono HB.out.size))
 clear hX
 go_wp2_with fail
 refine (write11_no ba true a x S3 ⟨pb b, pb y, true⟩ 3 (by decide) (.inl rfl) none 0 0 _ ZA.out).mono ?_
 rintro e V10 ⟨rfl, hb⟩
 replace HG := hidp (HG.out.later hb)
 replace ZA := hidp (ZA.out.later hb)
 replace ZB := hidp (ZB.out.later hb)
 replace Abp := hidp (Abp.out.later hb)
 replace HB := hidp (HB.out.trans (hb.mono HB.out.size))
 clear hb
 go_upto_region 12 with fail
 refine wp_region_noPanic ?_
 refine wp_region_held_drew (S := Ext V10) (by kernel_rfl) (Ext.refl _).drew (fun hH => ?_)
 change wpAnyH _ _ _ _ _ _ #[false, false, false, false, false, false, false, false, false, false, false, false, false, false, false, false, false, false, false, false, false, false, false, false, false, false, false, false, false, false, false, false, false, false, false, false, false, false, false, false, false, false, false, false, false, false, false, false, false, false, false, false, false, false] _ _
 refine tn 0 ?_
 refine tn 1 ?_
 refine tn 2 ?_
 refine tn 3 ?_
 refine tn 4 ?_
 refine tn 5 ?_
 refine tn 6 ?_
 refine tn 7 ?_
 refine tn 8 ?_
 refine tn 9 ?_
 refine tn 10 ?_
 refine tn 11 ?_
 refine tn 12 ?_
 refine tn 13 ?_
 refine tn 14 ?_
 refine tn 15 ?_
 refine tn 16 ?_
 refine tn 17 ?_
 refine tn 18 ?_
 refine tn 19 ?_
 refine tn 20 ?_
 refine tn 21 ?_
 refine tn 22 ?_
 refine tn 23 ?_
 refine tn 24 ?_
 refine tn 25 ?_
 refine tn 26 ?_
 refine rdy 27 (fun K hK => ?_)
 go_simp
 refine (done11_c ba true a x S3 ⟨pb b, pb y, true⟩ 3 (by decide) _ (ZA.out.later hH)).mono ?_
 rintro e Y27 ⟨rfl, hw⟩
 rw [hw, show decide (3 = 3) = true from rfl]
 clear hw Y27
 refine ko hK hH fun hH => ?_; clear hK K
 refine tn 28 ?_
 refine tn 29 ?_
 refine tn 30 ?_
 refine rdy 31 (fun K hK => ?_)
 go_simp
 refine (done11_c bb false b y S3 ⟨pb a, pb x, true⟩ 3 (by decide) _ (ZB.out.later hH)).mono ?_
 rintro e Y31 ⟨rfl, hw⟩
 rw [hw, show decide (3 = 3) = true from rfl]
 clear hw Y31
 refine ko hK hH fun hH => ?_; clear hK K
 refine tn 32 ?_
 refine tn 33 ?_
 refine tn 34 ?_
 refine tn 36 ?_
 refine rdy 35 (fun K hK => ?_)
 go_simp
 refine (hash11_c ba true a x S3 ⟨pb b, pb y, true⟩ (3 : Nat) _ (ZA.out.later hH)).mono ?_
 rintro e Y35 ⟨rfl, hb⟩
 refine ko hK (hH.trans hb) fun hH => ?_; clear hK K
 clear hb
 refine rdy 37 (fun K hK => ?_)
 go_simp
 refine (hash11_c bb false b y S3 ⟨pb a, pb x, true⟩ (3 : Nat) _ (ZB.out.later hH)).mono ?_
 rintro e Y37 ⟨rfl, hb⟩
 refine ko hK (hH.trans hb) fun hH => ?_; clear hK K
 clear hb
 have heq : ∀ u, Sem.run Tryz.prog (binOp .eql 30 (.agg (List.map (Value.int .u8) S3.H).toArray) (.agg (List.map (Value.int .u8) S3.H).toArray)) u = .ok (.bool true) u := fun u => eql32 S3.H S3.H ZA.out.my.bh rfl u
 refine tn 38 ?_
 clear heq
 refine tn 39 ?_
 refine tn 40 ?_
 refine tn 41 ?_
 refine tn 42 ?_
 refine tn 43 ?_
 refine tnl 44 (.agg (List.map (Value.int .u8) Lp).toArray) ?_ (hy := by exact yieldsIf_load_mid (by rfl) 30 (.tmp 15) rfl bp 0 rfl (List.map (Value.int .u8) Lp) _ (fun u hu => range_later hu Abp.out.rng) Tryz.underlying30 rfl hibp)
 refine rdy 45 (fun K hK => ?_)
 go_simp
 refine (secret_l 11 _).mono ?_
 rintro e Y45 ⟨K1, rfl, HK1, HK1n, hb⟩
 refine ko hK (hH.trans hb) fun hH => ?_; clear hK K
 clear hb
 refine rdy 46 (fun K hK => ?_)
 go_simp
 refine (public_p K1 HK1n.out _).mono ?_
 rintro e Y46 ⟨X5, rfl, HX5, HX5n, hb⟩
 refine ko hK (hH.trans hb) fun hH => ?_; clear hK K
 clear hb
 have hLX : Lp = X5 := by rw [HLp.out, HX5.out, HK1.out, HSB.out, show (9 + 2 : Int) = 11 from rfl]
 have heq : ∀ u, Sem.run Tryz.prog (binOp .eql 30 (.agg (List.map (Value.int .u8) Lp).toArray) (.agg (List.map (Value.int .u8) X5).toArray)) u = .ok (.bool true) u := fun u => eql32 Lp X5 HLn.out hLX u
 clear hLX
 refine tn 47 ?_
 clear heq
 refine tn 48 ?_
 refine tn 49 ?_
 refine tn 50 ?_
 refine tn 51 ?_
 refine tn 52 ?_
 refine tn 53 ?_
 refine wpAnyH_done (by kernel_rfl) ?_ _
 refine NoPanic.normal ?_
 have hb2 : Below V10.heap.size V10 _ := hH
 replace HB := hidp (HB.out.trans (hb2.mono HB.out.size))
 clear hb2 hH
 go_wp2
 go_ret
 exact ⟨rfl, HB.out⟩
end Go.Proofs.YtlnbjehimabaiaaGreatDoor
