/-
  Several texts of one's own, laid together. No statement of the seat is proved here.
-/
import Derived.Test.YtlnbjehimabaiaaGreatDoorPk1
import Derived.Test.YtlnbjehimabaiaaGreatDoorPk36
import Derived.Test.YtlnbjehimabaiaaGreatDoorPk42
import Derived.Test.YtlnbjehimabaiaaGreatDoorPk40
import Derived.Test.YtlnbjehimabaiaaGreatDoorPk3
import Derived.Test.YtlnbjehimabaiaaGreatDoorPk38
import Derived.Test.YtlnbjehimabaiaaGreatDoorPk17
import Derived.Test.YtlnbjehimabaiaaGreatDoorPk39
/-
 What a State's Seal and Open do. No statement of the seat is proved here.
-/
namespace Go.Proofs.YtlnbjehimabaiaaGreatDoor
open Go.RowKit
set_option maxRecDepth 8000

theorem sx9_no (k : List Int) (h : Bool) (n : Int) (ad t : List Int) (he : se9 h n ≠ 0) : sx9 k h n ad t = [] := by
 unfold se9 at he
 unfold sx9
 cases h with
 | false => exact absurd rfl he
 | true =>
  rw [if_pos rfl] at he ⊢
  by_cases hn : n = 18446744073709551615
  ·rw [if_pos hn]
  ·rw [if_neg hn] at he
   exact absurd rfl he
theorem ox9_no (k : List Int) (h : Bool) (n : Int) (ad t : List Int) (he : oe9 k h n ad t ≠ 0) : ox9 k h n ad t = [] := by
 unfold oe9 at he
 unfold ox9
 cases h with
 | false => exact absurd rfl he
 | true =>
  rw [if_pos rfl] at he ⊢
  by_cases hn : n = 18446744073709551615
  ·rw [if_pos hn]
  ·rw [if_neg hn] at he ⊢
   exact op6_not _ _ _ _ he
set_option maxHeartbeats 4000000 in
theorem seal10_c (b : Nat) (k : List Int) (h : Bool) (n : Int) (H C : List Int) (at' : Option Addr) (lt ct : Nat) (text : List Int) (w : World) (hs : My w b k h n H C) (hrt : Rd w at' lt ct text) (hg : Gb w) (hb0 : 5 < b) (hb1 : 6 < b) (hm : lt ≤ 140737488351232) :
  Calls Tryz.prog 60 #[.pointer (some ⟨b, 0, none⟩), .slice at' lt ct] w fun e w' => ∃ a1 m1 c1 X E n', e = .returned (.tuple #[.slice a1 m1 c1, .int .i64 E]) ∧ Hid (X = sx9 k h n H text) ∧ Hid (E = se9 h n) ∧ Hid (n' = sn9 h n) ∧ Hid (Rd w' a1 m1 c1 X) ∧ Hid (My w' b k h n' (h10 E H X) C) ∧ ExtR b 0 98 w w' ∧ Fr w.heap.size a1 m1 ∧ m1 ≤ lt + 16 := by
 have HS : Hid (My w b k h n H C) := hs
 have HG : Hid (Gb w) := hg
 have HRT : Hid (Rd w at' lt ct text) := hrt
 have HLT : Hid (b < w.heap.size) := hs.lt
 clear hs hrt hg
 go_enter Tryz.func60, Tryz.ntmps60
 go_upto_region 1 with fail
 refine wp_region_noPanic ?_
 refine wp_region_held_drew (S := ExtR b 0 98 w) (by kernel_rfl) (ExtR.refl b 0 98 w).drew (fun hH => ?_)
 change wpAnyH _ _ _ _ _ _ #[false, false, false, false, false, false, false, false, false, false, false, false, false, false] _ _
 refine tn 0 ?_
 refine tn 1 ?_
 refine tn 2 ?_
 refine tn 3 ?_
 refine tn 4 ?_
 refine tn 5 ?_
 refine tn 6 ?_
 refine tn 7 ?_
 refine rdy 8 (fun K hK => ?_)
 go_simp
 refine (seal9o_c b 0 k h n (some ⟨b, 34, none⟩) 32 32 H at' lt ct text _ HS.out.drew.sy HS.out.drew.rdH (HRT.out.below (Below.refl _ _).drew) (by decide) (by omega)).mono ?_
 rintro e V ⟨a1, m1, c1, X, E, n', rfl, hm1, HX, HE, HN, RX, HT, hx, hfr⟩
 refine ko hK ((ExtR.refl b 0 98 w).drew.comp (hx.wider (by decide) (by decide))) fun hH => ?_; clear hK K
 refine tn 9 ?_
 refine tn 10 ?_
 refine tn 11 ?_
 refine tn 12 ?_
 refine tn 13 ?_
 refine wpAnyH_done (by kernel_rfl) ?_ _
 refine NoPanic.normal ?_
 have HFR : Hid (Fr w.heap.size a1 m1) := hfr.mono (Nat.le_refl _)
 replace RX : Hid (Rd V a1 m1 c1 X) := RX
 have HE' : Hid (ExtR b 0 98 w V) := hH
 replace HS := hidp (HS.out.drew.cip HT.out hx)
 replace HG := hidp (HG.out.extb hH.ext hb0 hb1)
 clear HT hx hfr hH HRT
 by_cases h0 : E = 0
 ·subst h0
  go_wp2_with fail
  refine (mixhash10_c b k h n' H C a1 m1 c1 X _ HS.out RX.out HG.out (by omega)).mono ?_
  rintro e V2 ⟨rfl, HS2, hx⟩
  replace RX : Hid (Rd V2 a1 m1 c1 X) := RX.out.nq hx.ext (HFR.out.nq HLT.out)
  replace HE' : Hid (ExtR b 0 98 w V2) := HE'.out.comp hx
  clear hx HS HG
  go_wp2
  go_ret2
  exact ⟨a1, m1, c1, X, 0, n', rfl, HX, HE, HN, RX, by unfold Hid h10; rw [if_pos rfl]; exact HS2.out, HE'.out, HFR.out, hm1⟩
 ·have hX0 : X = [] := by rw [HX.out]; exact sx9_no _ _ _ _ _ (by rw [← HE.out]; exact h0)
  rw [hX0] at HX
  clear hX0 RX HG HFR
  go_wp2
  go_ret2
  exact ⟨none, 0, 0, [], E, n', rfl, HX, HE, HN, Rd.nil _ _ _ (fun _ => rfl), by unfold Hid h10; rw [if_neg h0]; exact HS.out, HE'.out, fr_nil, by omega⟩
set_option maxHeartbeats 4000000 in
theorem open10_c (b : Nat) (k : List Int) (h : Bool) (n : Int) (H C : List Int) (at' : Option Addr) (lt ct : Nat) (text : List Int) (w : World) (hs : My w b k h n H C) (hrt : Rd w at' lt ct text) (hg : Gb w) (hb0 : 5 < b) (hb1 : 6 < b) (hm : lt ≤ 140737488351248) :
  Calls Tryz.prog 62 #[.pointer (some ⟨b, 0, none⟩), .slice at' lt ct] w fun e w' => ∃ a1 m1 c1 X E n', e = .returned (.tuple #[.slice a1 m1 c1, .int .i64 E]) ∧ Hid (X = ox9 k h n H text) ∧ Hid (E = oe9 k h n H text) ∧ Hid (n' = on9 k h n H text) ∧ Hid (Rd w' a1 m1 c1 X) ∧ Hid (My w' b k h n' (h10 E H text) C) ∧ ExtR b 0 98 w w' ∧ Fr w.heap.size a1 m1 := by
 have HS : Hid (My w b k h n H C) := hs
 have HG : Hid (Gb w) := hg
 have HRT : Hid (Rd w at' lt ct text) := hrt
 have HLT : Hid (b < w.heap.size) := hs.lt
 clear hs hrt hg
 go_enter Tryz.func62, Tryz.ntmps62
 go_upto_region 1 with fail
 refine wp_region_noPanic ?_
 refine wp_region_held_drew (S := ExtR b 0 98 w) (by kernel_rfl) (ExtR.refl b 0 98 w).drew (fun hH => ?_)
 change wpAnyH _ _ _ _ _ _ #[false, false, false, false, false, false, false, false, false, false, false, false, false, false] _ _
 refine tn 0 ?_
 refine tn 1 ?_
 refine tn 2 ?_
 refine tn 3 ?_
 refine tn 4 ?_
 refine tn 5 ?_
 refine tn 6 ?_
 refine tn 7 ?_
 refine rdy 8 (fun K hK => ?_)
 go_simp
 refine (open9o_c b 0 k h n (some ⟨b, 34, none⟩) 32 32 H at' lt ct text _ HS.out.drew.sy HS.out.drew.rdH (HRT.out.below (Below.refl _ _).drew) (by decide) (by omega)).mono ?_
 rintro e V ⟨a1, m1, c1, X, E, n', rfl, HX, HE, HN, RX, HT, hx, hkp, hfr⟩
 refine ko hK ((ExtR.refl b 0 98 w).drew.comp (hx.wider (by decide) (by decide))) fun hH => ?_; clear hK K
 refine tn 9 ?_
 refine tn 10 ?_
 refine tn 11 ?_
 refine tn 12 ?_
 refine tn 13 ?_
 refine wpAnyH_done (by kernel_rfl) ?_ _
 refine NoPanic.normal ?_
 have HFR : Hid (Fr w.heap.size a1 m1) := hfr.mono (Nat.le_refl _)
 replace RX : Hid (Rd V a1 m1 c1 X) := RX
 have HE' : Hid (ExtR b 0 98 w V) := hH
 replace HS := hidp (HS.out.drew.cip HT.out hx)
 replace HG := hidp (HG.out.extb hH.ext hb0 hb1)
 replace HRT : Hid (Rd V at' lt ct text) := hkp _ _ _ _ (HRT.out.below (Below.refl _ _).drew)
 clear hkp
 clear HT hx hfr hH
 by_cases h0 : E = 0
 ·subst h0
  go_wp2_with fail
  refine (mixhash10_c b k h n' H C at' lt ct text _ HS.out HRT.out HG.out (by omega)).mono ?_
  rintro e V2 ⟨rfl, HS2, hx⟩
  replace RX : Hid (Rd V2 a1 m1 c1 X) := RX.out.nq hx.ext (HFR.out.nq HLT.out)
  replace HE' : Hid (ExtR b 0 98 w V2) := HE'.out.comp hx
  clear hx HS HG HRT
  go_wp2
  go_ret2
  exact ⟨a1, m1, c1, X, 0, n', rfl, HX, HE, HN, RX, by unfold Hid h10; rw [if_pos rfl]; exact HS2.out, HE'.out, HFR.out⟩
 ·have hX0 : X = [] := by rw [HX.out]; exact ox9_no _ _ _ _ _ (by rw [← HE.out]; exact h0)
  rw [hX0] at HX
  clear hX0 RX HG HFR HRT
  go_wp2
  go_ret2
  exact ⟨none, 0, 0, [], E, n', rfl, HX, HE, HN, Rd.nil _ _ _ (fun _ => rfl), by unfold Hid h10; rw [if_neg h0]; exact HS.out, HE'.out, fr_nil⟩
end Go.Proofs.YtlnbjehimabaiaaGreatDoor
/-
 What a token that goes out makes, where it can be. No statement of the seat is proved here.
-/
namespace Go.Proofs.YtlnbjehimabaiaaGreatDoor
open Go.RowKit
set_option maxRecDepth 8000

set_option maxHeartbeats 4000000 in
theorem wtok_e (b : Nat) (f : Bool) (ss sf : List Int) (S : S11) (p : P11) (st : Int) (w : World) (hs : Zs w b f ss sf S p false st) (hg : Gs w) (t : Int) (ht : t = 101) :
  Calls Tryz.prog 58 #[.pointer (some ⟨b, 0, none⟩), .int .i32 t] w fun e w' => ∃ a n c X, e = .returned (.tuple #[.slice a n c, .int .i64 0]) ∧ Hid (X = wx sf ss t S) ∧ Hid (Rd w' a n c X) ∧ Hid (Zs w' b f ss sf (wq f ss sf p.os p.oF t S) p false st) ∧ ExtB b w w' ∧ Fr w.heap.size a n ∧ n ≤ 48 := by
 subst ht
 have HS : Hid (Zs w b f ss sf S p false st) := hs
 have HG : Hid (Gs w) := hg
 have hlt := hs.lt
 have hg0 := hs.g0
 have hg1 := hs.g1
 have hR := hs.ce.rng
 obtain ⟨hlk, hok, hik⟩ := bn32_cells hs.be
 have HK : Hid (Bn 32 sf) := hs.be
 clear hs hg
 go_enter Tryz.func58, Tryz.ntmps58
 go_wp2_with (refine wpList_load_mid rfl 30 (.tmp 13) rfl b 131 rfl (List.map (Value.int .u8) sf) _ hR Tryz.underlying30 rfl hik ?_)
 refine (Fc.public_l sf (by_bn HK.out) _).mono ?_
 rintro e V ⟨z, rfl, -, hz, hb⟩
 have HZ : Hid (lay 32 z = pb sf) := by unfold Hid pb; rw [hz.out]
 obtain ⟨X, hX0⟩ : ∃ X, X = lay 32 z := ⟨_, rfl⟩
 have HXn : Hid (Bn 32 X) := by rw [hX0]; exact lay_bn _ _
 rw [← hX0] at HZ ⊢
 have HB : Hid (Below w.heap.size w V) := hb
 have kVw := hb.size
 clear hb hz hX0 hR hlk hok hik HK
 obtain ⟨hlenbx, honebx, hibx⟩ := bn32_cells HXn.out
 obtain ⟨csbx, hcs⟩ : ∃ cs, cs = (List.map (Value.int .u8) X) := ⟨_, rfl⟩
 rw [← hcs] at hlenbx honebx hibx ⊢
 have HCbx : Hid (csbx = (List.map (Value.int .u8) X)) := hcs
 clear hcs
 have hth := there_new V 32 zb32 rfl 30
 have Abx : Hid (Ar ((V.alloc (.cells zb32 30)).setCells V.heap.size 0 csbx) V.heap.size 32 (List.map (Value.int .u8) X)) := by rw [← HCbx.out]; exact ar_var _ _ 32 rfl _ _ hlenbx
 have hX : Below V.heap.size V ((V.alloc (.cells zb32 30)).setCells V.heap.size 0 csbx) := bel_var _ _ _ _
 go_upto_region 4 with (refine wpList_store_mid rfl 30 (.tmp 6) (.tmp 15) rfl V.heap.size 0 csbx.toArray rfl rfl (by simpa [hlenbx] using hth) (by simpa using hibx) (all_oneCell_toArray honebx) ?_)
 clear hth honebx hlenbx
 obtain ⟨W1, hnew⟩ : ∃ W, W = ((V.alloc (.cells zb32 30)).setCells V.heap.size 0 csbx) := ⟨_, rfl⟩
 obtain ⟨bx, hblk⟩ : ∃ q, q = V.heap.size := ⟨_, rfl⟩
 rw [← hnew] at Abx hX ⊢
 rw [← hblk] at Abx ⊢
 rw [HCbx.out] at hibx
 clear hnew HCbx
 replace HB := hidp (HB.out.trans (hX.mono HB.out.size))
 have kbx : w.heap.size ≤ bx := by rw [hblk]; exact kVw
 clear hX hblk kVw
 have HE : Hid (ExtB b w W1) := extb_of HB.out
 have kb : b < bx := by omega
 replace HS := hidp (HS.out.later HB.out)
 replace HG := hidp (HG.out.later HB.out)
 have kww := HB.out.size
 clear HB
 refine wp_region_noPanic ?_
 refine wp_region_held_drew (S := ExtB b W1) (by kernel_rfl) (ExtB.refl b W1).drew (fun hH => ?_)
 change wpAnyH _ _ _ _ _ _ #[false, false, false, false, false] _ _
 refine tn 0 ?_
 refine tn 1 ?_
 refine tn 2 ?_
 refine tn 3 ?_
 refine rdy 4 (fun K hK => ?_)
 go_simp
 refine (mixhash10_c b S.k S.h S.n S.H S.C (some ⟨bx, 0, none⟩) 32 32 X _ HS.out.drew.my ((Abx.out.rd_all HXn.out.byt 32 (by decide)).below (Below.refl _ _).drew) (HG.out.gb.later (Below.refl _ _).drew) (by decide)).mono ?_
 rintro e V3 ⟨rfl, HM, hx⟩
 refine ko hK ((ExtB.refl b W1).drew.comp hx.ext) fun hH => ?_; clear hK K
 refine wpAnyH_done (by kernel_rfl) ?_ _
 refine NoPanic.normal ?_
 replace HS : Hid (Zs V3 b f ss sf (S.mh X) p false st) := (HS.out.drew.sym HM.out hx).is rfl
 replace HE : Hid (ExtB b w V3) := HE.out.comp hH
 have HR : Hid (Rd V3 (some ⟨bx, 0, none⟩) 32 32 X) := (Abx.out.extb hH (by omega)).rd_all HXn.out.byt 32 (by decide)
 clear HM hx hH HG Abx
 go_wp2
 go_ret2
 exact ⟨some ⟨bx, 0, none⟩, 32, 32, X, rfl, by rw [HZ.out]; rfl, HR, by rw [HZ.out] at HS; exact HS, HE.out, fr_at kbx, by decide⟩
set_option maxHeartbeats 4000000 in
theorem wtok_s (b : Nat) (f : Bool) (ss sf : List Int) (S : S11) (p : P11) (st : Int) (w : World) (hs : Zs w b f ss sf S p false st) (hg : Gs w) (t : Int) (ht : t = 115) (hn : S.n ≠ 18446744073709551615) :
  Calls Tryz.prog 58 #[.pointer (some ⟨b, 0, none⟩), .int .i32 t] w fun e w' => ∃ a n c X, e = .returned (.tuple #[.slice a n c, .int .i64 0]) ∧ Hid (X = wx sf ss t S) ∧ Hid (Rd w' a n c X) ∧ Hid (Zs w' b f ss sf (wq f ss sf p.os p.oF t S) p false st) ∧ ExtB b w w' ∧ Fr w.heap.size a n ∧ n ≤ 48 := by
 subst ht
 have HNN : Hid (S.n ≠ 18446744073709551615) := hn
 clear hn
 have HS : Hid (Zs w b f ss sf S p false st) := hs
 have HG : Hid (Gs w) := hg
 have hlt := hs.lt
 have hg0 := hs.g0
 have hg1 := hs.g1
 have hR := hs.cs.rng
 obtain ⟨hlk, hok, hik⟩ := bn32_cells hs.bs
 have HK : Hid (Bn 32 ss) := hs.bs
 clear hs hg
 go_enter Tryz.func58, Tryz.ntmps58
 go_wp2_with (refine wpList_load_mid rfl 30 (.tmp 26) rfl b 99 rfl (List.map (Value.int .u8) ss) _ hR Tryz.underlying30 rfl hik ?_)
 refine (Fc.public_l ss (by_bn HK.out) _).mono ?_
 rintro e V ⟨z, rfl, -, hz, hb⟩
 have HZ : Hid (lay 32 z = pb ss) := by unfold Hid pb; rw [hz.out]
 obtain ⟨X, hX0⟩ : ∃ X, X = lay 32 z := ⟨_, rfl⟩
 have HXn : Hid (Bn 32 X) := by rw [hX0]; exact lay_bn _ _
 rw [← hX0] at HZ ⊢
 have HB : Hid (Below w.heap.size w V) := hb
 have kVw := hb.size
 clear hb hz hX0 hR hlk hok hik HK
 obtain ⟨hlenbx, honebx, hibx⟩ := bn32_cells HXn.out
 obtain ⟨csbx, hcs⟩ : ∃ cs, cs = (List.map (Value.int .u8) X) := ⟨_, rfl⟩
 rw [← hcs] at hlenbx honebx hibx ⊢
 have HCbx : Hid (csbx = (List.map (Value.int .u8) X)) := hcs
 clear hcs
 have hth := there_new V 32 zb32 rfl 30
 have Abx : Hid (Ar ((V.alloc (.cells zb32 30)).setCells V.heap.size 0 csbx) V.heap.size 32 (List.map (Value.int .u8) X)) := by rw [← HCbx.out]; exact ar_var _ _ 32 rfl _ _ hlenbx
 have hX : Below V.heap.size V ((V.alloc (.cells zb32 30)).setCells V.heap.size 0 csbx) := bel_var _ _ _ _
 go_upto_region 8 with (refine wpList_store_mid rfl 30 (.tmp 7) (.tmp 28) rfl V.heap.size 0 csbx.toArray rfl rfl (by simpa [hlenbx] using hth) (by simpa using hibx) (all_oneCell_toArray honebx) ?_)
 clear hth honebx hlenbx
 obtain ⟨W1, hnew⟩ : ∃ W, W = ((V.alloc (.cells zb32 30)).setCells V.heap.size 0 csbx) := ⟨_, rfl⟩
 obtain ⟨bx, hblk⟩ : ∃ q, q = V.heap.size := ⟨_, rfl⟩
 rw [← hnew] at Abx hX ⊢
 rw [← hblk] at Abx ⊢
 rw [HCbx.out] at hibx
 clear hnew HCbx
 replace HB := hidp (HB.out.trans (hX.mono HB.out.size))
 have kbx : w.heap.size ≤ bx := by rw [hblk]; exact kVw
 clear hX hblk kVw
 have HE : Hid (ExtB b w W1) := extb_of HB.out
 have kb : b < bx := by omega
 replace HS := hidp (HS.out.later HB.out)
 replace HG := hidp (HG.out.later HB.out)
 have kww := HB.out.size
 clear HB
 refine wp_region_noPanic ?_
 refine wp_region_held_drew (S := ExtB b W1) (by kernel_rfl) (ExtB.refl b W1).drew (fun hH => ?_)
 change wpAnyH _ _ _ _ _ _ #[false, false, false, false, false, false, false, false, false] _ _
 refine tn 0 ?_
 refine tn 1 ?_
 refine tn 2 ?_
 refine tn 3 ?_
 refine rdy 4 (fun K hK => ?_)
 go_simp
 refine (seal10_c b S.k S.h S.n S.H S.C (some ⟨bx, 0, none⟩) 32 32 X _ HS.out.drew.my ((Abx.out.rd_all HXn.out.byt 32 (by decide)).below (Below.refl _ _).drew) (HG.out.gb.later (Below.refl _ _).drew) hg0 hg1 (by decide)).mono ?_
 rintro e V3 ⟨a1, m1, c1, Y, E, n', rfl, HY, HEE, HN, RY, HM, hx, hfr, hm1⟩
 have hE0 : E = 0 := by rw [HEE.out]; exact se9_zero _ HNN.out
 subst hE0
 refine ko hK ((ExtB.refl b W1).drew.comp hx.ext) fun hH => ?_; clear hK K
 refine tn 5 ?_
 refine tn 6 ?_
 refine tn 7 ?_
 refine tn 8 ?_
 refine wpAnyH_done (by kernel_rfl) ?_ _
 refine NoPanic.normal ?_
 have HFR : Hid (Fr w.heap.size a1 m1) := hfr.mono kww
 replace HS : Hid (Zs V3 b f ss sf (S.sq X) p false st) := (HS.out.drew.sym HM.out hx).is (by rw [HN.out, HY.out]; unfold S11.sq S11.bx; rw [se9_zero _ HNN.out])
 replace HE : Hid (ExtB b w V3) := HE.out.comp hH
 clear HM hx hH HG Abx hfr HEE HN
 go_wp2
 go_ret2
 exact ⟨a1, m1, c1, Y, rfl, by unfold Hid; rw [HY.out, HZ.out]; rfl, RY, by rw [HZ.out] at HS; exact HS, HE.out, HFR.out, hm1⟩
set_option maxHeartbeats 4000000 in
theorem wtok_m (b : Nat) (f : Bool) (ss sf : List Int) (S : S11) (p : P11) (st : Int) (w : World) (hs : Zs w b f ss sf S p false st) (hg : Gs w) (t : Int) (h3 : t = 61 ∨ t = 62 ∨ t = 60) (hz : dh (pr11 f ss sf p.os p.oF t).1 (pr11 f ss sf p.os p.oF t).2 ≠ 0) :
  Calls Tryz.prog 58 #[.pointer (some ⟨b, 0, none⟩), .int .i32 t] w fun e w' => ∃ a n c X, e = .returned (.tuple #[.slice a n c, .int .i64 0]) ∧ Hid (X = wx sf ss t S) ∧ Hid (Rd w' a n c X) ∧ Hid (Zs w' b f ss sf (wq f ss sf p.os p.oF t S) p false st) ∧ ExtB b w w' ∧ Fr w.heap.size a n ∧ n ≤ 48 := by
 have HZ : Hid (dh (pr11 f ss sf p.os p.oF t).1 (pr11 f ss sf p.os p.oF t).2 ≠ 0) := hz
 have HS : Hid (Zs w b f ss sf S p false st) := hs
 have HG : Hid (Gs w) := hg
 have h101 : ¬ t = 101 := by rcases h3 with rfl | rfl | rfl <;> decide
 have h115 : ¬ t = 115 := by rcases h3 with rfl | rfl | rfl <;> decide
 have HX : Hid ([] = wx sf ss t S) := by unfold Hid wx; rw [if_neg h101, if_neg h115]
 have HQ : Hid (S.mk' (dh (pr11 f ss sf p.os p.oF t).1 (pr11 f ss sf p.os p.oF t).2) = wq f ss sf p.os p.oF t S) := by unfold Hid wq; rw [if_neg h101, if_neg h115]
 clear hz hs hg
 go_enter Tryz.func58, Tryz.ntmps58
 go_wp2_with fail
 refine (agree11_c b f ss sf S p st t h3 _ HS.out HG.out HZ.out).mono ?_
 rintro e V ⟨rfl, HS2, hb⟩
 clear HS HG HZ
 go_wp2
 go_ret2
 exact ⟨none, 0, 0, [], rfl, HX, Rd.nil _ _ _ (fun _ => rfl), by rw [← HQ.out]; exact HS2, hb, fr_nil, by decide⟩
/-- A token that goes out. -/
theorem wtok_c (b : Nat) (f : Bool) (ss sf : List Int) (S : S11) (p : P11) (st : Int) (w : World) (hs : Zs w b f ss sf S p false st) (hg : Gs w) (t : Int) (h5 : t = 101 ∨ t = 115 ∨ t = 61 ∨ t = 62 ∨ t = 60) (hk : wk f ss sf p.os p.oF t S) :
  Calls Tryz.prog 58 #[.pointer (some ⟨b, 0, none⟩), .int .i32 t] w fun e w' => ∃ a n c X, e = .returned (.tuple #[.slice a n c, .int .i64 0]) ∧ Hid (X = wx sf ss t S) ∧ Hid (Rd w' a n c X) ∧ Hid (Zs w' b f ss sf (wq f ss sf p.os p.oF t S) p false st) ∧ ExtB b w w' ∧ Fr w.heap.size a n ∧ n ≤ 48 := by
 rcases h5 with h | h | h
 ·exact wtok_e b f ss sf S p st w hs hg t h
 ·subst h
  exact wtok_s b f ss sf S p st w hs hg 115 rfl hk
 ·have h101 : ¬ t = 101 := by rcases h with rfl | rfl | rfl <;> decide
  have h115 : ¬ t = 115 := by rcases h with rfl | rfl | rfl <;> decide
  unfold wk at hk
  rw [if_neg h101, if_neg h115] at hk
  exact wtok_m b f ss sf S p st w hs hg t h hk
end Go.Proofs.YtlnbjehimabaiaaGreatDoor
/-
 What a message that goes out is. No statement of the seat is proved here.
-/
namespace Go.Proofs.YtlnbjehimabaiaaGreatDoor
open Go.RowKit
set_option maxRecDepth 8000

set_option maxHeartbeats 4000000 in
theorem written11_c (b : Nat) (f : Bool) (ss sf : List Int) (S : S11) (p : P11) (st : Nat) (h3 : st < 3) (ap : Option Addr) (lp cp : Nat) (x : List Int) (w : World) (hs : Zs w b f ss sf S p false st) (hg : Gs w) (hr : Rd w ap lp cp x) (hq : Nq b ap lp) (hm : lp ≤ 1000000) (hk : wks f ss sf p.os p.oF (tk11 st) S) (hn : (wqs f ss sf p.os p.oF (tk11 st) S).n ≠ 18446744073709551615) :
  Calls Tryz.prog 33 #[.pointer (some ⟨b, 0, none⟩), .slice ap lp cp] w fun e w' => ∃ a n c X, e = .returned (.tuple #[.slice a n c, .int .i64 0]) ∧ Hid (X = wxs f ss sf p.os p.oF (tk11 st) S ++ (wqs f ss sf p.os p.oF (tk11 st) S).bx x) ∧ Hid (Rd w' a n c X) ∧ Hid (Zs w' b f ss sf ((wqs f ss sf p.os p.oF (tk11 st) S).sq x) p false st) ∧ ExtB b w w' ∧ Fr w.heap.size a n ∧ n ≤ lp + 1000 := by
 have HS0 : Hid (Zs w b f ss sf S p false st) := hs
 have HG0 : Hid (Gs w) := hg
 have HRP : Hid (Rd w ap lp cp x) := hr
 have hlt := hs.lt
 have hg0 := hs.g0
 have hg1 := hs.g1
 obtain ⟨SF, hSF⟩ : ∃ z, z = wqs f ss sf p.os p.oF (tk11 st) S := ⟨_, rfl⟩
 obtain ⟨XF, hXF⟩ : ∃ z, z = wxs f ss sf p.os p.oF (tk11 st) S := ⟨_, rfl⟩
 rw [← hSF] at hn ⊢
 rw [← hXF]
 have HSF : Hid (wqs f ss sf p.os p.oF (tk11 st) S = SF) := hSF.symm
 have HXF : Hid (wxs f ss sf p.os p.oF (tk11 st) S = XF) := hXF.symm
 have HK : Hid (wks f ss sf p.os p.oF (tk11 st) S) := hk
 have HN : Hid (SF.n ≠ 18446744073709551615) := hn
 have c2 := hs.step.1
 have c3 := hg.cell st h3
 have q1 : (st : Int) < 3 := by omega
 have q0 : (0 : Int) ≤ (st : Int) := by omega
 clear hs hg hr hSF hXF hk hn
 go_enter Tryz.func33, Tryz.ntmps33
 go_wp2
 obtain ⟨it, hit0⟩ : ∃ q, q = w.heap.size := ⟨_, rfl⟩
 rw [← hit0]
 have HIT : Hid (it = w.heap.size) := hit0
 clear hit0
 go_loopw [6] (fun mv wr => ∃ (pos : Nat) (Sc : S11) (a : Option Addr) (n c : Nat) (X : List Int), mv = .slice a n c ∧ Hid (Rd wr a n c X) ∧ Fr (w.heap.size + 1) a n ∧ Hid (Zs wr b f ss sf Sc p false st) ∧ Hid (ExtB b w wr) ∧ wr.heap[it]? = some (.stringIter (tB st) pos) ∧ pos ≤ (tB st).size ∧ Hid (wqs f ss sf p.os p.oF ((tk11 st).drop pos) Sc = SF) ∧ Hid (X ++ wxs f ss sf p.os p.oF ((tk11 st).drop pos) Sc = XF) ∧ Hid (wks f ss sf p.os p.oF ((tk11 st).drop pos) Sc) ∧ n ≤ 48 * pos) (fun _ wr => (tB st).size - wr.iterPos it)
 case atStart =>
  have hb := bel1 w (.stringIter (tB st) 0)
  exact ⟨0, S, none, 0, 0, [], rfl, Rd.nil _ _ _ (fun _ => rfl), fr_nil, HS0.out.later hb, extb_of hb, by rw [HIT.out]; exact heap_alloc_new w _, Nat.zero_le _, HSF, HXF, HK, Nat.zero_le _⟩
 case round =>
  clear c2 c3 q0 q1
  obtain ⟨pos, Sc, a, n, c, X, rfl, RX, HFX, HS, HE, hit, hps, HQ, HX, HKs, hn48⟩ := hrel
  have hsi : it < wr.heap.size := (Array.getElem?_eq_some_iff.1 hit).1
  have hiw : w.heap.size ≤ it := by rw [HIT.out]; exact Nat.le_refl _
  have hbi : b < it := by omega
  by_cases hp : pos < (tB st).size
  ·obtain ⟨hasc, htk⟩ := tB_at st pos h3 hp
   have hnx : ∀ ty, (Instr.next (.pointer (some ⟨it, 0, none⟩)) true ty).run Tryz.prog wr = _ := fun ty => Lib.run_next_ascii_at wr it (tB st) pos ty hit hp hasc
   obtain ⟨t, ht⟩ : ∃ t : Int, t = (((tB st)[pos]'hp).toNat : Int) := ⟨_, rfl⟩
   simp only [← ht] at hnx
   rw [← ht] at htk
   have h5 := tk_mem htk
   rw [tk_drop htk] at HQ HX HKs
   have hq4 : pos < 4 := by have := tk_len st; have := tB_size st; omega
   have hx0 := extb_iterAt wr it (tB st) (pos + 1)
   have hit2 := Lib.iterAt_heap wr it (tB st) pos (pos + 1) hit
   have hsz2 : wr.heap.size = (wr.iterAt it (tB st) (pos + 1)).heap.size := (Lib.iterAt_size _ _ _ _).symm
   replace HS : Hid (Zs (wr.iterAt it (tB st) (pos + 1)) b f ss sf Sc p false st) := HS.out.extb hx0 (by omega)
   replace RX : Hid (Rd (wr.iterAt it (tB st) (pos + 1)) a n c X) := RX.out.nq hx0 (HFX.nq (by have := HIT.out; omega))
   replace HE : Hid (ExtB b w (wr.iterAt it (tB st) (pos + 1))) := extb_iter HE.out (by omega) _ _
   obtain ⟨W1, hW1⟩ : ∃ W, W = wr.iterAt it (tB st) (pos + 1) := ⟨_, rfl⟩
   rw [← hW1] at HS RX HE hit2 hsz2
   rw [← hW1] at hnx
   have HIT0 : Hid (wr.heap[it]? = some (.stringIter (tB st) pos)) := hit
   clear hx0 hW1 hit hasc htk ht
   go_wp2_with fail
   refine (wtok_c b f ss sf Sc p st _ HS.out (HS0.out.gs HG0.out HE.out) t h5 HKs.out.1).mono ?_
   rintro e V ⟨a1, n1, c1, X1, rfl, HX1, R1, HS1, hb, hf1, hn1⟩
   clear hnx
   have hitV : V.heap[it]? = some (.stringIter (tB st) (pos + 1)) := (hb.block it (by omega) (by omega)).trans hit2
   replace RX : Hid (Rd V a n c X) := RX.out.nq hb (HFX.nq (by have := HIT.out; omega))
   replace HE : Hid (ExtB b w V) := HE.out.comp hb
   have hsV : wr.heap.size ≤ V.heap.size := by rw [hsz2]; exact hb.size
   clear hb hit2 HS hsz2
   have hb1 := bel1 V (.cells #[.slice a n c, .slice a1 n1 c1] 25)
   have Y1 : Hid (RdL (V.alloc (.cells #[.slice a n c, .slice a1 n1 c1] 25)) (some ⟨V.heap.size, 0, none⟩) 2 [X, X1]) := RdL.two V a n c X a1 n1 c1 X1 25 RX.out R1.out
   have hfl : [X, X1].flatten = X ++ X1 := by rw [List.flatten_cons, List.flatten_cons, List.flatten_nil, List.append_nil]
   have hbt : Byt (X ++ X1) := RX.out.byt.app R1.out.byt
   have hjl : (X ++ X1).length = n + n1 := by rw [List.length_append, RX.out.hlen, R1.out.hlen]
   go_wp2_with fail
   refine (join_l (some ⟨V.heap.size, 0, none⟩) 2 2 [X, X1] _ Y1.out (by decide) (by rw [hfl, hjl]; omega) (by rw [hfl]; exact hbt)).mono ?_
   rintro e V2 ⟨g, tJ, XJ, rfl, HTJ, HXJ, HOJ, hgJ, hb2⟩
   have HXJ' : Hid (XJ = X ++ X1) := by unfold Hid; rw [HXJ.out, hfl]
   have HTL : Hid (tJ = n + n1) := by unfold Hid; rw [HTJ.out, hfl, hjl]
   replace hgJ : V.heap.size ≤ g := Nat.le_trans hb1.size hgJ
   have hbJ : Below V.heap.size V V2 := hb1.trans (hb2.mono hb1.size)
   have RJ : Hid (Rd V2 (some ⟨g, 0, none⟩) tJ tJ XJ) := HOJ.out.rd
   clear hb1 hb2 Y1 hfl hbt hjl HTJ HXJ HOJ
   have hitV2 : V2.heap[it]? = some (.stringIter (tB st) (pos + 1)) := (hbJ.block it (by omega)).trans hitV
   have HS2 : Hid (Zs V2 b f ss sf (wq f ss sf p.os p.oF t Sc) p false st) := HS1.out.later hbJ
   replace HE : Hid (ExtB b w V2) := HE.out.comp (extb_of hbJ)
   clear hitV HS1
   go_wp2
   go_roundw
   case rel =>
    refine ⟨pos + 1, _, _, _, _, XJ, rfl, RJ, fr_at (by have := HIT.out; omega), HS2, HE, hitV2, by omega, HQ, ?_, HKs.out.2, by have := HTL.out; omega⟩
    have := HX.out
    rw [show wxs f ss sf p.os p.oF (t :: (tk11 st).drop (pos + 1)) Sc = wx sf ss t Sc ++ wxs f ss sf p.os p.oF ((tk11 st).drop (pos + 1)) (wq f ss sf p.os p.oF t Sc) from rfl, ← HX1.out, ← List.append_assoc, ← HXJ'.out] at this
    exact this
   case measure =>
    simp only [World.iterPos, hitV2, HIT0.out]
    omega
  ·have hnx : ∀ ty, (Instr.next (.pointer (some ⟨it, 0, none⟩)) true ty).run Tryz.prog wr = _ := fun ty => Lib.run_next_end_at wr it (tB st) pos ty hit hp
   have hdr : (tk11 st).drop pos = [] := List.drop_eq_nil_of_le (by have := tB_size st; omega)
   have hq4 : pos ≤ 4 := by have := tk_len st; have := tB_size st; omega
   rw [hdr] at HQ HX
   have hSc : Sc = SF := HQ.out
   have hXe : X = XF := by have := HX.out; rwa [show wxs f ss sf p.os p.oF [] Sc = [] from rfl, List.append_nil] at this
   subst hSc hXe
   clear HQ HX HKs hdr hit HSF HXF HK
   have hwr := HE.out.size
   go_wp2_with fail
   refine (seal10_c b Sc.k Sc.h Sc.n Sc.H Sc.C ap lp cp x _ HS.out.my (HRP.out.nq HE.out hq) (HS0.out.gs HG0.out HE.out).gb hg0 hg1 (by omega)).mono ?_
   rintro e V ⟨a1, n1, c1, X1, E, n', rfl, HX1, HEE, HN', R1, HM, hx, hfr, hn1⟩
   clear hnx
   have hE0 : E = 0 := by rw [HEE.out]; exact se9_zero _ HN.out
   subst hE0
   have HS1 : Hid (Zs V b f ss sf (Sc.sq x) p false st) := (HS.out.sym HM.out hx).is (by rw [HN'.out, HX1.out]; unfold S11.sq S11.bx; rw [se9_zero _ HN.out])
   replace RX : Hid (Rd V a n c X) := RX.out.nq hx.ext (HFX.nq (by have := HIT.out; omega))
   replace HE : Hid (ExtB b w V) := HE.out.comp hx.ext
   have hsV := hx.ext.size
   clear HM hx HS HEE HN' hfr
   have hb1 := bel1 V (.cells #[.slice a n c, .slice a1 n1 c1] 25)
   have Y1 : Hid (RdL (V.alloc (.cells #[.slice a n c, .slice a1 n1 c1] 25)) (some ⟨V.heap.size, 0, none⟩) 2 [X, X1]) := RdL.two V a n c X a1 n1 c1 X1 25 RX.out R1.out
   have hfl : [X, X1].flatten = X ++ X1 := by rw [List.flatten_cons, List.flatten_cons, List.flatten_nil, List.append_nil]
   have hbt : Byt (X ++ X1) := RX.out.byt.app R1.out.byt
   have hjl : (X ++ X1).length = n + n1 := by rw [List.length_append, RX.out.hlen, R1.out.hlen]
   go_wp2_with fail
   refine (join_l (some ⟨V.heap.size, 0, none⟩) 2 2 [X, X1] _ Y1.out (by decide) (by rw [hfl, hjl]; omega) (by rw [hfl]; exact hbt)).mono ?_
   rintro e V2 ⟨g, tJ, XJ, rfl, HTJ, HXJ, HOJ, hgJ, hb2⟩
   have HXJ' : Hid (XJ = X ++ X1) := by unfold Hid; rw [HXJ.out, hfl]
   have HTL : Hid (tJ = n + n1) := by unfold Hid; rw [HTJ.out, hfl, hjl]
   replace hgJ : V.heap.size ≤ g := Nat.le_trans hb1.size hgJ
   have hbJ : Below V.heap.size V V2 := hb1.trans (hb2.mono hb1.size)
   have RJ : Hid (Rd V2 (some ⟨g, 0, none⟩) tJ tJ XJ) := HOJ.out.rd
   clear hb1 hb2 Y1 hfl hbt hjl HTJ HXJ HOJ
   have HS2 : Hid (Zs V2 b f ss sf (Sc.sq x) p false st) := HS1.out.later hbJ
   replace HE : Hid (ExtB b w V2) := HE.out.comp (extb_of hbJ)
   have hgw : w.heap.size ≤ g := by omega
   have hnl : tJ ≤ lp + 1000 := by have := HTL.out; omega
   have HXF : Hid (XJ = X ++ Sc.bx x) := by unfold Hid; rw [HXJ'.out, HX1.out]; rfl
   clear HS1 hbJ
   go_wp2
   go_ret2
   exact ⟨_, _, _, XJ, rfl, HXF, RJ, HS2, HE.out, fr_at hgw, hnl⟩
end Go.Proofs.YtlnbjehimabaiaaGreatDoor
/-
 What shake's Write does. No statement of the seat is proved here.
-/
namespace Go.Proofs.YtlnbjehimabaiaaGreatDoor
open Go.RowKit
set_option maxRecDepth 8000

set_option maxHeartbeats 4000000 in
theorem write11_c (b : Nat) (f : Bool) (ss sf : List Int) (S : S11) (p : P11) (st : Nat) (hlt3 : st < 3) (hwr : wr11 f st = true) (ap : Option Addr) (lp cp : Nat) (x : List Int) (w : World) (hs : Zs w b f ss sf S p false st) (hg : Gs w) (hr : Rd w ap lp cp x) (hq : Nq b ap lp) (hm : lp ≤ 3900) (hk : wks f ss sf p.os p.oF (tk11 st) S) (hn : (wqs f ss sf p.os p.oF (tk11 st) S).n ≠ 18446744073709551615) :
  Calls Tryz.prog 10 #[.pointer (some ⟨b, 0, none⟩), .slice ap lp cp] w fun e w' => ∃ a n c X, e = .returned (.tuple #[.slice a n c, .int .i64 0]) ∧ Hid (X = wxs f ss sf p.os p.oF (tk11 st) S ++ (wqs f ss sf p.os p.oF (tk11 st) S).bx x) ∧ Hid (Rd w' a n c X) ∧ Hid (Zs w' b f ss sf ((wqs f ss sf p.os p.oF (tk11 st) S).sq x) p false (st + 1 : Nat)) ∧ ExtB b w w' ∧ Fr w.heap.size a n ∧ n ≤ lp + 1000 := by
 have HS : Hid (Zs w b f ss sf S p false st) := hs
 have HG : Hid (Gs w) := hg
 have HR : Hid (Rd w ap lp cp x) := hr
 have HK : Hid (wks f ss sf p.os p.oF (tk11 st) S) := hk
 have HN : Hid ((wqs f ss sf p.os p.oF (tk11 st) S).n ≠ 18446744073709551615) := hn
 have hlt := hs.lt
 have h4 : st = 0 ∨ st = 1 ∨ st = 2 ∨ st = 3 := by omega
 clear hs hg hr hk hn
 go_enter Tryz.func10, Tryz.ntmps10
 go_wp2_with fail
 refine (open11_c b f ss sf S p st h4 _ HS.out).mono ?_
 rintro e V ⟨rfl, hw0⟩
 rw [hw0, decide_eq_true hlt3]
 clear hw0 V
 go_wp2_with fail
 refine (writes11_c b f ss sf S p st h4 _ HS.out).mono ?_
 rintro e V1 ⟨rfl, hb⟩
 rw [hwr]
 replace HS := hidp (HS.out.later hb)
 have HB : Hid (Below w.heap.size w V1) := hb
 replace HG := hidp (HG.out.later hb)
 replace HR := hidp (HR.out.below hb)
 clear hb
 have q1 : ¬ (lp : Int) > 3900 := by omega
 go_wp2_with fail
 refine (written11_c b f ss sf S p st hlt3 ap lp cp x _ HS.out HG.out HR.out hq (by omega) HK.out HN.out).mono ?_
 rintro e V2 ⟨a, n, c, X, rfl, HX, RX, HS2, hb, hfr, hn1⟩
 have hfr2 : Fr w.heap.size a n := hfr.mono HB.out.size
 have HNQ : Hid (Nq b a n) := hfr2.nq hlt
 have HE : Hid (ExtB b w V2) := (extb_of HB.out).comp hb
 clear hb hfr HS HG HR HK HN HB
 go_wp2_with fail
 refine (went11_c b f ss sf _ p st h4 _ HS2.out).mono ?_
 rintro e V3 ⟨rfl, HS3, hb⟩
 replace RX : Hid (Rd V3 a n c X) := RX.out.nq hb HNQ.out
 replace HE : Hid (ExtB b w V3) := HE.out.comp hb
 clear hb HS2 HNQ
 go_wp2
 go_ret2
 exact ⟨a, n, c, X, rfl, HX, RX, HS3, HE.out, hfr2, hn1⟩
set_option maxHeartbeats 4000000 in
theorem write11_no (b : Nat) (f : Bool) (ss sf : List Int) (S : S11) (p : P11) (st : Nat) (h4 : st = 0 ∨ st = 1 ∨ st = 2 ∨ st = 3) (hno : st = 3 ∨ wr11 f st = false) (ap : Option Addr) (lp cp : Nat) (w : World) (hs : Zs w b f ss sf S p false st) :
  Calls Tryz.prog 10 #[.pointer (some ⟨b, 0, none⟩), .slice ap lp cp] w fun e w' => e = .returned (.tuple #[.slice none 0 0, .int .i64 4]) ∧ Below w.heap.size w w' := by
 have HS : Hid (Zs w b f ss sf S p false st) := hs
 clear hs
 by_cases hlt3 : st < 3
 ·have hwr : wr11 f st = false := by
   rcases hno with h | h
   ·omega
   ·exact h
  clear hno
  go_enter Tryz.func10, Tryz.ntmps10
  go_wp2_with fail
  refine (open11_c b f ss sf S p st h4 _ HS.out).mono ?_
  rintro e V ⟨rfl, hw0⟩
  rw [hw0, decide_eq_true hlt3]
  clear hw0 V
  go_wp2_with fail
  refine (writes11_c b f ss sf S p st h4 _ HS.out).mono ?_
  rintro e V1 ⟨rfl, hb⟩
  rw [hwr]
  replace HS := hidp (HS.out.later hb)
  have HB : Hid (Below w.heap.size w V1) := hb
  clear hb
  go_wp2
  go_ret2
  exact ⟨rfl, HB.out⟩
 ·go_enter Tryz.func10, Tryz.ntmps10
  go_wp2_with fail
  refine (open11_c b f ss sf S p st h4 _ HS.out).mono ?_
  rintro e V ⟨rfl, hw0⟩
  rw [hw0, decide_eq_false hlt3]
  clear hw0 V
  go_wp2
  go_ret2
  exact ⟨rfl, Below.refl _ _⟩
set_option maxHeartbeats 4000000 in
theorem write11_long (b : Nat) (f : Bool) (ss sf : List Int) (S : S11) (p : P11) (st : Nat) (hlt3 : st < 3) (hwr : wr11 f st = true) (ap : Option Addr) (lp cp : Nat) (w : World) (hs : Zs w b f ss sf S p false st) (hm : 3900 < lp) :
  Calls Tryz.prog 10 #[.pointer (some ⟨b, 0, none⟩), .slice ap lp cp] w fun e w' => e = .returned (.tuple #[.slice none 0 0, .int .i64 6]) ∧ Below w.heap.size w w' := by
 have HS : Hid (Zs w b f ss sf S p false st) := hs
 have h4 : st = 0 ∨ st = 1 ∨ st = 2 ∨ st = 3 := by omega
 clear hs
 go_enter Tryz.func10, Tryz.ntmps10
 go_wp2_with fail
 refine (open11_c b f ss sf S p st h4 _ HS.out).mono ?_
 rintro e V ⟨rfl, hw0⟩
 rw [hw0, decide_eq_true hlt3]
 clear hw0 V
 go_wp2_with fail
 refine (writes11_c b f ss sf S p st h4 _ HS.out).mono ?_
 rintro e V1 ⟨rfl, hb⟩
 rw [hwr]
 replace HS := hidp (HS.out.later hb)
 have HB : Hid (Below w.heap.size w V1) := hb
 clear hb
 have q1 : (lp : Int) > 3900 := by omega
 go_wp2
 go_ret2
 exact ⟨rfl, HB.out⟩
end Go.Proofs.YtlnbjehimabaiaaGreatDoor
