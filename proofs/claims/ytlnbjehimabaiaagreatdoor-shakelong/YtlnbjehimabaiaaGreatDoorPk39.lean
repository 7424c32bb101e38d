/-
  Several texts of one's own, laid together. No statement of the seat is proved here.
-/
import Derived.Test.YtlnbjehimabaiaaGreatDoorPk1
import Derived.Test.YtlnbjehimabaiaaGreatDoorPk34
import Derived.Test.YtlnbjehimabaiaaGreatDoorPk38
import Derived.Test.YtlnbjehimabaiaaGreatDoorPk16
import Derived.Test.YtlnbjehimabaiaaGreatDoorPk30
/-
 What shake's small methods do. No statement of the seat is proved here.
-/
namespace Go.Proofs.YtlnbjehimabaiaaGreatDoor
open Go.RowKit
set_option maxRecDepth 8000

set_option maxHeartbeats 4000000 in
theorem open11_c (b : Nat) (f : Bool) (ss sf : List Int) (S : S11) (p : P11) (st : Nat) (h3 : st = 0 ∨ st = 1 ∨ st = 2 ∨ st = 3) (w : World) (hs : Zs w b f ss sf S p false st) :
  Calls Tryz.prog 31 #[.pointer (some ⟨b, 0, none⟩)] w fun e w' => e = .returned (.bool (decide (st < 3))) ∧ w' = w := by
 have c1 := hs.wrong.1
 rcases h3 with rfl | rfl | rfl | rfl
 ·have c2 : w.cell? ⟨b, 229, none⟩ = some (.int .i64 0) := hs.step.1
  clear hs
  go_enter Tryz.func31, Tryz.ntmps31
  go_wp2_with fail
  go_ret
  exact ⟨rfl, rfl⟩
 ·have c2 : w.cell? ⟨b, 229, none⟩ = some (.int .i64 1) := hs.step.1
  clear hs
  go_enter Tryz.func31, Tryz.ntmps31
  go_wp2_with fail
  go_ret
  exact ⟨rfl, rfl⟩
 ·have c2 : w.cell? ⟨b, 229, none⟩ = some (.int .i64 2) := hs.step.1
  clear hs
  go_enter Tryz.func31, Tryz.ntmps31
  go_wp2_with fail
  go_ret
  exact ⟨rfl, rfl⟩
 ·have c2 : w.cell? ⟨b, 229, none⟩ = some (.int .i64 3) := hs.step.1
  clear hs
  go_enter Tryz.func31, Tryz.ntmps31
  go_wp2_with fail
  go_ret
  exact ⟨rfl, rfl⟩
set_option maxHeartbeats 4000000 in
theorem writes11_c (b : Nat) (f : Bool) (ss sf : List Int) (S : S11) (p : P11) (st : Nat) (h3 : st = 0 ∨ st = 1 ∨ st = 2 ∨ st = 3) (w : World) (hs : Zs w b f ss sf S p false st) :
  Calls Tryz.prog 32 #[.pointer (some ⟨b, 0, none⟩)] w fun e w' => e = .returned (.bool (wr11 f st)) ∧ Below w.heap.size w w' := by
 have c1 := hs.first
 have hlt := hs.lt
 rcases h3 with rfl | rfl | rfl | rfl
 ·have c2 : w.cell? ⟨b, 229, none⟩ = some (.int .i64 0) := hs.step.1
  clear hs
  go_enter Tryz.func32, Tryz.ntmps32
  go_upto_region 1 with fail
  refine wp_region_noPanic ?_
  refine wp_region_held_drew (S := Ext w) (by kernel_rfl) (Ext.refl _).drew (fun hH => ?_)
  change wpAnyH _ _ _ _ _ _ #[false, false, false, false, false, false, false, false, false, false, false, false] _ _
  refine tn 0 ?_
  refine tn 1 ?_
  refine tn 2 ?_
  refine tn 3 ?_ (hy := by (intro u hu; (have hx := hu.cell c1; go_simp) <;> with_reducible rfl))
  refine tn 4 ?_
  refine tn 5 ?_
  refine tn 6 ?_
  refine tn 7 ?_ (hy := by (intro u hu; (have hx := hu.cell c2; go_simp) <;> with_reducible rfl))
  refine tn 8 ?_
  refine tn 9 ?_
  refine tn 10 ?_
  refine tn 11 ?_
  refine wpAnyH_done (by kernel_rfl) ?_ _
  refine NoPanic.normal ?_
  go_wp2
  go_ret
  exact ⟨by cases f <;> rfl, hH⟩
 ·have c2 : w.cell? ⟨b, 229, none⟩ = some (.int .i64 1) := hs.step.1
  clear hs
  go_enter Tryz.func32, Tryz.ntmps32
  go_upto_region 1 with fail
  refine wp_region_noPanic ?_
  refine wp_region_held_drew (S := Ext w) (by kernel_rfl) (Ext.refl _).drew (fun hH => ?_)
  change wpAnyH _ _ _ _ _ _ #[false, false, false, false, false, false, false, false, false, false, false, false] _ _
  refine tn 0 ?_
  refine tn 1 ?_
  refine tn 2 ?_
  refine tn 3 ?_ (hy := by (intro u hu; (have hx := hu.cell c1; go_simp) <;> with_reducible rfl))
  refine tn 4 ?_
  refine tn 5 ?_
  refine tn 6 ?_
  refine tn 7 ?_ (hy := by (intro u hu; (have hx := hu.cell c2; go_simp) <;> with_reducible rfl))
  refine tn 8 ?_
  refine tn 9 ?_
  refine tn 10 ?_
  refine tn 11 ?_
  refine wpAnyH_done (by kernel_rfl) ?_ _
  refine NoPanic.normal ?_
  go_wp2
  go_ret
  exact ⟨by cases f <;> rfl, hH⟩
 ·have c2 : w.cell? ⟨b, 229, none⟩ = some (.int .i64 2) := hs.step.1
  clear hs
  go_enter Tryz.func32, Tryz.ntmps32
  go_upto_region 1 with fail
  refine wp_region_noPanic ?_
  refine wp_region_held_drew (S := Ext w) (by kernel_rfl) (Ext.refl _).drew (fun hH => ?_)
  change wpAnyH _ _ _ _ _ _ #[false, false, false, false, false, false, false, false, false, false, false, false] _ _
  refine tn 0 ?_
  refine tn 1 ?_
  refine tn 2 ?_
  refine tn 3 ?_ (hy := by (intro u hu; (have hx := hu.cell c1; go_simp) <;> with_reducible rfl))
  refine tn 4 ?_
  refine tn 5 ?_
  refine tn 6 ?_
  refine tn 7 ?_ (hy := by (intro u hu; (have hx := hu.cell c2; go_simp) <;> with_reducible rfl))
  refine tn 8 ?_
  refine tn 9 ?_
  refine tn 10 ?_
  refine tn 11 ?_
  refine wpAnyH_done (by kernel_rfl) ?_ _
  refine NoPanic.normal ?_
  go_wp2
  go_ret
  exact ⟨by cases f <;> rfl, hH⟩
 ·have c2 : w.cell? ⟨b, 229, none⟩ = some (.int .i64 3) := hs.step.1
  clear hs
  go_enter Tryz.func32, Tryz.ntmps32
  go_upto_region 1 with fail
  refine wp_region_noPanic ?_
  refine wp_region_held_drew (S := Ext w) (by kernel_rfl) (Ext.refl _).drew (fun hH => ?_)
  change wpAnyH _ _ _ _ _ _ #[false, false, false, false, false, false, false, false, false, false, false, false] _ _
  refine tn 0 ?_
  refine tn 1 ?_
  refine tn 2 ?_
  refine tn 3 ?_ (hy := by (intro u hu; (have hx := hu.cell c1; go_simp) <;> with_reducible rfl))
  refine tn 4 ?_
  refine tn 5 ?_
  refine tn 6 ?_
  refine tn 7 ?_ (hy := by (intro u hu; (have hx := hu.cell c2; go_simp) <;> with_reducible rfl))
  refine tn 8 ?_
  refine tn 9 ?_
  refine tn 10 ?_
  refine tn 11 ?_
  refine wpAnyH_done (by kernel_rfl) ?_ _
  refine NoPanic.normal ?_
  go_wp2
  go_ret
  exact ⟨by cases f <;> rfl, hH⟩
set_option maxHeartbeats 4000000 in
theorem went11_c (b : Nat) (f : Bool) (ss sf : List Int) (S : S11) (p : P11) (st : Nat) (h3 : st = 0 ∨ st = 1 ∨ st = 2 ∨ st = 3) (w : World) (hs : Zs w b f ss sf S p false st) :
  Calls Tryz.prog 34 #[.pointer (some ⟨b, 0, none⟩), .int .i64 0] w fun e w' => e = .returned (.tuple #[]) ∧ Hid (Zs w' b f ss sf S p false (st + 1 : Nat)) ∧ ExtB b w w' := by
 have HS : Hid (Zs w b f ss sf S p false st) := hs
 have c3 := hs.step.2
 rcases h3 with rfl | rfl | rfl | rfl
 ·have c2 : w.cell? ⟨b, 229, none⟩ = some (.int .i64 0) := hs.step.1
  clear hs
  go_enter Tryz.func34, Tryz.ntmps34
  go_wp2_with fail
  go_end0
  exact ⟨rfl, HS.out.setStep 1, (ExtB.refl b w).set 229 _⟩
 ·have c2 : w.cell? ⟨b, 229, none⟩ = some (.int .i64 1) := hs.step.1
  clear hs
  go_enter Tryz.func34, Tryz.ntmps34
  go_wp2_with fail
  go_end0
  exact ⟨rfl, HS.out.setStep 2, (ExtB.refl b w).set 229 _⟩
 ·have c2 : w.cell? ⟨b, 229, none⟩ = some (.int .i64 2) := hs.step.1
  clear hs
  go_enter Tryz.func34, Tryz.ntmps34
  go_wp2_with fail
  go_end0
  exact ⟨rfl, HS.out.setStep 3, (ExtB.refl b w).set 229 _⟩
 ·have c2 : w.cell? ⟨b, 229, none⟩ = some (.int .i64 3) := hs.step.1
  clear hs
  go_enter Tryz.func34, Tryz.ntmps34
  go_wp2_with fail
  go_end0
  exact ⟨rfl, HS.out.setStep 4, (ExtB.refl b w).set 229 _⟩
set_option maxHeartbeats 4000000 in
theorem turn11_c (b : Nat) (f : Bool) (ss sf : List Int) (S : S11) (p : P11) (st : Nat) (h3 : st = 0 ∨ st = 1 ∨ st = 2 ∨ st = 3) (w : World) (hs : Zs w b f ss sf S p false st) :
  Calls Tryz.prog 30 #[.pointer (some ⟨b, 0, none⟩)] w fun e w' => e = .returned (.tuple #[.bool (decide (st < 3) && wr11 f st), .int .i64 st]) ∧ Below w.heap.size w w' := by
 have HS : Hid (Zs w b f ss sf S p false st) := hs
 have c2 := hs.step.1
 clear hs
 by_cases hlt : st < 3
 ·have hd : decide (st < 3) = true := decide_eq_true hlt
  rw [hd]
  go_enter Tryz.func30, Tryz.ntmps30
  go_upto_region 1 with fail
  refine wp_region_noPanic ?_
  refine wp_region_held_drew (S := Ext w) (by kernel_rfl) (Ext.refl _).drew (fun hH => ?_)
  change wpAnyH _ _ _ _ _ _ #[false, false, false, false, false, false, false, false, false, false, false, false] _ _
  refine tn 0 ?_
  refine tn 6 ?_
  refine tn 7 ?_
  refine tn 8 ?_
  refine tn 9 ?_ (hy := by (intro u hu; (have hx := hu.cell c2; go_simp) <;> with_reducible rfl))
  refine rdy 1 (fun K hK => ?_)
  go_simp
  refine (open11_c b f ss sf S p st h3 _ HS.out.drew).mono ?_
  rintro e V ⟨rfl, hw⟩
  rw [hw]
  clear hw V
  rw [hd]
  refine ko hK hH fun hH => ?_; clear hK K
  refine tn 2 ?_
  refine tn 3 ?_
  refine rdy 4 (fun K hK => ?_)
  go_simp
  refine (writes11_c b f ss sf S p st h3 _ HS.out.drew).mono ?_
  rintro e V ⟨rfl, hb⟩
  refine ko hK (hH.trans hb) fun hH => ?_; clear hK K
  clear hb
  refine tn 5 ?_
  refine tn 10 ?_
  refine tn 11 ?_
  refine wpAnyH_done (by kernel_rfl) ?_ _
  refine NoPanic.normal ?_
  go_wp2
  go_ret2
  exact ⟨rfl, hH⟩
 ·have hd : decide (st < 3) = false := decide_eq_false hlt
  rw [hd]
  go_enter Tryz.func30, Tryz.ntmps30
  go_upto_region 1 with fail
  refine wp_region_noPanic ?_
  refine wp_region_held_drew (S := Ext w) (by kernel_rfl) (Ext.refl _).drew (fun hH => ?_)
  change wpAnyH _ _ _ _ _ _ #[false, false, false, false, false, false, false, false, false, false, false, false] _ _
  refine tn 0 ?_
  refine tn 6 ?_
  refine tn 7 ?_
  refine tn 8 ?_
  refine tn 9 ?_ (hy := by (intro u hu; (have hx := hu.cell c2; go_simp) <;> with_reducible rfl))
  refine rdy 1 (fun K hK => ?_)
  go_simp
  refine (open11_c b f ss sf S p st h3 _ HS.out.drew).mono ?_
  rintro e V ⟨rfl, hw⟩
  rw [hw]
  clear hw V
  rw [hd]
  refine ko hK hH fun hH => ?_; clear hK K
  refine tn 2 ?_
  refine tns 3 ?_
  refine tns 4 ?_
  refine tn 5 ?_
  refine tn 10 ?_
  refine tn 11 ?_
  refine wpAnyH_done (by kernel_rfl) ?_ _
  refine NoPanic.normal ?_
  go_wp2
  go_ret2
  exact ⟨rfl, hH⟩
set_option maxHeartbeats 4000000 in
theorem done11_c (b : Nat) (f : Bool) (ss sf : List Int) (S : S11) (p : P11) (st : Nat) (h3 : st = 0 ∨ st = 1 ∨ st = 2 ∨ st = 3) (w : World) (hs : Zs w b f ss sf S p false st) :
  Calls Tryz.prog 13 #[.pointer (some ⟨b, 0, none⟩)] w fun e w' => e = .returned (.bool (decide (st = 3))) ∧ w' = w := by
 rcases h3 with rfl | rfl | rfl | rfl
 ·have c2 : w.cell? ⟨b, 229, none⟩ = some (.int .i64 0) := hs.step.1
  clear hs
  go_enter Tryz.func13, Tryz.ntmps13
  go_wp2_with fail
  go_ret
  exact ⟨rfl, rfl⟩
 ·have c2 : w.cell? ⟨b, 229, none⟩ = some (.int .i64 1) := hs.step.1
  clear hs
  go_enter Tryz.func13, Tryz.ntmps13
  go_wp2_with fail
  go_ret
  exact ⟨rfl, rfl⟩
 ·have c2 : w.cell? ⟨b, 229, none⟩ = some (.int .i64 2) := hs.step.1
  clear hs
  go_enter Tryz.func13, Tryz.ntmps13
  go_wp2_with fail
  go_ret
  exact ⟨rfl, rfl⟩
 ·have c2 : w.cell? ⟨b, 229, none⟩ = some (.int .i64 3) := hs.step.1
  clear hs
  go_enter Tryz.func13, Tryz.ntmps13
  go_wp2_with fail
  go_ret
  exact ⟨rfl, rfl⟩
set_option maxHeartbeats 4000000 in
theorem hash11_c (b : Nat) (f : Bool) (ss sf : List Int) (S : S11) (p : P11) (st : Int) (w : World) (hs : Zs w b f ss sf S p false st) :
  Calls Tryz.prog 14 #[.pointer (some ⟨b, 0, none⟩)] w fun e w' => e = .returned (.agg (List.map (Value.int .u8) S.H).toArray) ∧ Below w.heap.size w w' := by
 have HS : Hid (Zs w b f ss sf S p false st) := hs
 clear hs
 go_enter Tryz.func14, Tryz.ntmps14
 go_upto_region 1 with fail
 have HD : Hid ((w.alloc (.cells zb32 30)).there w.heap.size 0 32) := by unfold Hid; exact there_new _ 32 _ rfl _
 have HB : Hid (Below w.heap.size w (w.alloc (.cells zb32 30))) := bel1 _ _
 obtain ⟨W0, hW0⟩ : ∃ W, W = (w.alloc (.cells zb32 30)) := ⟨_, rfl⟩
 obtain ⟨q2, hq2⟩ : ∃ q, q = w.heap.size := ⟨_, rfl⟩
 rw [← hW0] at HD HB ⊢
 have HQ : Hid (q2 = w.heap.size) := hq2
 rw [← hq2] at HD ⊢
 have k1 : q2 < W0.heap.size := there_lt HD.out (by decide)
 clear hW0 hq2
 replace HS := hidp (HS.out.later HB.out)
 go_wp2_with fail
 refine (hash10_c b S.k S.h S.n S.H S.C _ HS.out.my).mono ?_
 rintro e V ⟨rfl, hb⟩
 replace HD : Hid (V.there q2 0 32) := there_later hb HD.out
 have hbh := HS.out.my.bh
 replace HB := hidp (HB.out.trans (hb.mono HB.out.size))
 clear hb HS
 obtain ⟨hlen', hone, hi⟩ := bn32_cells hbh
 obtain ⟨cs, hcs⟩ : ∃ cs, cs = (List.map (Value.int .u8) S.H) := ⟨_, rfl⟩
 have HCS : Hid (cs = (List.map (Value.int .u8) S.H)) := hcs
 rw [← hcs] at hlen' hone hi ⊢
 clear hcs
 have hth := HD.out
 go_wp2_with (refine wpList_store_mid rfl 30 (.tmp 2) (.tmp 6) rfl q2 0 cs.toArray rfl rfl (by simpa [hlen'] using hth) (by simpa using hi) (all_oneCell_toArray hone) ?_)
 have HR2 : Hid ((V.setCells q2 0 cs).rangeAt q2 0 cs) := World.rangeAt_setCells_same _ _ _ _ (by rw [hlen']; exact hth)
 have hld := run_loadVar_mid (P := Tryz.prog) _ _ 0 30 _ _ HR2.out Tryz.underlying30 rfl hi
 exact bodyPost_ret (v := .agg cs.toArray) (by simp [results, Tryz.results14]; exact hld) rfl ⟨by rw [HCS.out], below_setCells _ (by have := HQ.out; omega) _ _ _ HB.out⟩
set_option maxHeartbeats 4000000 in
theorem peer11_c (b : Nat) (f : Bool) (ss sf : List Int) (S : S11) (p : P11) (st : Int) (w : World) (hs : Zs w b f ss sf S p false st) :
  Calls Tryz.prog 12 #[.pointer (some ⟨b, 0, none⟩)] w fun e w' => e = .returned (.tuple #[(.agg (List.map (Value.int .u8) p.os).toArray), .bool p.met]) ∧ Below w.heap.size w w' := by
 have c1 := hs.metC.1
 have hbo := hs.bo
 have hR := hs.co.rng
 clear hs
 go_enter Tryz.func12, Tryz.ntmps12
 go_upto_region 1 with fail
 have HD : Hid ((w.alloc (.cells zb32 30)).there w.heap.size 0 32) := by unfold Hid; exact there_new _ 32 _ rfl _
 have HB : Hid (Below w.heap.size w (w.alloc (.cells zb32 30))) := bel1 _ _
 obtain ⟨W0, hW0⟩ : ∃ W, W = (w.alloc (.cells zb32 30)) := ⟨_, rfl⟩
 obtain ⟨q2, hq2⟩ : ∃ q, q = w.heap.size := ⟨_, rfl⟩
 rw [← hW0] at HD HB ⊢
 have HQ : Hid (q2 = w.heap.size) := hq2
 rw [← hq2] at HD ⊢
 have k1 : q2 < W0.heap.size := there_lt HD.out (by decide)
 clear hW0 hq2
 obtain ⟨hlen', hone, hi⟩ := bn32_cells hbo
 obtain ⟨cs, hcs⟩ : ∃ cs, cs = (List.map (Value.int .u8) p.os) := ⟨_, rfl⟩
 have HCS : Hid (cs = (List.map (Value.int .u8) p.os)) := hcs
 rw [← hcs] at hlen' hone hi hR
 clear hcs
 obtain ⟨mt, hmt⟩ : ∃ x, x = p.met := ⟨_, rfl⟩
 rw [← hmt] at c1
 have HMT : Hid (mt = p.met) := hmt
 clear hmt
 refine wp_region_noPanic ?_
 refine wp_region_held_drew (S := Ext w) (by kernel_rfl) HB.out.drew (fun hH => ?_)
 change wpAnyH _ _ _ _ _ _ #[false, false, false, false, false, false, false, false, false, false] _ _
 refine tn 0 ?_
 refine tn 1 ?_
 refine tn 2 ?_
 refine tnl 3 (.agg cs.toArray) ?_ (hy := by exact yieldsIf_load_mid (by rfl) 30 (.tmp 6) rfl b 163 rfl cs _ (fun u hu => range_later hu hR) Tryz.underlying30 rfl hi)
 refine tn 4 ?_
 refine tn 5 ?_
 refine tn 6 ?_
 refine tn 7 ?_ (hy := by (intro u hu; (have hx := hu.cell c1; go_simp) <;> with_reducible rfl))
 refine rdy 8 (fun K hK => ?_)
 have hth : W0.drew.there q2 0 32 := HD.out
 refine wp_store_mid 30 (.tmp 2) (.tmp 7) rfl q2 0 cs.toArray rfl rfl (by simpa [hlen'] using hth) (by simpa using hi) (all_oneCell_toArray hone) ?_
 refine ko hK (below_setCells _ (by have := HQ.out; omega) _ _ _ hH) fun hH => ?_; clear hK K
 refine tn 9 ?_
 refine wpAnyH_done (by kernel_rfl) ?_ _
 refine NoPanic.normal ?_
 have HR2 : Hid ((W0.drew.setCells q2 0 cs).rangeAt q2 0 cs) := World.rangeAt_setCells_same _ _ _ _ (by rw [hlen']; exact hth)
 go_wp2
 have hld := run_loadVar_mid (P := Tryz.prog) _ _ 0 30 _ _ HR2.out Tryz.underlying30 rfl hi
 exact bodyPost_ret (v := .tuple #[.agg cs.toArray, .bool mt]) (by simp [results, Tryz.results12, Sem.run_bind]; show (Sem.run _ (loadVar 30 ⟨q2, 0, none⟩) _).andThen _ = _; rw [hld]; rfl) rfl ⟨by rw [HCS.out, HMT.out], hH⟩
/-- The first of two, or the other. -/
def pk11 (f : Bool) (c d : Nat) : Nat := match f with | true => c | false => d
set_option maxHeartbeats 4000000 in
theorem split11_c (b : Nat) (f : Bool) (ss sf : List Int) (S : S11) (p : P11) (w : World) (hs : Zs w b f ss sf S p false (3 : Nat)) (hg : Gs w) :
  Calls Tryz.prog 24 #[.pointer (some ⟨b, 0, none⟩)] w fun e w' => ∃ c d A B, e = .returned (.tuple #[.pointer (some ⟨pk11 f c d, 0, none⟩), .pointer (some ⟨pk11 f d c, 0, none⟩), .bool true]) ∧ Hid (A = ky8 (hm8 S.C []) 1) ∧ Hid (B = ky8 (hm8 S.C []) 2) ∧ Hid (Sx w' c A true 0) ∧ Hid (Sx w' d B true 0) ∧ w.heap.size ≤ c ∧ w.heap.size ≤ d ∧ c ≠ d ∧ Below w.heap.size w w' := by
 have HS : Hid (Zs w b f ss sf S p false (3 : Nat)) := hs
 have HG : Hid (Gs w) := hg
 clear hs hg
 cases f with
 | true =>
  ·have c1 : w.cell? ⟨b, 98, none⟩ = some (.bool true) := HS.out.first
   go_enter Tryz.func24, Tryz.ntmps24
   go_wp2_with fail
   refine (done11_c b true ss sf S p 3 (by decide) _ HS.out).mono ?_
   rintro e V ⟨rfl, hw⟩
   rw [hw]
   clear hw V
   go_wp2_with fail
   refine (split10_c b S.k S.h S.n S.H S.C _ HS.out.my HG.out.gb).mono ?_
   rintro e V ⟨c, d, A, B, rfl, HA, HBB, Sc, Sd, kc, kd, kcd, hb⟩
   replace c1 := cell_later hb c1
   clear HS HG
   go_wp2
   exact bodyPost_ret (v := .tuple #[.pointer (some ⟨c, 0, none⟩), .pointer (some ⟨d, 0, none⟩), .bool true]) (by simp [results, Tryz.results24, go_sem]) rfl ⟨c, d, A, B, rfl, HA, HBB, Sc, Sd, kc, kd, kcd, hb⟩
 | false =>
  ·have c1 : w.cell? ⟨b, 98, none⟩ = some (.bool false) := HS.out.first
   go_enter Tryz.func24, Tryz.ntmps24
   go_wp2_with fail
   refine (done11_c b false ss sf S p 3 (by decide) _ HS.out).mono ?_
   rintro e V ⟨rfl, hw⟩
   rw [hw]
   clear hw V
   go_wp2_with fail
   refine (split10_c b S.k S.h S.n S.H S.C _ HS.out.my HG.out.gb).mono ?_
   rintro e V ⟨c, d, A, B, rfl, HA, HBB, Sc, Sd, kc, kd, kcd, hb⟩
   replace c1 := cell_later hb c1
   clear HS HG
   go_wp2
   exact bodyPost_ret (v := .tuple #[.pointer (some ⟨d, 0, none⟩), .pointer (some ⟨c, 0, none⟩), .bool true]) (by simp [results, Tryz.results24, go_sem]) rfl ⟨c, d, A, B, rfl, HA, HBB, Sc, Sd, kc, kd, kcd, hb⟩
end Go.Proofs.YtlnbjehimabaiaaGreatDoor
/-
 What shake's pair does: the secret and the public key that a token names. No statement of the seat is proved here.
-/
namespace Go.Proofs.YtlnbjehimabaiaaGreatDoor
open Go.RowKit
set_option maxRecDepth 8000

set_option maxHeartbeats 4000000 in
theorem pair11_c (b : Nat) (f : Bool) (ss sf : List Int) (S : S11) (p : P11) (st : Int) (t : Int) (h3 : t = 61 ∨ t = 62 ∨ t = 60) (w : World) (hs : Zs w b f ss sf S p false st) :
  Calls Tryz.prog 129 #[.pointer (some ⟨b, 0, none⟩), .int .i32 t] w fun e w' => e = .returned (.tuple #[(.agg (List.map (Value.int .u8) ((pr11 f ss sf p.os p.oF t).1)).toArray), (.agg (List.map (Value.int .u8) ((pr11 f ss sf p.os p.oF t).2)).toArray)]) ∧ Below w.heap.size w w' := by
 have c1 := hs.first
 go_enter Tryz.func129, Tryz.ntmps129
 go_upto_region 2 with fail
 have HD4 : Hid (((w.alloc (.cells zb32 30)).alloc (.cells zb32 30)).there w.heap.size 0 32) := there_later (bel1 _ _) (there_new _ 32 _ rfl _)
 have hsz : (w.alloc (.cells zb32 30)).heap.size = w.heap.size + 1 := by simp
 have HD5 : Hid (((w.alloc (.cells zb32 30)).alloc (.cells zb32 30)).there (w.heap.size + 1) 0 32) := by
  have h := there_new (w.alloc (.cells zb32 30)) 32 zb32 rfl 30
  rw [hsz] at h
  exact h
 have HB : Hid (Below w.heap.size w ((w.alloc (.cells zb32 30)).alloc (.cells zb32 30))) := (bel1 w (.cells zb32 30)).trans ((bel1 (w.alloc (.cells zb32 30)) (.cells zb32 30)).mono (bel1 w (.cells zb32 30)).size)
 obtain ⟨W0, hW0⟩ : ∃ W, W = ((w.alloc (.cells zb32 30)).alloc (.cells zb32 30)) := ⟨_, rfl⟩
 obtain ⟨q5, hq5⟩ : ∃ q, q = w.heap.size + 1 := ⟨_, rfl⟩
 obtain ⟨q4, hq4⟩ : ∃ q, q = w.heap.size := ⟨_, rfl⟩
 have k45 : q4 < q5 := by omega
 rw [← hW0, ← hq5] at HD5
 rw [← hW0, ← hq4] at HD4
 rw [← hW0] at HB
 rw [← hW0, ← hq5, ← hq4]
 have HQ : Hid (q4 = w.heap.size) := hq4
 clear hsz hW0 hq5 hq4
 replace c1 := cell_later HB.out c1
 rcases h3 with rfl | rfl | rfl
 ·as_aux_lemma =>
  have hR1 := hs.ce.rng
  have hR2 := hs.cp.rng
  obtain ⟨hlc, hone, hi⟩ := bn32_cells hs.be
  obtain ⟨hld, hond, hj⟩ := bn32_cells hs.bp
  obtain ⟨cs, hcs⟩ : ∃ cs, cs = (List.map (Value.int .u8) sf) := ⟨_, rfl⟩
  obtain ⟨ds, hds⟩ : ∃ cs, cs = (List.map (Value.int .u8) p.oF) := ⟨_, rfl⟩
  have HCS : Hid (cs = (List.map (Value.int .u8) sf)) := hcs
  have HDS : Hid (ds = (List.map (Value.int .u8) p.oF)) := hds
  rw [← hcs] at hlc hone hi hR1
  rw [← hds] at hld hond hj hR2
  clear hcs hds hs
  go_upto_region 3 with fail
  refine wp_region_noPanic ?_
  refine wp_region_held_drew (S := Ext w) (by kernel_rfl) HB.out.drew (fun hH => ?_)
  change wpAnyH _ _ _ _ _ _ #[false, false, false, false, false, false, false, false, false, false] _ _
  refine tn 0 ?_
  refine tn 1 ?_
  refine tn 2 ?_
  refine tnl 3 (.agg cs.toArray) ?_ (hy := by exact yieldsIf_load_mid (by rfl) 30 (.tmp 19) rfl b 131 rfl cs _ (fun u hu => range_later hu hR1) Tryz.underlying30 rfl hi)
  refine tn 4 ?_
  refine tn 5 ?_
  refine tn 6 ?_
  refine tnl 7 (.agg ds.toArray) ?_ (hy := by exact yieldsIf_load_mid (by rfl) 30 (.tmp 23) rfl b 195 rfl ds _ (fun u hu => range_later hu hR2) Tryz.underlying30 rfl hj)
  refine rdy 8 (fun K hK => ?_)
  have hth : W0.drew.there q4 0 32 := HD4.out
  refine wp_store_mid 30 (.tmp 4) (.tmp 20) rfl q4 0 cs.toArray rfl rfl (by simpa [hlc] using hth) (by simpa using hi) (all_oneCell_toArray hone) ?_
  refine ko hK (below_setCells _ (by have := HQ.out; omega) _ _ _ hH) fun hH => ?_; clear hK K
  refine rdy 9 (fun K hK => ?_)
  have hth5 : (W0.drew.setCells q4 0 cs).there q5 0 32 := World.there_setCells (show W0.drew.there q5 0 32 from HD5.out) _ _ _
  refine wp_store_mid 30 (.tmp 5) (.tmp 24) rfl q5 0 ds.toArray rfl rfl (by simpa [hld] using hth5) (by simpa using hj) (all_oneCell_toArray hond) ?_
  refine ko hK (below_setCells _ (by have := HQ.out; omega) _ _ _ hH) fun hH => ?_; clear hK K
  refine wpAnyH_done (by kernel_rfl) ?_ _
  refine NoPanic.normal ?_
  have HR2 : Hid (((W0.drew.setCells q4 0 cs).setCells q5 0 ds).rangeAt q5 0 ds) := World.rangeAt_setCells_same _ _ _ _ (by rw [hld]; exact hth5)
  have HR1 : Hid (((W0.drew.setCells q4 0 cs).setCells q5 0 ds).rangeAt q4 0 cs) := World.rangeAt_setCells_apart (World.rangeAt_setCells_same _ _ _ _ (by rw [hlc]; exact hth)) _ _ _ (.inl (by omega))
  go_wp2
  have hl1 := run_loadVar_mid (P := Tryz.prog) _ _ 0 30 _ _ HR1.out Tryz.underlying30 rfl hi
  have hl2 := run_loadVar_mid (P := Tryz.prog) _ _ 0 30 _ _ HR2.out Tryz.underlying30 rfl hj
  exact bodyPost_ret (v := .tuple #[.agg cs.toArray, .agg ds.toArray]) (by simp [results, Tryz.results129, Sem.run_bind]; show (Sem.run _ (loadVar 30 ⟨q4, 0, none⟩) _).andThen _ = _; rw [hl1]; show (Sem.run _ (loadVar 30 ⟨q5, 0, none⟩) _).andThen _ = _; rw [hl2]; rfl) rfl ⟨by rw [HCS.out, HDS.out]; rfl, hH⟩
 ·cases f with
  | true => as_aux_lemma =>
   have hR1 := hs.ce.rng
   have hR2 := hs.co.rng
   obtain ⟨hlc, hone, hi⟩ := bn32_cells hs.be
   obtain ⟨hld, hond, hj⟩ := bn32_cells hs.bo
   obtain ⟨cs, hcs⟩ : ∃ cs, cs = (List.map (Value.int .u8) sf) := ⟨_, rfl⟩
   obtain ⟨ds, hds⟩ : ∃ cs, cs = (List.map (Value.int .u8) p.os) := ⟨_, rfl⟩
   have HCS : Hid (cs = (List.map (Value.int .u8) sf)) := hcs
   have HDS : Hid (ds = (List.map (Value.int .u8) p.os)) := hds
   rw [← hcs] at hlc hone hi hR1
   rw [← hds] at hld hond hj hR2
   clear hcs hds hs
   go_upto_region 5 with fail
   refine wp_region_noPanic ?_
   refine wp_region_held_drew (S := Ext w) (by kernel_rfl) HB.out.drew (fun hH => ?_)
   change wpAnyH _ _ _ _ _ _ #[false, false, false, false, false, false, false, false, false, false] _ _
   refine tn 0 ?_
   refine tn 1 ?_
   refine tn 2 ?_
   refine tnl 3 (.agg cs.toArray) ?_ (hy := by exact yieldsIf_load_mid (by rfl) 30 (.tmp 35) rfl b 131 rfl cs _ (fun u hu => range_later hu hR1) Tryz.underlying30 rfl hi)
   refine tn 4 ?_
   refine tn 5 ?_
   refine tn 6 ?_
   refine tnl 7 (.agg ds.toArray) ?_ (hy := by exact yieldsIf_load_mid (by rfl) 30 (.tmp 39) rfl b 163 rfl ds _ (fun u hu => range_later hu hR2) Tryz.underlying30 rfl hj)
   refine rdy 8 (fun K hK => ?_)
   have hth : W0.drew.there q4 0 32 := HD4.out
   refine wp_store_mid 30 (.tmp 4) (.tmp 36) rfl q4 0 cs.toArray rfl rfl (by simpa [hlc] using hth) (by simpa using hi) (all_oneCell_toArray hone) ?_
   refine ko hK (below_setCells _ (by have := HQ.out; omega) _ _ _ hH) fun hH => ?_; clear hK K
   refine rdy 9 (fun K hK => ?_)
   have hth5 : (W0.drew.setCells q4 0 cs).there q5 0 32 := World.there_setCells (show W0.drew.there q5 0 32 from HD5.out) _ _ _
   refine wp_store_mid 30 (.tmp 5) (.tmp 40) rfl q5 0 ds.toArray rfl rfl (by simpa [hld] using hth5) (by simpa using hj) (all_oneCell_toArray hond) ?_
   refine ko hK (below_setCells _ (by have := HQ.out; omega) _ _ _ hH) fun hH => ?_; clear hK K
   refine wpAnyH_done (by kernel_rfl) ?_ _
   refine NoPanic.normal ?_
   have HR2 : Hid (((W0.drew.setCells q4 0 cs).setCells q5 0 ds).rangeAt q5 0 ds) := World.rangeAt_setCells_same _ _ _ _ (by rw [hld]; exact hth5)
   have HR1 : Hid (((W0.drew.setCells q4 0 cs).setCells q5 0 ds).rangeAt q4 0 cs) := World.rangeAt_setCells_apart (World.rangeAt_setCells_same _ _ _ _ (by rw [hlc]; exact hth)) _ _ _ (.inl (by omega))
   go_wp2
   have hl1 := run_loadVar_mid (P := Tryz.prog) _ _ 0 30 _ _ HR1.out Tryz.underlying30 rfl hi
   have hl2 := run_loadVar_mid (P := Tryz.prog) _ _ 0 30 _ _ HR2.out Tryz.underlying30 rfl hj
   exact bodyPost_ret (v := .tuple #[.agg cs.toArray, .agg ds.toArray]) (by simp [results, Tryz.results129, Sem.run_bind]; show (Sem.run _ (loadVar 30 ⟨q4, 0, none⟩) _).andThen _ = _; rw [hl1]; show (Sem.run _ (loadVar 30 ⟨q5, 0, none⟩) _).andThen _ = _; rw [hl2]; rfl) rfl ⟨by rw [HCS.out, HDS.out]; rfl, hH⟩
  | false => as_aux_lemma =>
   have hR1 := hs.cs.rng
   have hR2 := hs.cp.rng
   obtain ⟨hlc, hone, hi⟩ := bn32_cells hs.bs
   obtain ⟨hld, hond, hj⟩ := bn32_cells hs.bp
   obtain ⟨cs, hcs⟩ : ∃ cs, cs = (List.map (Value.int .u8) ss) := ⟨_, rfl⟩
   obtain ⟨ds, hds⟩ : ∃ cs, cs = (List.map (Value.int .u8) p.oF) := ⟨_, rfl⟩
   have HCS : Hid (cs = (List.map (Value.int .u8) ss)) := hcs
   have HDS : Hid (ds = (List.map (Value.int .u8) p.oF)) := hds
   rw [← hcs] at hlc hone hi hR1
   rw [← hds] at hld hond hj hR2
   clear hcs hds hs
   go_upto_region 1 with fail
   refine wp_region_noPanic ?_
   refine wp_region_held_drew (S := Ext w) (by kernel_rfl) HB.out.drew (fun hH => ?_)
   change wpAnyH _ _ _ _ _ _ #[false, false, false, false, false, false, false, false, false, false] _ _
   refine tn 0 ?_
   refine tn 1 ?_
   refine tn 2 ?_
   refine tnl 3 (.agg cs.toArray) ?_ (hy := by exact yieldsIf_load_mid (by rfl) 30 (.tmp 8) rfl b 99 rfl cs _ (fun u hu => range_later hu hR1) Tryz.underlying30 rfl hi)
   refine tn 4 ?_
   refine tn 5 ?_
   refine tn 6 ?_
   refine tnl 7 (.agg ds.toArray) ?_ (hy := by exact yieldsIf_load_mid (by rfl) 30 (.tmp 12) rfl b 195 rfl ds _ (fun u hu => range_later hu hR2) Tryz.underlying30 rfl hj)
   refine rdy 8 (fun K hK => ?_)
   have hth : W0.drew.there q4 0 32 := HD4.out
   refine wp_store_mid 30 (.tmp 4) (.tmp 9) rfl q4 0 cs.toArray rfl rfl (by simpa [hlc] using hth) (by simpa using hi) (all_oneCell_toArray hone) ?_
   refine ko hK (below_setCells _ (by have := HQ.out; omega) _ _ _ hH) fun hH => ?_; clear hK K
   refine rdy 9 (fun K hK => ?_)
   have hth5 : (W0.drew.setCells q4 0 cs).there q5 0 32 := World.there_setCells (show W0.drew.there q5 0 32 from HD5.out) _ _ _
   refine wp_store_mid 30 (.tmp 5) (.tmp 13) rfl q5 0 ds.toArray rfl rfl (by simpa [hld] using hth5) (by simpa using hj) (all_oneCell_toArray hond) ?_
   refine ko hK (below_setCells _ (by have := HQ.out; omega) _ _ _ hH) fun hH => ?_; clear hK K
   refine wpAnyH_done (by kernel_rfl) ?_ _
   refine NoPanic.normal ?_
   have HR2 : Hid (((W0.drew.setCells q4 0 cs).setCells q5 0 ds).rangeAt q5 0 ds) := World.rangeAt_setCells_same _ _ _ _ (by rw [hld]; exact hth5)
   have HR1 : Hid (((W0.drew.setCells q4 0 cs).setCells q5 0 ds).rangeAt q4 0 cs) := World.rangeAt_setCells_apart (World.rangeAt_setCells_same _ _ _ _ (by rw [hlc]; exact hth)) _ _ _ (.inl (by omega))
   go_wp2
   have hl1 := run_loadVar_mid (P := Tryz.prog) _ _ 0 30 _ _ HR1.out Tryz.underlying30 rfl hi
   have hl2 := run_loadVar_mid (P := Tryz.prog) _ _ 0 30 _ _ HR2.out Tryz.underlying30 rfl hj
   exact bodyPost_ret (v := .tuple #[.agg cs.toArray, .agg ds.toArray]) (by simp [results, Tryz.results129, Sem.run_bind]; show (Sem.run _ (loadVar 30 ⟨q4, 0, none⟩) _).andThen _ = _; rw [hl1]; show (Sem.run _ (loadVar 30 ⟨q5, 0, none⟩) _).andThen _ = _; rw [hl2]; rfl) rfl ⟨by rw [HCS.out, HDS.out]; rfl, hH⟩
 ·cases f with
  | true => as_aux_lemma =>
   have hR1 := hs.cs.rng
   have hR2 := hs.cp.rng
   obtain ⟨hlc, hone, hi⟩ := bn32_cells hs.bs
   obtain ⟨hld, hond, hj⟩ := bn32_cells hs.bp
   obtain ⟨cs, hcs⟩ : ∃ cs, cs = (List.map (Value.int .u8) ss) := ⟨_, rfl⟩
   obtain ⟨ds, hds⟩ : ∃ cs, cs = (List.map (Value.int .u8) p.oF) := ⟨_, rfl⟩
   have HCS : Hid (cs = (List.map (Value.int .u8) ss)) := hcs
   have HDS : Hid (ds = (List.map (Value.int .u8) p.oF)) := hds
   rw [← hcs] at hlc hone hi hR1
   rw [← hds] at hld hond hj hR2
   clear hcs hds hs
   go_upto_region 1 with fail
   refine wp_region_noPanic ?_
   refine wp_region_held_drew (S := Ext w) (by kernel_rfl) HB.out.drew (fun hH => ?_)
   change wpAnyH _ _ _ _ _ _ #[false, false, false, false, false, false, false, false, false, false] _ _
   refine tn 0 ?_
   refine tn 1 ?_
   refine tn 2 ?_
   refine tnl 3 (.agg cs.toArray) ?_ (hy := by exact yieldsIf_load_mid (by rfl) 30 (.tmp 8) rfl b 99 rfl cs _ (fun u hu => range_later hu hR1) Tryz.underlying30 rfl hi)
   refine tn 4 ?_
   refine tn 5 ?_
   refine tn 6 ?_
   refine tnl 7 (.agg ds.toArray) ?_ (hy := by exact yieldsIf_load_mid (by rfl) 30 (.tmp 12) rfl b 195 rfl ds _ (fun u hu => range_later hu hR2) Tryz.underlying30 rfl hj)
   refine rdy 8 (fun K hK => ?_)
   have hth : W0.drew.there q4 0 32 := HD4.out
   refine wp_store_mid 30 (.tmp 4) (.tmp 9) rfl q4 0 cs.toArray rfl rfl (by simpa [hlc] using hth) (by simpa using hi) (all_oneCell_toArray hone) ?_
   refine ko hK (below_setCells _ (by have := HQ.out; omega) _ _ _ hH) fun hH => ?_; clear hK K
   refine rdy 9 (fun K hK => ?_)
   have hth5 : (W0.drew.setCells q4 0 cs).there q5 0 32 := World.there_setCells (show W0.drew.there q5 0 32 from HD5.out) _ _ _
   refine wp_store_mid 30 (.tmp 5) (.tmp 13) rfl q5 0 ds.toArray rfl rfl (by simpa [hld] using hth5) (by simpa using hj) (all_oneCell_toArray hond) ?_
   refine ko hK (below_setCells _ (by have := HQ.out; omega) _ _ _ hH) fun hH => ?_; clear hK K
   refine wpAnyH_done (by kernel_rfl) ?_ _
   refine NoPanic.normal ?_
   have HR2 : Hid (((W0.drew.setCells q4 0 cs).setCells q5 0 ds).rangeAt q5 0 ds) := World.rangeAt_setCells_same _ _ _ _ (by rw [hld]; exact hth5)
   have HR1 : Hid (((W0.drew.setCells q4 0 cs).setCells q5 0 ds).rangeAt q4 0 cs) := World.rangeAt_setCells_apart (World.rangeAt_setCells_same _ _ _ _ (by rw [hlc]; exact hth)) _ _ _ (.inl (by omega))
   go_wp2
   have hl1 := run_loadVar_mid (P := Tryz.prog) _ _ 0 30 _ _ HR1.out Tryz.underlying30 rfl hi
   have hl2 := run_loadVar_mid (P := Tryz.prog) _ _ 0 30 _ _ HR2.out Tryz.underlying30 rfl hj
   exact bodyPost_ret (v := .tuple #[.agg cs.toArray, .agg ds.toArray]) (by simp [results, Tryz.results129, Sem.run_bind]; show (Sem.run _ (loadVar 30 ⟨q4, 0, none⟩) _).andThen _ = _; rw [hl1]; show (Sem.run _ (loadVar 30 ⟨q5, 0, none⟩) _).andThen _ = _; rw [hl2]; rfl) rfl ⟨by rw [HCS.out, HDS.out]; rfl, hH⟩
  | false => as_aux_lemma =>
   have hR1 := hs.ce.rng
   have hR2 := hs.co.rng
   obtain ⟨hlc, hone, hi⟩ := bn32_cells hs.be
   obtain ⟨hld, hond, hj⟩ := bn32_cells hs.bo
   obtain ⟨cs, hcs⟩ : ∃ cs, cs = (List.map (Value.int .u8) sf) := ⟨_, rfl⟩
   obtain ⟨ds, hds⟩ : ∃ cs, cs = (List.map (Value.int .u8) p.os) := ⟨_, rfl⟩
   have HCS : Hid (cs = (List.map (Value.int .u8) sf)) := hcs
   have HDS : Hid (ds = (List.map (Value.int .u8) p.os)) := hds
   rw [← hcs] at hlc hone hi hR1
   rw [← hds] at hld hond hj hR2
   clear hcs hds hs
   go_upto_region 5 with fail
   refine wp_region_noPanic ?_
   refine wp_region_held_drew (S := Ext w) (by kernel_rfl) HB.out.drew (fun hH => ?_)
   change wpAnyH _ _ _ _ _ _ #[false, false, false, false, false, false, false, false, false, false] _ _
   refine tn 0 ?_
   refine tn 1 ?_
   refine tn 2 ?_
   refine tnl 3 (.agg cs.toArray) ?_ (hy := by exact yieldsIf_load_mid (by rfl) 30 (.tmp 35) rfl b 131 rfl cs _ (fun u hu => range_later hu hR1) Tryz.underlying30 rfl hi)
   refine tn 4 ?_
   refine tn 5 ?_
   refine tn 6 ?_
   refine tnl 7 (.agg ds.toArray) ?_ (hy := by exact yieldsIf_load_mid (by rfl) 30 (.tmp 39) rfl b 163 rfl ds _ (fun u hu => range_later hu hR2) Tryz.underlying30 rfl hj)
   refine rdy 8 (fun K hK => ?_)
   have hth : W0.drew.there q4 0 32 := HD4.out
   refine wp_store_mid 30 (.tmp 4) (.tmp 36) rfl q4 0 cs.toArray rfl rfl (by simpa [hlc] using hth) (by simpa using hi) (all_oneCell_toArray hone) ?_
   refine ko hK (below_setCells _ (by have := HQ.out; omega) _ _ _ hH) fun hH => ?_; clear hK K
   refine rdy 9 (fun K hK => ?_)
   have hth5 : (W0.drew.setCells q4 0 cs).there q5 0 32 := World.there_setCells (show W0.drew.there q5 0 32 from HD5.out) _ _ _
   refine wp_store_mid 30 (.tmp 5) (.tmp 40) rfl q5 0 ds.toArray rfl rfl (by simpa [hld] using hth5) (by simpa using hj) (all_oneCell_toArray hond) ?_
   refine ko hK (below_setCells _ (by have := HQ.out; omega) _ _ _ hH) fun hH => ?_; clear hK K
   refine wpAnyH_done (by kernel_rfl) ?_ _
   refine NoPanic.normal ?_
   have HR2 : Hid (((W0.drew.setCells q4 0 cs).setCells q5 0 ds).rangeAt q5 0 ds) := World.rangeAt_setCells_same _ _ _ _ (by rw [hld]; exact hth5)
   have HR1 : Hid (((W0.drew.setCells q4 0 cs).setCells q5 0 ds).rangeAt q4 0 cs) := World.rangeAt_setCells_apart (World.rangeAt_setCells_same _ _ _ _ (by rw [hlc]; exact hth)) _ _ _ (.inl (by omega))
   go_wp2
   have hl1 := run_loadVar_mid (P := Tryz.prog) _ _ 0 30 _ _ HR1.out Tryz.underlying30 rfl hi
   have hl2 := run_loadVar_mid (P := Tryz.prog) _ _ 0 30 _ _ HR2.out Tryz.underlying30 rfl hj
   exact bodyPost_ret (v := .tuple #[.agg cs.toArray, .agg ds.toArray]) (by simp [results, Tryz.results129, Sem.run_bind]; show (Sem.run _ (loadVar 30 ⟨q4, 0, none⟩) _).andThen _ = _; rw [hl1]; show (Sem.run _ (loadVar 30 ⟨q5, 0, none⟩) _).andThen _ = _; rw [hl2]; rfl) rfl ⟨by rw [HCS.out, HDS.out]; rfl, hH⟩
end Go.Proofs.YtlnbjehimabaiaaGreatDoor
