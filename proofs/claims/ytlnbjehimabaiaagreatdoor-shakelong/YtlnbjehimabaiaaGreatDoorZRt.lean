/-
 What a token that is read makes, where it can be. No statement of the seat is proved here.
-/
import Derived.Test.YtlnbjehimabaiaaGreatDoorPk1
import Derived.Test.YtlnbjehimabaiaaGreatDoorPk40
import Derived.Test.YtlnbjehimabaiaaGreatDoorPk43
import Derived.Test.YtlnbjehimabaiaaGreatDoorPk3
namespace Go.Proofs.YtlnbjehimabaiaaGreatDoor
open Go.RowKit
set_option maxRecDepth 8000

/-- What is left behind the first m bytes does not lie in block q either. -/
theorem nq_rest {q bm om r c m : Nat} (h : bm ≠ q) : Nq q (if c = m then some (⟨bm, om, none⟩ : Addr) else some ⟨bm, om + m, none⟩) r := by
 split <;> exact nq_at h
set_option maxHeartbeats 4000000 in
theorem rfresh_c (b : Nat) (f : Bool) (ss sf : List Int) (S : S11) (p : P11) (st : Int) (a : Option Addr) (len cap : Nat) (x : List Int) (w : World) (hs : Zs w b f ss sf S p false st) (hg : Gs w) (hr : Rd w a len cap x) (hq : Nq b a len) (hl : 32 ≤ len) :
  Calls Tryz.prog 89 #[.pointer (some ⟨b, 0, none⟩), .slice a len cap] w fun e w' => ∃ a' n' c', e = .returned (.tuple #[.slice a' n' c', .int .i64 0]) ∧ n' ≤ len ∧ Hid (Rd w' a' n' c' (x.drop 32)) ∧ Nq b a' n' ∧ Hid (Zs w' b f ss sf (S.mh (x.take 32)) { p with oF := x.take 32 } false st) ∧ ExtB b w w' := by
 have HS : Hid (Zs w b f ss sf S p false st) := hs
 have HG : Hid (Gs w) := hg
 have hg0 := hs.g0
 have hg1 := hs.g1
 have hg2 := hs.g2
 obtain ⟨bm, om, rfl, -⟩ := hr.cell (by omega)
 have hbm : bm ≠ b := hq (by omega) _ rfl
 have HR : Hid (Rd w (some ⟨bm, om, none⟩) len cap x) := hr
 have q1 : ¬ (len : Int) < 32 := by omega
 have hle := hr.hle
 have q3 : (32 : Int) ≤ (cap : Int) := by omega
 have q4 : (32 : Int) ≤ (len : Int) := by omega
 have q5 : (len : Int) ≤ (cap : Int) := by omega
 have hT : Bn 32 (x.take 32) := ⟨by rw [List.length_take, hr.hlen]; omega, hr.byt.take 32⟩
 clear hs hg hr hq
 have hcp := copy_c w b 195 32 32 ⟨bm, om, none⟩ len cap x HR.out 32 (by omega) HS.out.cp.all
 obtain ⟨y, hy⟩ : ∃ y, y = x.take 32 := ⟨_, rfl⟩
 simp only [← hy] at hcp hT ⊢
 have HC : Hid (Rd w (some ⟨bm, om, none⟩) 32 cap y) := by rw [hy]; exact HR.out.cut 32 hl
 clear hy
 go_enter Tryz.func89, Tryz.ntmps89
 go_upto_region 4 with fail
 clear hcp
 have hx0 : ExtB b w (w.setCells b 195 (List.map (Value.int .u8) y)) := extB_setCells _ _ _ (ExtB.refl _ _)
 replace HS : Hid (Zs (w.setCells b 195 (List.map (Value.int .u8) y)) b f ss sf S { p with oF := y } false st) := HS.out.setOf hT
 replace HG := hidp (HG.out.extb hx0 hg0 hg1 hg2)
 replace HR := hidp (HR.out.extb hx0 hbm)
 replace HC := hidp (HC.out.extb hx0 hbm)
 have HE : Hid (ExtB b w (w.setCells b 195 (List.map (Value.int .u8) y))) := hx0
 obtain ⟨W1, hW1⟩ : ∃ W, W = w.setCells b 195 (List.map (Value.int .u8) y) := ⟨_, rfl⟩
 rw [← hW1] at HS HG HR HC HE ⊢
 clear hx0 hW1
 refine wp_region_noPanic ?_
 refine wp_region_held_drew (S := ExtB b W1) (by kernel_rfl) (ExtB.refl b W1).drew (fun hH => ?_)
 change wpAnyH _ _ _ _ _ _ #[false, false, false, false, false, false] _ _
 refine tn 0 ?_
 refine tn 1 ?_
 refine tn 2 ?_
 refine tn 3 ?_
 refine tn 4 ?_
 refine rdy 5 (fun K hK => ?_)
 go_simp
 refine (mixhash10_c b S.k S.h S.n S.H S.C (some ⟨bm, om, none⟩) 32 cap y _ HS.out.drew.my (HC.out.below (Below.refl _ _).drew) (HG.out.gb.later (Below.refl _ _).drew) (by decide)).mono ?_
 rintro e V3 ⟨rfl, HM, hx⟩
 refine ko hK ((ExtB.refl b W1).drew.comp hx.ext) fun hH => ?_; clear hK K
 refine wpAnyH_done (by kernel_rfl) ?_ _
 refine NoPanic.normal ?_
 replace HS : Hid (Zs V3 b f ss sf (S.mh y) { p with oF := y } false st) := (HS.out.drew.sym HM.out hx).is rfl
 replace HE : Hid (ExtB b w V3) := HE.out.comp hH
 replace HR := hidp (HR.out.extb hH hbm)
 have HRR : Hid (Rd V3 (if cap = 32 then some ⟨bm, om, none⟩ else some ⟨bm, om + 32, none⟩) (len - 32) (cap - 32) (x.drop 32)) := HR.out.rest 32 hl
 clear HM hx hH HG HR HC
 by_cases hc : cap = 32
 ·rw [if_pos hc] at HRR
  have q2 : (cap : Int) = 32 := by omega
  go_wp2
  go_ret2
  exact ⟨_, len - 32, cap - 32, by go_num, by omega, HRR, nq_at hbm, HS, HE.out⟩
 ·rw [if_neg hc] at HRR
  have q2 : ¬ (cap : Int) = 32 := by omega
  go_wp2
  go_ret2
  exact ⟨_, len - 32, cap - 32, by go_num, by omega, HRR, nq_at hbm, HS, HE.out⟩
set_option maxHeartbeats 4000000 in
theorem rstatic_c (b : Nat) (f : Bool) (ss sf : List Int) (S : S11) (p : P11) (st : Int) (a : Option Addr) (len cap : Nat) (x : List Int) (w : World) (hs : Zs w b f ss sf S p false st) (hg : Gs w) (hr : Rd w a len cap x) (hq : Nq b a len) (hl : rz S ≤ len) (hoe : oe9 S.k S.h S.n S.H (x.take (rz S)) = 0) (hol : (ox9 S.k S.h S.n S.H (x.take (rz S))).length = 32) :
  Calls Tryz.prog 90 #[.pointer (some ⟨b, 0, none⟩), .slice a len cap] w fun e w' => ∃ a' n' c', e = .returned (.tuple #[.slice a' n' c', .int .i64 0]) ∧ n' ≤ len ∧ Hid (Rd w' a' n' c' (x.drop (rz S))) ∧ Nq b a' n' ∧ Hid (Zs w' b f ss sf ⟨S.k, S.h, on9 S.k S.h S.n S.H (x.take (rz S)), h10 0 S.H (x.take (rz S)), S.C⟩ { p with os := ox9 S.k S.h S.n S.H (x.take (rz S)), met := true } false st) ∧ ExtB b w w' := by
 have HS : Hid (Zs w b f ss sf S p false st) := hs
 have HG : Hid (Gs w) := hg
 have hg0 := hs.g0
 have hg1 := hs.g1
 have hlt := hs.lt
 have hr0 : 32 ≤ rz S := by unfold rz; split <;> decide
 obtain ⟨bm, om, rfl, -⟩ := hr.cell (by omega)
 have hbm : bm ≠ b := hq (by omega) _ rfl
 have HR : Hid (Rd w (some ⟨bm, om, none⟩) len cap x) := hr
 have hle := hr.hle
 clear hs hg hr hq hr0
 cases hh : S.h with
 | true => as_aux_lemma =>
  have hrz : rz S = 48 := by unfold rz; rw [hh]; rfl
  have q1 : ¬ (len : Int) < 48 := by omega
  have q3 : (48 : Int) ≤ (cap : Int) := by omega
  have q4 : (48 : Int) ≤ (len : Int) := by omega
  have q5 : (len : Int) ≤ (cap : Int) := by omega
  have HM0 : Hid (My w b S.k true S.n S.H S.C) := by have := HS.out.my; rw [hh] at this; exact this
  rw [hh] at hoe hol
  rw [hrz] at hoe hol ⊢
  obtain ⟨y, hy⟩ : ∃ y, y = x.take 48 := ⟨_, rfl⟩
  rw [← hy] at hoe hol ⊢
  have HC : Hid (Rd w (some ⟨bm, om, none⟩) 48 cap y) := by rw [hy]; exact HR.out.cut 48 (by omega)
  have HOE : Hid (oe9 S.k true S.n S.H y = 0) := hoe
  have HOL : Hid ((ox9 S.k true S.n S.H y).length = 32) := hol
  clear hy hoe hol hrz hl hh
  go_enter Tryz.func90, Tryz.ntmps90
  go_wp2_with fail
  refine (haskey10_c b S.k true S.n S.H S.C _ HM0.out).mono ?_
  rintro e V ⟨rfl, hw⟩
  rw [hw]
  clear hw V
  go_upto_region 6 with fail
  refine wp_region_noPanic ?_
  refine wp_region_held_drew (S := ExtB b w) (by kernel_rfl) (ExtB.refl b w).drew (fun hH => ?_)
  change wpAnyH _ _ _ _ _ _ #[false, false, false, false, false, false, false, false, false, false, false, false] _ _
  refine tn 0 ?_
  refine tn 1 ?_
  refine tn 2 ?_
  refine tn 3 ?_
  refine tn 4 ?_
  refine tn 5 ?_
  refine rdy 6 (fun K hK => ?_)
  go_simp
  refine (open10_c b S.k true S.n S.H S.C (some ⟨bm, om, none⟩) 48 cap y _ HM0.out.drew (HC.out.below (Below.refl _ _).drew) (HG.out.gb.later (Below.refl _ _).drew) hg0 hg1 (by decide)).mono ?_
  rintro e V3 ⟨a1, m1, c1, X, E, n', rfl, HX, HEE, HN, RX, HM, hx, hfr⟩
  have hE0 : E = 0 := by rw [HEE.out]; exact HOE.out
  subst hE0
  have hXl : X.length = 32 := by rw [HX.out]; exact HOL.out
  obtain rfl : m1 = 32 := by rw [← RX.out.hlen]; exact hXl
  obtain ⟨bx, ox, rfl, -⟩ := RX.out.cell (by decide)
  have hxb : bx ≠ b := hfr.nq hlt (by decide) _ rfl
  have HXL : Hid (X.length = 32) := hXl
  clear hXl hfr
  refine ko hK ((ExtB.refl b w).drew.comp hx.ext) fun hH => ?_; clear hK K
  refine tn 7 ?_
  refine tn 8 ?_
  refine tn 9 ?_
  refine tn 10 ?_
  refine tn 11 ?_
  refine wpAnyH_done (by kernel_rfl) ?_ _
  refine NoPanic.normal ?_
  have HSS : Hid (Zs V3 b f ss sf ⟨S.k, true, n', h10 0 S.H y, S.C⟩ p false st) := HS.out.drew.sym HM.out hx
  have HE : Hid (ExtB b w V3) := hH
  replace HR := hidp (HR.out.extb hH hbm)
  have hXn : Bn 32 X := ⟨HXL.out, RX.out.byt⟩
  have hXt : X.take 32 = X := List.take_of_length_le (by rw [HXL.out]; exact Nat.le_refl _)
  have hcp := copy_c V3 b 163 32 32 ⟨bx, ox, none⟩ 32 c1 X RX.out 32 (by decide) HSS.out.co.all
  simp only [hXt] at hcp
  clear hXt HS HM hx hH HC HM0 HG HEE HOE HOL
  go_upto_region 10 with fail
  clear hcp RX
  have hx0 : ExtB b V3 (V3.setCells b 163 (List.map (Value.int .u8) X)) := extB_setCells _ _ _ (ExtB.refl _ _)
  replace HR := hidp (HR.out.extb hx0 hbm)
  have HS : Hid (Zs (V3.setCells b 163 (List.map (Value.int .u8) X)) b f ss sf ⟨S.k, true, n', h10 0 S.H y, S.C⟩ { p with os := X } false st) := HSS.out.setOs hXn
  replace HE : Hid (ExtB b w (V3.setCells b 163 (List.map (Value.int .u8) X))) := HE.out.comp hx0
  obtain ⟨W1, hW1⟩ : ∃ W, W = (V3.setCells b 163 (List.map (Value.int .u8) X)) := ⟨_, rfl⟩
  rw [← hW1] at HS HR HE ⊢
  clear hx0 hW1 HSS
  obtain ⟨cm, cmf⟩ := HS.out.metC
  go_upto_region 11 with fail
  clear cm cmf
  have hx0 : ExtB b W1 (W1.setCell ⟨b, 227, none⟩ (.bool true)) := (ExtB.refl b W1).set 227 _
  replace HR := hidp (HR.out.extb hx0 hbm)
  replace HS : Hid (Zs (W1.setCell ⟨b, 227, none⟩ (.bool true)) b f ss sf ⟨S.k, true, n', h10 0 S.H y, S.C⟩ { p with os := X, met := true } false st) := HS.out.setMet true
  replace HE : Hid (ExtB b w (W1.setCell ⟨b, 227, none⟩ (.bool true))) := HE.out.comp hx0
  obtain ⟨W2, hW2⟩ : ∃ W, W = W1.setCell ⟨b, 227, none⟩ (.bool true) := ⟨_, rfl⟩
  rw [← hW2] at HS HR HE ⊢
  clear hx0 hW2
  have HRR : Hid (Rd W2 (if cap = 48 then some ⟨bm, om, none⟩ else some ⟨bm, om + 48, none⟩) (len - 48) (cap - 48) (x.drop 48)) := HR.out.rest 48 (by omega)
  clear HR
  rw [HN.out, HX.out] at HS
  clear HN HX
  by_cases hc : cap = 48
  ·rw [if_pos hc] at HRR
   have q2 : (cap : Int) = 48 := by omega
   go_wp2
   go_ret2
   exact ⟨_, len - 48, cap - 48, by go_num, by omega, HRR, nq_at hbm, HS, HE.out⟩
  ·rw [if_neg hc] at HRR
   have q2 : ¬ (cap : Int) = 48 := by omega
   go_wp2
   go_ret2
   exact ⟨_, len - 48, cap - 48, by go_num, by omega, HRR, nq_at hbm, HS, HE.out⟩
 | false => as_aux_lemma =>
  have hrz : rz S = 32 := by unfold rz; rw [hh]; rfl
  have q1 : ¬ (len : Int) < 32 := by omega
  have q3 : (32 : Int) ≤ (cap : Int) := by omega
  have q4 : (32 : Int) ≤ (len : Int) := by omega
  have q5 : (len : Int) ≤ (cap : Int) := by omega
  have HM0 : Hid (My w b S.k false S.n S.H S.C) := by have := HS.out.my; rw [hh] at this; exact this
  rw [hh] at hoe hol
  rw [hrz] at hoe hol ⊢
  obtain ⟨y, hy⟩ : ∃ y, y = x.take 32 := ⟨_, rfl⟩
  rw [← hy] at hoe hol ⊢
  have HC : Hid (Rd w (some ⟨bm, om, none⟩) 32 cap y) := by rw [hy]; exact HR.out.cut 32 (by omega)
  have HOE : Hid (oe9 S.k false S.n S.H y = 0) := hoe
  have HOL : Hid ((ox9 S.k false S.n S.H y).length = 32) := hol
  clear hy hoe hol hrz hl hh
  go_enter Tryz.func90, Tryz.ntmps90
  go_wp2_with fail
  refine (haskey10_c b S.k false S.n S.H S.C _ HM0.out).mono ?_
  rintro e V ⟨rfl, hw⟩
  rw [hw]
  clear hw V
  go_upto_region 6 with fail
  refine wp_region_noPanic ?_
  refine wp_region_held_drew (S := ExtB b w) (by kernel_rfl) (ExtB.refl b w).drew (fun hH => ?_)
  change wpAnyH _ _ _ _ _ _ #[false, false, false, false, false, false, false, false, false, false, false, false] _ _
  refine tn 0 ?_
  refine tn 1 ?_
  refine tn 2 ?_
  refine tn 3 ?_
  refine tn 4 ?_
  refine tn 5 ?_
  refine rdy 6 (fun K hK => ?_)
  go_simp
  refine (open10_c b S.k false S.n S.H S.C (some ⟨bm, om, none⟩) 32 cap y _ HM0.out.drew (HC.out.below (Below.refl _ _).drew) (HG.out.gb.later (Below.refl _ _).drew) hg0 hg1 (by decide)).mono ?_
  rintro e V3 ⟨a1, m1, c1, X, E, n', rfl, HX, HEE, HN, RX, HM, hx, hfr⟩
  have hE0 : E = 0 := by rw [HEE.out]; exact HOE.out
  subst hE0
  have hXl : X.length = 32 := by rw [HX.out]; exact HOL.out
  obtain rfl : m1 = 32 := by rw [← RX.out.hlen]; exact hXl
  obtain ⟨bx, ox, rfl, -⟩ := RX.out.cell (by decide)
  have hxb : bx ≠ b := hfr.nq hlt (by decide) _ rfl
  have HXL : Hid (X.length = 32) := hXl
  clear hXl hfr
  refine ko hK ((ExtB.refl b w).drew.comp hx.ext) fun hH => ?_; clear hK K
  refine tn 7 ?_
  refine tn 8 ?_
  refine tn 9 ?_
  refine tn 10 ?_
  refine tn 11 ?_
  refine wpAnyH_done (by kernel_rfl) ?_ _
  refine NoPanic.normal ?_
  have HSS : Hid (Zs V3 b f ss sf ⟨S.k, false, n', h10 0 S.H y, S.C⟩ p false st) := HS.out.drew.sym HM.out hx
  have HE : Hid (ExtB b w V3) := hH
  replace HR := hidp (HR.out.extb hH hbm)
  have hXn : Bn 32 X := ⟨HXL.out, RX.out.byt⟩
  have hXt : X.take 32 = X := List.take_of_length_le (by rw [HXL.out]; exact Nat.le_refl _)
  have hcp := copy_c V3 b 163 32 32 ⟨bx, ox, none⟩ 32 c1 X RX.out 32 (by decide) HSS.out.co.all
  simp only [hXt] at hcp
  clear hXt HS HM hx hH HC HM0 HG HEE HOE HOL
  go_upto_region 10 with fail
  clear hcp RX
  have hx0 : ExtB b V3 (V3.setCells b 163 (List.map (Value.int .u8) X)) := extB_setCells _ _ _ (ExtB.refl _ _)
  replace HR := hidp (HR.out.extb hx0 hbm)
  have HS : Hid (Zs (V3.setCells b 163 (List.map (Value.int .u8) X)) b f ss sf ⟨S.k, false, n', h10 0 S.H y, S.C⟩ { p with os := X } false st) := HSS.out.setOs hXn
  replace HE : Hid (ExtB b w (V3.setCells b 163 (List.map (Value.int .u8) X))) := HE.out.comp hx0
  obtain ⟨W1, hW1⟩ : ∃ W, W = (V3.setCells b 163 (List.map (Value.int .u8) X)) := ⟨_, rfl⟩
  rw [← hW1] at HS HR HE ⊢
  clear hx0 hW1 HSS
  obtain ⟨cm, cmf⟩ := HS.out.metC
  go_upto_region 11 with fail
  clear cm cmf
  have hx0 : ExtB b W1 (W1.setCell ⟨b, 227, none⟩ (.bool true)) := (ExtB.refl b W1).set 227 _
  replace HR := hidp (HR.out.extb hx0 hbm)
  replace HS : Hid (Zs (W1.setCell ⟨b, 227, none⟩ (.bool true)) b f ss sf ⟨S.k, false, n', h10 0 S.H y, S.C⟩ { p with os := X, met := true } false st) := HS.out.setMet true
  replace HE : Hid (ExtB b w (W1.setCell ⟨b, 227, none⟩ (.bool true))) := HE.out.comp hx0
  obtain ⟨W2, hW2⟩ : ∃ W, W = W1.setCell ⟨b, 227, none⟩ (.bool true) := ⟨_, rfl⟩
  rw [← hW2] at HS HR HE ⊢
  clear hx0 hW2
  have HRR : Hid (Rd W2 (if cap = 32 then some ⟨bm, om, none⟩ else some ⟨bm, om + 32, none⟩) (len - 32) (cap - 32) (x.drop 32)) := HR.out.rest 32 (by omega)
  clear HR
  rw [HN.out, HX.out] at HS
  clear HN HX
  by_cases hc : cap = 32
  ·rw [if_pos hc] at HRR
   have q2 : (cap : Int) = 32 := by omega
   go_wp2
   go_ret2
   exact ⟨_, len - 32, cap - 32, by go_num, by omega, HRR, nq_at hbm, HS, HE.out⟩
  ·rw [if_neg hc] at HRR
   have q2 : ¬ (cap : Int) = 32 := by omega
   go_wp2
   go_ret2
   exact ⟨_, len - 32, cap - 32, by go_num, by omega, HRR, nq_at hbm, HS, HE.out⟩
set_option maxHeartbeats 4000000 in
theorem rtok_e (b : Nat) (f : Bool) (ss sf : List Int) (S : S11) (p : P11) (st : Int) (a : Option Addr) (len cap : Nat) (x : List Int) (w : World) (hs : Zs w b f ss sf S p false st) (hg : Gs w) (hr : Rd w a len cap x) (hq : Nq b a len) (t : Int) (ht : t = 101) (hk : rk f ss sf t x S p) :
  Calls Tryz.prog 61 #[.pointer (some ⟨b, 0, none⟩), .int .i32 t, .slice a len cap] w fun e w' => ∃ a' n' c', e = .returned (.tuple #[.slice a' n' c', .int .i64 0]) ∧ n' ≤ len ∧ Hid (Rd w' a' n' c' (rm t x S)) ∧ Nq b a' n' ∧ Hid (Zs w' b f ss sf (rq f ss sf t x S p) (rp t x S p) false st) ∧ ExtB b w w' := by
 subst ht
 have hl : 32 ≤ len := by have h := hr.hlen; have : 32 ≤ x.length := hk; omega
 go_enter Tryz.func61, Tryz.ntmps61
 go_wp2_with fail
 refine (rfresh_c b f ss sf S p st a len cap x _ hs hg hr hq hl).mono ?_
 rintro e V ⟨a', n', c', rfl, hn, HR, HQ, HS, HE⟩
 clear hs hg hr hq
 go_wp2
 go_ret2
 exact ⟨a', n', c', rfl, hn, HR, HQ, HS, HE⟩
set_option maxHeartbeats 4000000 in
theorem rtok_s (b : Nat) (f : Bool) (ss sf : List Int) (S : S11) (p : P11) (st : Int) (a : Option Addr) (len cap : Nat) (x : List Int) (w : World) (hs : Zs w b f ss sf S p false st) (hg : Gs w) (hr : Rd w a len cap x) (hq : Nq b a len) (t : Int) (ht : t = 115) (hk : rk f ss sf t x S p) :
  Calls Tryz.prog 61 #[.pointer (some ⟨b, 0, none⟩), .int .i32 t, .slice a len cap] w fun e w' => ∃ a' n' c', e = .returned (.tuple #[.slice a' n' c', .int .i64 0]) ∧ n' ≤ len ∧ Hid (Rd w' a' n' c' (rm t x S)) ∧ Nq b a' n' ∧ Hid (Zs w' b f ss sf (rq f ss sf t x S p) (rp t x S p) false st) ∧ ExtB b w w' := by
 subst ht
 have hk' : rz S ≤ x.length ∧ oe9 S.k S.h S.n S.H (x.take (rz S)) = 0 ∧ (ox9 S.k S.h S.n S.H (x.take (rz S))).length = 32 := hk
 obtain ⟨h1, h2, h3⟩ := hk'
 rw [hr.hlen] at h1
 have HX2 : Hid (oe9 S.k S.h S.n S.H (x.take (rz S)) = 0) := h2
 go_enter Tryz.func61, Tryz.ntmps61
 go_wp2_with fail
 refine (rstatic_c b f ss sf S p st a len cap x _ hs hg hr hq h1 h2 h3).mono ?_
 rintro e V ⟨a', n', c', rfl, hn, HR, HQ, HS, HE⟩
 clear hs hg hr hq h1 h2 h3 hk
 go_wp2
 go_ret2
 exact ⟨a', n', c', rfl, hn, HR, HQ, HS.out.is (by show (⟨S.k, S.h, _, h10 0 S.H (x.take (rz S)), S.C⟩ : S11) = { S with n := on9 S.k S.h S.n S.H (x.take (rz S)), H := h10 (oe9 S.k S.h S.n S.H (x.take (rz S))) S.H (x.take (rz S)) }; rw [HX2.out]), HE⟩
set_option maxHeartbeats 4000000 in
theorem rtok_m (b : Nat) (f : Bool) (ss sf : List Int) (S : S11) (p : P11) (st : Int) (a : Option Addr) (len cap : Nat) (x : List Int) (w : World) (hs : Zs w b f ss sf S p false st) (hg : Gs w) (hr : Rd w a len cap x) (hq : Nq b a len) (t : Int) (h3 : t = 61 ∨ t = 62 ∨ t = 60) (hk : rk f ss sf t x S p) :
  Calls Tryz.prog 61 #[.pointer (some ⟨b, 0, none⟩), .int .i32 t, .slice a len cap] w fun e w' => ∃ a' n' c', e = .returned (.tuple #[.slice a' n' c', .int .i64 0]) ∧ n' ≤ len ∧ Hid (Rd w' a' n' c' (rm t x S)) ∧ Nq b a' n' ∧ Hid (Zs w' b f ss sf (rq f ss sf t x S p) (rp t x S p) false st) ∧ ExtB b w w' := by
 have h101 : ¬ t = 101 := by rcases h3 with rfl | rfl | rfl <;> decide
 have h115 : ¬ t = 115 := by rcases h3 with rfl | rfl | rfl <;> decide
 have HS0 : Hid (Zs w b f ss sf S p false st) := hs
 have HG : Hid (Gs w) := hg
 have HR0 : Hid (Rd w a len cap x) := hr
 have HZ : Hid (dh (pr11 f ss sf p.os p.oF t).1 (pr11 f ss sf p.os p.oF t).2 ≠ 0) := by have := hk; unfold rk at this; rw [if_neg h101, if_neg h115] at this; exact this
 have HQ : Hid (S.mk' (dh (pr11 f ss sf p.os p.oF t).1 (pr11 f ss sf p.os p.oF t).2) = rq f ss sf t x S p) := by unfold Hid rq; rw [if_neg h101, if_neg h115]
 have HP : Hid (p = rp t x S p) := by unfold Hid rp; rw [if_neg h101, if_neg h115]
 have HM : Hid (x = rm t x S) := by unfold Hid rm; rw [if_neg h101, if_neg h115]
 clear hs hg hk hr
 go_enter Tryz.func61, Tryz.ntmps61
 go_wp2_with fail
 refine (agree11_c b f ss sf S p st t h3 _ HS0.out HG.out HZ.out).mono ?_
 rintro e V ⟨rfl, HS, hb⟩
 have HR : Hid (Rd V a len cap x) := HR0.out.nq hb hq
 clear HS0 HG HZ HR0
 go_wp2
 go_ret2
 exact ⟨a, len, cap, rfl, Nat.le_refl _, by rw [← HM.out]; exact HR, hq, by rw [← HQ.out, ← HP.out]; exact HS, hb⟩
/-- A token that is read. -/
theorem rtok_c (b : Nat) (f : Bool) (ss sf : List Int) (S : S11) (p : P11) (st : Int) (a : Option Addr) (len cap : Nat) (x : List Int) (w : World) (hs : Zs w b f ss sf S p false st) (hg : Gs w) (hr : Rd w a len cap x) (hq : Nq b a len) (t : Int) (h5 : t = 101 ∨ t = 115 ∨ t = 61 ∨ t = 62 ∨ t = 60) (hk : rk f ss sf t x S p) :
  Calls Tryz.prog 61 #[.pointer (some ⟨b, 0, none⟩), .int .i32 t, .slice a len cap] w fun e w' => ∃ a' n' c', e = .returned (.tuple #[.slice a' n' c', .int .i64 0]) ∧ n' ≤ len ∧ Hid (Rd w' a' n' c' (rm t x S)) ∧ Nq b a' n' ∧ Hid (Zs w' b f ss sf (rq f ss sf t x S p) (rp t x S p) false st) ∧ ExtB b w w' := by
 rcases h5 with h | h | h
 ·exact rtok_e b f ss sf S p st a len cap x w hs hg hr hq t h hk
 ·exact rtok_s b f ss sf S p st a len cap x w hs hg hr hq t h hk
 ·exact rtok_m b f ss sf S p st a len cap x w hs hg hr hq t h hk
end Go.Proofs.YtlnbjehimabaiaaGreatDoor
