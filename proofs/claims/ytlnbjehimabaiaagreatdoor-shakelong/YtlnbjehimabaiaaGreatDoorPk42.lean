/-
  Several texts of one's own, laid together. No statement of the seat is proved here.
-/
import Derived.Test.YtlnbjehimabaiaaGreatDoorPk1
import Derived.Test.YtlnbjehimabaiaaGreatDoorPk41
import Derived.Test.YtlnbjehimabaiaaGreatDoorPk3
import Derived.Test.YtlnbjehimabaiaaGreatDoorPk17
/-
 What a State's Seal does where it is embedded. No statement of the seat is proved here.
-/
namespace Go.Proofs.YtlnbjehimabaiaaGreatDoor
open Go.RowKit
set_option maxRecDepth 8000

set_option maxHeartbeats 2000000 in
theorem seal9o_none (b o : Nat) (k : List Int) (n : Int) (aa : Option Addr) (la ca : Nat) (_ad : List Int) (at' : Option Addr) (lt ct : Nat) (text : List Int) (w : World) (hs : Sy w b o k false n) (hrt : Rd w at' lt ct text) (hm : lt ≤ 140737488351232) :
  Calls Tryz.prog 28 #[.pointer (some ⟨b, o, none⟩), .slice aa la ca, .slice at' lt ct] w fun e w' => ∃ g, e = .returned (.tuple #[.slice (some ⟨g, 0, none⟩) lt lt, .int .i64 0]) ∧ w.heap.size ≤ g ∧ Hid (Ow w' g lt text) ∧ Hid (Sy w' b o k false n) ∧ Below w.heap.size w w' := by
 have HS : Hid (Sy w b o k false n) := hs
 have HRT : Hid (Rd w at' lt ct text) := hrt
 obtain ⟨ch, -⟩ := hs.has
 clear hs hrt
 go_enter Tryz.func28, Tryz.ntmps28
 go_wp2_with fail
 refine (clone_any at' lt ct text _ HRT.out (by omega)).mono ?_
 rintro e V ⟨g, rfl, hg, ho, hb⟩
 have HO : Hid (Ow V g lt text) := ⟨⟨_, ho⟩, HRT.out.byt⟩
 replace HS := hidp (HS.out.later hb)
 have HB : Hid (Below w.heap.size w V) := hb
 clear ho hb HRT ch
 go_wp2
 go_ret2
 exact ⟨g, rfl, hg, HO, HS, HB.out⟩
set_option maxHeartbeats 2000000 in
theorem seal9o_last (b o : Nat) (k : List Int) (n : Int) (aa : Option Addr) (la ca : Nat) (_ad : List Int) (at' : Option Addr) (lt ct : Nat) (_text : List Int) (w : World) (hs : Sy w b o k true n) (hn : n = 18446744073709551615) :
  Calls Tryz.prog 28 #[.pointer (some ⟨b, o, none⟩), .slice aa la ca, .slice at' lt ct] w fun e w' => e = .returned (.tuple #[.slice none 0 0, .int .i64 9]) ∧ w' = w := by
 subst hn
 obtain ⟨ch, -⟩ := hs.has
 obtain ⟨cn, -⟩ := hs.nonce
 clear hs
 go_enter Tryz.func28, Tryz.ntmps28
 go_wp2
 go_ret2
 exact ⟨rfl, rfl⟩
set_option maxHeartbeats 4000000 in
theorem seal9o_yes (b o : Nat) (k : List Int) (n : Int) (aa : Option Addr) (la ca : Nat) (ad : List Int) (at' : Option Addr) (lt ct : Nat) (text : List Int) (w : World) (hs : Sy w b o k true n) (hn : n ≠ 18446744073709551615) (hra : Rd w aa la ca ad) (hrt : Rd w at' lt ct text) (ha : la ≤ 140737488351232) (hm : lt ≤ 140737488351232) :
  Calls Tryz.prog 28 #[.pointer (some ⟨b, o, none⟩), .slice aa la ca, .slice at' lt ct] w fun e w' => ∃ g m X n', e = .returned (.tuple #[.slice (some ⟨g, 0, none⟩) m m, .int .i64 0]) ∧ w.heap.size ≤ g ∧ Hid (m = lt + 16) ∧ Hid (X = se6 k (nn6 n) ad text) ∧ Hid (n' = n + 1) ∧ Hid (Ow w' g m X) ∧ Hid (Sy w' b o k true n') ∧ ExtR b o 34 w w' := by
 have HS : Hid (Sy w b o k true n) := hs
 have HRA : Hid (Rd w aa la ca ad) := hra
 have HRT : Hid (Rd w at' lt ct text) := hrt
 have hn1 : n + 1 < 18446744073709551616 := by have := hs.wn; omega
 have hw1 : IntKind.u64.wrap (n + 1) = n + 1 := by rw [IntKind.wrap_u64]; have := hs.wn; omega
 obtain ⟨n', hn'⟩ : ∃ x, x = n + 1 := ⟨_, rfl⟩
 have HN1 : Hid (n' = n + 1) := hn'
 rw [← hn'] at hn1
 have hw2 : (n + 1) % 18446744073709551616 = n' := by rw [hn'] at hn1 ⊢; have := hs.wn; omega
 have hlo : 0 ≤ n' := by have := hs.wn; omega
 rw [← hn', show IntKind.u64.wrap n' = IntKind.u64.wrap (n + 1) by rw [hn']] at hw1
 obtain ⟨ch, -⟩ := hs.has
 obtain ⟨cn, -⟩ := hs.nonce
 obtain ⟨_, _, hiK⟩ := bn32_cells hs.bk
 clear hs hra hrt hn'
 go_enter Tryz.func28, Tryz.ntmps28
 go_upto_region 5 with fail
 have xx : ∀ u, Ext w u → u.cell? ⟨b, o + 33, none⟩ = some (.int .u64 n) := fun u hu => hu.cell cn
 refine wp_region_noPanic ?_
 refine wp_region_held_drew (S := Ext w) (by kernel_rfl) (Ext.refl _).drew (fun hH => ?_)
 change wpAnyH _ _ _ _ _ _ #[false, false, false, false, false, false, false, false, false, false, false, false, false] _ _
 refine tn 0 ?_
 refine tn 1 ?_
 refine tn 2 ?_
 refine tnl 3 (.agg (List.map (Value.int .u8) k).toArray) ?_ (hy := by exact yieldsIf_load_mid (by rfl) 30 (.tmp 23) rfl b o rfl (List.map (Value.int .u8) k) _ (fun u hu => range_later hu HS.out.key) Tryz.underlying30 rfl hiK)
 refine tn 4 ?_
 refine tn 5 ?_
 refine tn 6 ?_
 refine tn 7 ?_ (hy := by (intro u hu; (have hx := xx u hu; go_simp) <;> with_reducible rfl))
 refine tn 9 ?_
 refine tn 10 ?_
 refine rdy 8 (fun K hK => ?_)
 go_simp
 refine (nonce_c n HS.out.wn.1 HS.out.wn.2 _).mono ?_
 rintro e V1 ⟨N, rfl, HN, HNn, hb⟩
 refine ko hK (hH.trans hb) fun hH => ?_; clear hK K
 clear hb
 have hv1 : w.heap.size ≤ V1.heap.size := hH.size
 refine rdy 11 (fun K hK => ?_)
 go_simp
 refine (seal_c k N aa la ca ad at' lt ct text HS.out.bk HNn.out _ (HRA.out.below hH) (HRT.out.below hH) ha hm).mono ?_
 rintro e V2 ⟨g, m, X, rfl, Hm, HX, OX, hg, hb⟩
 refine ko hK (hH.trans hb) fun hH => ?_; clear hK K
 refine tn 12 ?_
 refine wpAnyH_done (by kernel_rfl) ?_ _
 refine NoPanic.normal ?_
 have hlt := HS.out.lt
 replace HS := hidp (HS.out.later hH)
 have HE : Hid (ExtR b o 34 w V2) := ExtR.of hH hlt
 have hne : b ≠ g := by have := hH.size; have := hg; omega
 clear HRA HRT xx cn ch hb
 obtain ⟨cn, fn⟩ := HS.out.nonce
 have HO : Hid (Ow (V2.setCell ⟨b, o + 33, none⟩ (.int .u64 n')) g m X) := OX.out.else b (o + 33) (Ne.symm hne) _
 have HS2 : Hid (Sy (V2.setCell ⟨b, o + 33, none⟩ (.int .u64 n')) b o k true n') := HS.out.setN ⟨hlo, hn1⟩
 have HE2 : Hid (ExtR b o 34 w (V2.setCell ⟨b, o + 33, none⟩ (.int .u64 n'))) := HE.out.set (o + 33) (by omega) (by omega) _
 clear HS HE OX hn1 hlo
 go_wp2
 go_ret2
 exact ⟨g, m, X, n', rfl, by omega, Hm, by rw [HN.out] at HX; exact HX, HN1, HO, HS2, HE2.out⟩
end Go.Proofs.YtlnbjehimabaiaaGreatDoor
/-
 What a State's Open does where it is embedded. No statement of the seat is proved here.
-/
namespace Go.Proofs.YtlnbjehimabaiaaGreatDoor
open Go.RowKit
set_option maxRecDepth 8000



set_option maxHeartbeats 2000000 in
theorem open9o_none (b o : Nat) (k : List Int) (n : Int) (aa : Option Addr) (la ca : Nat) (_ad : List Int) (ab : Option Addr) (lb cb : Nat) (box : List Int) (w : World) (hs : Sy w b o k false n) (hrt : Rd w ab lb cb box) (hm : lb ≤ 140737488351248) :
  Calls Tryz.prog 29 #[.pointer (some ⟨b, o, none⟩), .slice aa la ca, .slice ab lb cb] w fun e w' => ∃ g, e = .returned (.tuple #[.slice (some ⟨g, 0, none⟩) lb lb, .int .i64 0]) ∧ w.heap.size ≤ g ∧ Hid (Ow w' g lb box) ∧ Hid (Sy w' b o k false n) ∧ Below w.heap.size w w' := by
 have HS : Hid (Sy w b o k false n) := hs
 have HRT : Hid (Rd w ab lb cb box) := hrt
 obtain ⟨ch, -⟩ := hs.has
 clear hs hrt
 go_enter Tryz.func29, Tryz.ntmps29
 go_wp2_with fail
 refine (clone_any ab lb cb box _ HRT.out (by omega)).mono ?_
 rintro e V ⟨g, rfl, hg, ho, hb⟩
 have HO : Hid (Ow V g lb box) := ⟨⟨_, ho⟩, HRT.out.byt⟩
 replace HS := hidp (HS.out.later hb)
 have HB : Hid (Below w.heap.size w V) := hb
 clear ho hb HRT ch
 go_wp2
 go_ret2
 exact ⟨g, rfl, hg, HO, HS, HB.out⟩
set_option maxHeartbeats 2000000 in
theorem open9o_last (b o : Nat) (k : List Int) (n : Int) (aa : Option Addr) (la ca : Nat) (_ad : List Int) (ab : Option Addr) (lb cb : Nat) (_box : List Int) (w : World) (hs : Sy w b o k true n) (hn : n = 18446744073709551615) :
  Calls Tryz.prog 29 #[.pointer (some ⟨b, o, none⟩), .slice aa la ca, .slice ab lb cb] w fun e w' => e = .returned (.tuple #[.slice none 0 0, .int .i64 9]) ∧ w' = w := by
 subst hn
 obtain ⟨ch, -⟩ := hs.has
 obtain ⟨cn, -⟩ := hs.nonce
 clear hs
 go_enter Tryz.func29, Tryz.ntmps29
 go_wp2
 go_ret2
 exact ⟨rfl, rfl⟩
set_option maxHeartbeats 4000000 in
theorem open9o_full (b o : Nat) (k : List Int) (n : Int) (aa : Option Addr) (la ca : Nat) (ad : List Int) (ab : Option Addr) (lb cb : Nat) (box : List Int) (w : World) (hs : Sy w b o k true n) (hn : n ≠ 18446744073709551615) (hra : Rd w aa la ca ad) (hrb : Rd w ab lb cb box) (ha : la ≤ 140737488351232) (hm : lb ≤ 140737488351248) :
  Calls Tryz.prog 29 #[.pointer (some ⟨b, o, none⟩), .slice aa la ca, .slice ab lb cb] w fun e w' => ∃ a' m c X E n', e = .returned (.tuple #[.slice a' m c, .int .i64 E]) ∧ Hid (E = er6 k (nn6 n) ad box) ∧ Hid (X = op6 k (nn6 n) ad box) ∧ Hid (n' = if E = 0 then n + 1 else n) ∧ Hid (Rd w' a' m c X) ∧ Hid (Sy w' b o k true n') ∧ ExtR b o 34 w w' ∧ Kp w w' ∧ Fr w.heap.size a' m := by
 have HS : Hid (Sy w b o k true n) := hs
 have HRA : Hid (Rd w aa la ca ad) := hra
 have HRB : Hid (Rd w ab lb cb box) := hrb
 have hn1 : n + 1 < 18446744073709551616 := by have := hs.wn; omega
 have hw1 : IntKind.u64.wrap (n + 1) = n + 1 := by rw [IntKind.wrap_u64]; have := hs.wn; omega
 obtain ⟨n', hn'⟩ : ∃ x, x = n + 1 := ⟨_, rfl⟩
 have HN1 : Hid (n' = n + 1) := hn'
 rw [← hn'] at hn1
 have hlo : 0 ≤ n' := by have := hs.wn; omega
 rw [← hn', show IntKind.u64.wrap n' = IntKind.u64.wrap (n + 1) by rw [hn']] at hw1
 obtain ⟨ch, -⟩ := hs.has
 obtain ⟨cn, -⟩ := hs.nonce
 obtain ⟨_, _, hiK⟩ := bn32_cells hs.bk
 clear hs hra hrb hn'
 go_enter Tryz.func29, Tryz.ntmps29
 go_upto_region 5 with fail
 have xx : ∀ u, Ext w u → u.cell? ⟨b, o + 33, none⟩ = some (.int .u64 n) := fun u hu => hu.cell cn
 refine wp_region_noPanic ?_
 refine wp_region_held_drew (S := Ext w) (by kernel_rfl) (Ext.refl _).drew (fun hH => ?_)
 change wpAnyH _ _ _ _ _ _ #[false, false, false, false, false, false, false, false, false, false, false, false, false, false, false, false, false] _ _
 refine tn 0 ?_
 refine tn 1 ?_
 refine tn 2 ?_
 refine tnl 3 (.agg (List.map (Value.int .u8) k).toArray) ?_ (hy := by exact yieldsIf_load_mid (by rfl) 30 (.tmp 25) rfl b o rfl (List.map (Value.int .u8) k) _ (fun u hu => range_later hu HS.out.key) Tryz.underlying30 rfl hiK)
 refine tn 4 ?_
 refine tn 5 ?_
 refine tn 6 ?_
 refine tn 7 ?_ (hy := by (intro u hu; (have hx := xx u hu; go_simp) <;> with_reducible rfl))
 refine tn 9 ?_
 refine tn 10 ?_
 refine rdy 8 (fun K hK => ?_)
 go_simp
 refine (nonce_c n HS.out.wn.1 HS.out.wn.2 _).mono ?_
 rintro e V1 ⟨N, rfl, HN, HNn, hb⟩
 refine ko hK (hH.trans hb) fun hH => ?_; clear hK K
 clear hb
 refine rdy 11 (fun K hK => ?_)
 go_simp
 refine (open_f k N aa la ca ad ab lb cb box HS.out.bk HNn.out _ (HRA.out.below hH) (HRB.out.below hH) ha hm).mono ?_
 rintro e V2 ⟨a', m, c, X, E, rfl, HE6, HX, RX, hfr, hb⟩
 have HFR : Hid (Fr w.heap.size a' m) := hfr.mono hH.size
 clear hfr
 refine ko hK (hH.trans hb) fun hH => ?_; clear hK K
 refine tn 12 ?_
 refine tn 13 ?_
 refine tn 14 ?_
 refine tn 15 ?_
 refine tn 16 ?_
 refine wpAnyH_done (by kernel_rfl) ?_ _
 refine NoPanic.normal ?_
 have hlt := HS.out.lt
 replace HS := hidp (HS.out.later hH)
 replace HRX : Hid (Rd V2 a' m c X) := RX
 have HE : Hid (ExtR b o 34 w V2) := ExtR.of hH hlt
 rw [HN.out] at HE6 HX
 have HKP : Hid (Kp w V2) := Kp.below hH
 clear HRA HRB xx cn ch hb RX
 obtain ⟨cn, fn⟩ := HS.out.nonce
 by_cases h0 : E = 0
 ·subst h0
  have HS2 : Hid (Sy (V2.setCell ⟨b, o + 33, none⟩ (.int .u64 n')) b o k true n') := HS.out.setN ⟨hlo, hn1⟩
  have HE2 : Hid (ExtR b o 34 w (V2.setCell ⟨b, o + 33, none⟩ (.int .u64 n'))) := HE.out.set (o + 33) (by omega) (by omega) _
  have HR2 : Hid (Rd (V2.setCell ⟨b, o + 33, none⟩ (.int .u64 n')) a' m c X) := HRX.out.not_here cn (fun m h => by cases h) _
  have HK2 : Hid (Kp w (V2.setCell ⟨b, o + 33, none⟩ (.int .u64 n'))) := fun a l c x hr => (HKP.out a l c x hr).not_here cn (fun m h => by cases h) _
  clear HS HRX HE hn1 hlo HKP
  go_wp2
  go_ret2
  exact ⟨a', m, c, X, 0, n', rfl, HE6, HX, by unfold Hid; rw [if_pos rfl]; exact HN1.out, HR2, HS2, HE2.out, HK2.out, HFR.out⟩
 ·have HNX : Hid (op6 k (nn6 n) ad box = []) := op6_not _ _ _ _ (by rw [← HE6.out]; exact h0)
  clear HX HRX hn1 hlo hw1 cn fn
  go_wp2
  go_ret2
  exact ⟨none, 0, 0, [], E, n, rfl, HE6, HNX.out.symm, by unfold Hid; rw [if_neg h0], Rd.nil _ _ _ (fun _ => rfl), HS, HE.out, HKP.out, fr_nil⟩
end Go.Proofs.YtlnbjehimabaiaaGreatDoor
/-
 Seal and Open of a State that is embedded, whatever state it is in. No statement of the seat is proved here.
-/
namespace Go.Proofs.YtlnbjehimabaiaaGreatDoor
open Go.RowKit
set_option maxRecDepth 8000

theorem seal9o_c (b o : Nat) (k : List Int) (h : Bool) (n : Int) (aa : Option Addr) (la ca : Nat) (ad : List Int) (at' : Option Addr) (lt ct : Nat) (text : List Int) (w : World) (hs : Sy w b o k h n) (hra : Rd w aa la ca ad) (hrt : Rd w at' lt ct text) (ha : la ≤ 140737488351232) (hm : lt ≤ 140737488351232) :
  Calls Tryz.prog 28 #[.pointer (some ⟨b, o, none⟩), .slice aa la ca, .slice at' lt ct] w fun e w' => ∃ a m c X E n', e = .returned (.tuple #[.slice a m c, .int .i64 E]) ∧ m ≤ lt + 16 ∧ Hid (X = sx9 k h n ad text) ∧ Hid (E = se9 h n) ∧ Hid (n' = sn9 h n) ∧ Hid (Rd w' a m c X) ∧ Hid (Sy w' b o k h n') ∧ ExtR b o 34 w w' ∧ Fr w.heap.size a m := by
 cases h with
 | false =>
  refine (seal9o_none b o k n aa la ca ad at' lt ct text w hs hrt hm).mono ?_
  rintro e w' ⟨g, rfl, hg, ho, hs', hb⟩
  exact ⟨_, lt, lt, text, 0, n, rfl, by omega, rfl, rfl, rfl, ho.out.rd, hs', ExtR.of hb hs.lt, fr_at hg⟩
 | true =>
  by_cases hn : n = 18446744073709551615
  ·refine (seal9o_last b o k n aa la ca ad at' lt ct text w hs hn).mono ?_
   rintro e w' ⟨rfl, rfl⟩
   exact ⟨none, 0, 0, [], 9, n, rfl, by omega, by unfold Hid sx9; rw [if_pos rfl, if_pos hn], by unfold Hid se9; rw [if_pos rfl, if_pos hn], by unfold Hid sn9; rw [if_pos rfl, if_pos hn], Rd.nil _ _ _ (fun _ => rfl), hs, ExtR.refl _ _ _ _, fr_nil⟩
  ·refine (seal9o_yes b o k n aa la ca ad at' lt ct text w hs hn hra hrt ha hm).mono ?_
   rintro e w' ⟨g, m, X, n', rfl, hg, hm', hX, hn', ho, hs', hb⟩
   exact ⟨_, m, m, X, 0, n', rfl, by have := hm'.out; omega, by unfold Hid sx9; rw [if_pos rfl, if_neg hn]; exact hX.out, by unfold Hid se9; rw [if_pos rfl, if_neg hn], by unfold Hid sn9; rw [if_pos rfl, if_neg hn]; exact hn'.out, ho.out.rd, hs', hb, fr_at hg⟩
theorem open9o_c (b o : Nat) (k : List Int) (h : Bool) (n : Int) (aa : Option Addr) (la ca : Nat) (ad : List Int) (ab : Option Addr) (lb cb : Nat) (box : List Int) (w : World) (hs : Sy w b o k h n) (hra : Rd w aa la ca ad) (hrb : Rd w ab lb cb box) (ha : la ≤ 140737488351232) (hm : lb ≤ 140737488351248) :
  Calls Tryz.prog 29 #[.pointer (some ⟨b, o, none⟩), .slice aa la ca, .slice ab lb cb] w fun e w' => ∃ a m c X E n', e = .returned (.tuple #[.slice a m c, .int .i64 E]) ∧ Hid (X = ox9 k h n ad box) ∧ Hid (E = oe9 k h n ad box) ∧ Hid (n' = on9 k h n ad box) ∧ Hid (Rd w' a m c X) ∧ Hid (Sy w' b o k h n') ∧ ExtR b o 34 w w' ∧ Kp w w' ∧ Fr w.heap.size a m := by
 cases h with
 | false =>
  refine (open9o_none b o k n aa la ca ad ab lb cb box w hs hrb hm).mono ?_
  rintro e w' ⟨g, rfl, hg, ho, hs', hb⟩
  exact ⟨_, lb, lb, box, 0, n, rfl, rfl, rfl, rfl, ho.out.rd, hs', ExtR.of hb hs.lt, Kp.below hb, fr_at hg⟩
 | true =>
  by_cases hn : n = 18446744073709551615
  ·refine (open9o_last b o k n aa la ca ad ab lb cb box w hs hn).mono ?_
   rintro e w' ⟨rfl, rfl⟩
   exact ⟨none, 0, 0, [], 9, n, rfl, by unfold Hid ox9; rw [if_pos rfl, if_pos hn], by unfold Hid oe9; rw [if_pos rfl, if_pos hn], by unfold Hid on9; rw [if_pos rfl, if_pos hn], Rd.nil _ _ _ (fun _ => rfl), hs, ExtR.refl _ _ _ _, Kp.refl _, fr_nil⟩
  ·refine (open9o_full b o k n aa la ca ad ab lb cb box w hs hn hra hrb ha hm).mono ?_
   rintro e w' ⟨a', m, c', X, E, n', rfl, hE, hX, hn', ho, hs', hb, hkp, hfr⟩
   exact ⟨_, m, c', X, E, n', rfl, by unfold Hid ox9; rw [if_pos rfl, if_neg hn]; exact hX.out, by unfold Hid oe9; rw [if_pos rfl, if_neg hn]; exact hE.out, by unfold Hid on9; rw [if_pos rfl, if_neg hn, ← hE.out]; exact hn'.out, ho, hs', hb, hkp, hfr⟩
end Go.Proofs.YtlnbjehimabaiaaGreatDoor
