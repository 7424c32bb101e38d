/-
  Several texts of one's own, laid together. No statement of the seat is proved here.
-/
import Derived.Test.YtmibjgkakolhiaaGreatDoorPk1
import Derived.Test.YtmibjgkakolhiaaGreatDoorPk41
import Derived.Test.YtmibjgkakolhiaaGreatDoorPk17
/-
 What the reference's Tag does: just what poly's does. No statement of the seat is proved here.
-/
namespace Go.Proofs.YtmibjgkakolhiaaGreatDoor
open Go.RowKit

set_option maxRecDepth 8000 in
theorem Ru.else {w : World} {b off len cap : Nat} {l : List Int} (h : Ru w (some ⟨b, off, none⟩) len cap l) (c k : Nat) (hc : b ≠ c) (v : Value) : Ru (w.setCell ⟨c, k, none⟩ v) (some ⟨b, off, none⟩) len cap l :=
 ⟨h.hlen, h.hle, h.byt, fun h0 => by
  obtain ⟨b', off', ha, hcell⟩ := h.cell h0
  cases ha
  exact ⟨b, off, rfl, fun i hi => ((ExtB.refl c w).set k v).cell hc (hcell i hi)⟩⟩
set_option maxRecDepth 8000 in
set_option maxHeartbeats 8000000 in
theorem rtag_c (ad : Option Addr) (len cap : Nat) (key text : List Int) (hk : Bn 32 key) (w : World) (hr : Rd w ad len cap text) (hm : len ≤ 2097152) :
  Calls Tryz.prog 72 #[(.agg (List.map (Value.int .u8) key).toArray), .slice ad len cap] w fun e w' => ∃ T, e = .returned (.agg (List.map (Value.int .u8) T).toArray) ∧ Hid (T = tg key text) ∧ Bn 16 T ∧ Below w.heap.size w w' := by
 obtain ⟨i0, hi, hz0, hz1, hz2⟩ := info_parts infoU
 have HK : Hid (Bn 32 key) := hk
 have HR : Hid (Rd w ad len cap text) := hr
 clear hk hr
 go_enter Tryz.func72, Tryz.ntmps72
 go_upto_region 1 with fail
 have AK : Hid (Ar ((w.alloc (.cells (List.map (Value.int .u8) key).toArray 33)).alloc (.cells zb16 99)) w.heap.size 32 (List.map (Value.int .u8) key)) := (ar_box w _ 32 HK.out.map_len _).later (bel1 _ _)
 have AQ : Hid (((w.alloc (.cells (List.map (Value.int .u8) key).toArray 33)).alloc (.cells zb16 99)).there (w.heap.size + 1) 0 16) := by have := there_new (w.alloc (.cells (List.map (Value.int .u8) key).toArray 33)) 16 zb16 rfl 99; simpa [Hid] using this
 have HB : Hid (Below w.heap.size w ((w.alloc (.cells (List.map (Value.int .u8) key).toArray 33)).alloc (.cells zb16 99))) := bel2 _ _ _
 generalize ((w.alloc (.cells (List.map (Value.int .u8) key).toArray 33)).alloc (.cells zb16 99)) = W at *
 have k1 : w.heap.size < w.heap.size + 1 := by omega
 generalize w.heap.size + 1 = b4 at *
 go_wp2_with fail
 have hgk0 : b4 < W.heap.size := there_lt AQ.out (by decide)
 refine (digits_c (some ⟨w.heap.size, 0, none⟩) 16 32 (key.take 16) _ (AK.out.rd HK.out.byt 0 16 32 (by decide) (by decide)) (by decide)).mono ?_
 rintro e V ⟨v, rfl, HO0, hb⟩
 replace AK := hidp (AK.out.later hb)
 replace AQ : Hid (V.there b4 0 16) := there_later hb AQ.out
 have hgw0 : w.heap.size ≤ W.heap.size := HB.out.size
 replace HB := hidp (HB.out.trans (hb.mono HB.out.size))
 clear hb
 obtain ⟨g, cg, hv, hgb, hgl⟩ := HO0.out.form (by decide)
 subst hv
 have hgw : w.heap.size ≤ g := by omega
 have hgk : w.heap.size ≠ g := by omega
 have hg4 : b4 ≠ g := by omega
 obtain ⟨x0, x1, x2, x3, x4, x5, x6, x7, x8, x9, x10, x11, x12, x13, x14, x15, hx⟩ := list16 (key.take 16) (by rw [List.length_take, HK.out.len]; rfl)
 have hby : Byt [x0, x1, x2, x3, x4, x5, x6, x7, x8, x9, x10, x11, x12, x13, x14, x15] := by rw [← hx]; exact HK.out.byt.take 16
 rw [hx] at HO0
 have h0 := hby x0 (by simp)
 have h1 := hby x1 (by simp)
 have h2 := hby x2 (by simp)
 have h3 := hby x3 (by simp)
 have h4 := hby x4 (by simp)
 have h5 := hby x5 (by simp)
 have h6 := hby x6 (by simp)
 have h7 := hby x7 (by simp)
 have h8 := hby x8 (by simp)
 have h9 := hby x9 (by simp)
 have h10 := hby x10 (by simp)
 have h11 := hby x11 (by simp)
 have h12 := hby x12 (by simp)
 have h13 := hby x13 (by simp)
 have h14 := hby x14 (by simp)
 have h15 := hby x15 (by simp)
 have HCl : Hid (cl5 key = leN [x0, x1, x2, x3 % 16, x4 / 4 * 4, x5, x6, x7 % 16, x8 / 4 * 4, x9, x10, x11 % 16, x12 / 4 * 4, x13, x14, x15 % 16]) := by
  unfold Hid
  rw [← cl5_digits x0 x1 x2 x3 x4 x5 x6 x7 x8 x9 x10 x11 x12 x13 x14 x15 h0 h1 h2 h3 h4 h5 h6 h7 h8 h9 h10 h11 h12 h13 h14 h15 (key.drop 16), ← hx, List.take_append_drop]
 clear hx hby
 have ck3 := World.ownsRow.cellAt HO0.out 3 (by decide)
 have fk3 := World.ownsRow.frozenAt HO0.out 3
 have ck7 := World.ownsRow.cellAt HO0.out 7 (by decide)
 have fk7 := World.ownsRow.frozenAt HO0.out 7
 have ck11 := World.ownsRow.cellAt HO0.out 11 (by decide)
 have fk11 := World.ownsRow.frozenAt HO0.out 11
 have ck15 := World.ownsRow.cellAt HO0.out 15 (by decide)
 have fk15 := World.ownsRow.frozenAt HO0.out 15
 have ck4 := World.ownsRow.cellAt HO0.out 4 (by decide)
 have fk4 := World.ownsRow.frozenAt HO0.out 4
 have ck8 := World.ownsRow.cellAt HO0.out 8 (by decide)
 have fk8 := World.ownsRow.frozenAt HO0.out 8
 have ck12 := World.ownsRow.cellAt HO0.out 12 (by decide)
 have fk12 := World.ownsRow.frozenAt HO0.out 12
 simp only [List.map_cons, List.map_nil, List.getElem?_cons_succ, List.getElem?_cons_zero] at ck3 ck7 ck11 ck15 ck4 ck8 ck12
 obtain ⟨y3, hy3⟩ : ∃ y, Int.tmod x3 16 = y := ⟨_, rfl⟩
 have ey3 : y3 = x3 % 16 := by rw [← hy3, Int.tmod_eq_emod_of_nonneg (by omega)]
 have E3 : Hid (y3 = x3 % 16) := ey3
 clear ey3
 obtain ⟨y7, hy7⟩ : ∃ y, Int.tmod x7 16 = y := ⟨_, rfl⟩
 have ey7 : y7 = x7 % 16 := by rw [← hy7, Int.tmod_eq_emod_of_nonneg (by omega)]
 have E7 : Hid (y7 = x7 % 16) := ey7
 clear ey7
 obtain ⟨y11, hy11⟩ : ∃ y, Int.tmod x11 16 = y := ⟨_, rfl⟩
 have ey11 : y11 = x11 % 16 := by rw [← hy11, Int.tmod_eq_emod_of_nonneg (by omega)]
 have E11 : Hid (y11 = x11 % 16) := ey11
 clear ey11
 obtain ⟨y15, hy15⟩ : ∃ y, Int.tmod x15 16 = y := ⟨_, rfl⟩
 have ey15 : y15 = x15 % 16 := by rw [← hy15, Int.tmod_eq_emod_of_nonneg (by omega)]
 have E15 : Hid (y15 = x15 % 16) := ey15
 clear ey15
 obtain ⟨q4, hq4⟩ : ∃ q, Int.tdiv x4 4 = q := ⟨_, rfl⟩
 have eq4 : q4 = x4 / 4 := by rw [← hq4, Int.tdiv_eq_ediv_of_nonneg (by omega)]
 have bq4 : 0 ≤ q4 ∧ q4 ≤ 63 := by omega
 obtain ⟨y4, hy4⟩ : ∃ y, q4 * 4 = y := ⟨_, rfl⟩
 have E4 : Hid (y4 = x4 / 4 * 4) := by unfold Hid; rw [← hy4, eq4]
 clear eq4
 obtain ⟨q8, hq8⟩ : ∃ q, Int.tdiv x8 4 = q := ⟨_, rfl⟩
 have eq8 : q8 = x8 / 4 := by rw [← hq8, Int.tdiv_eq_ediv_of_nonneg (by omega)]
 have bq8 : 0 ≤ q8 ∧ q8 ≤ 63 := by omega
 obtain ⟨y8, hy8⟩ : ∃ y, q8 * 4 = y := ⟨_, rfl⟩
 have E8 : Hid (y8 = x8 / 4 * 4) := by unfold Hid; rw [← hy8, eq8]
 clear eq8
 obtain ⟨q12, hq12⟩ : ∃ q, Int.tdiv x12 4 = q := ⟨_, rfl⟩
 have eq12 : q12 = x12 / 4 := by rw [← hq12, Int.tdiv_eq_ediv_of_nonneg (by omega)]
 have bq12 : 0 ≤ q12 ∧ q12 ≤ 63 := by omega
 obtain ⟨y12, hy12⟩ : ∃ y, q12 * 4 = y := ⟨_, rfl⟩
 have E12 : Hid (y12 = x12 / 4 * 4) := by unfold Hid; rw [← hy12, eq12]
 clear eq12
 have HRr : Hid (Ru (((((((V.setCell ⟨g, 3, none⟩ (.int .u32 y3)).setCell ⟨g, 7, none⟩ (.int .u32 y7)).setCell ⟨g, 11, none⟩ (.int .u32 y11)).setCell ⟨g, 15, none⟩ (.int .u32 y15)).setCell ⟨g, 4, none⟩ (.int .u32 y4)).setCell ⟨g, 8, none⟩ (.int .u32 y8)).setCell ⟨g, 12, none⟩ (.int .u32 y12)) (some ⟨g, 0, none⟩) 16 cg [x0, x1, x2, y3, y4, x5, x6, y7, y8, x9, x10, y11, y12, x13, x14, y15]) := by
  have := (((((((HO0.out.stored 3 (.int .u32 y3)).1.stored 7 (.int .u32 y7)).1.stored 11 (.int .u32 y11)).1.stored 15 (.int .u32 y15)).1.stored 4 (.int .u32 y4)).1.stored 8 (.int .u32 y8)).1.stored 12 (.int .u32 y12)).1
  simp only [List.map_cons, List.map_nil, List.set_cons_succ, List.set_cons_zero] at this
  refine Ru.owns ?_ (l := [x0, x1, x2, y3, y4, x5, x6, y7, y8, x9, x10, y11, y12, x13, x14, y15]) this
  intro y hy
  have e3 := E3.out
  have e7 := E7.out
  have e11 := E11.out
  have e15 := E15.out
  have e4 := E4.out
  have e8 := E8.out
  have e12 := E12.out
  simp only [List.mem_cons, List.not_mem_nil, or_false] at hy
  rcases hy with rfl | rfl | rfl | rfl | rfl | rfl | rfl | rfl | rfl | rfl | rfl | rfl | rfl | rfl | rfl | rfl <;> omega
 obtain ⟨R, hR⟩ : ∃ R, R = [x0, x1, x2, y3, y4, x5, x6, y7, y8, x9, x10, y11, y12, x13, x14, y15] := ⟨_, rfl⟩
 have HRn : Hid (leN R = cl5 key) := by
  unfold Hid
  rw [hR, HCl.out, E3.out, E7.out, E11.out, E15.out, E4.out, E8.out, E12.out]
 rw [← hR] at HRr
 clear hR HCl
 have AK2 : Hid (Ar (((((((V.setCell ⟨g, 3, none⟩ (.int .u32 y3)).setCell ⟨g, 7, none⟩ (.int .u32 y7)).setCell ⟨g, 11, none⟩ (.int .u32 y11)).setCell ⟨g, 15, none⟩ (.int .u32 y15)).setCell ⟨g, 4, none⟩ (.int .u32 y4)).setCell ⟨g, 8, none⟩ (.int .u32 y8)).setCell ⟨g, 12, none⟩ (.int .u32 y12)) w.heap.size 32 (List.map (Value.int .u8) key)) := (((((((AK.out.else _ _ hgk _).else _ _ hgk _).else _ _ hgk _).else _ _ hgk _).else _ _ hgk _).else _ _ hgk _).else _ _ hgk _)
 have AQ2 : Hid ((((((((V.setCell ⟨g, 3, none⟩ (.int .u32 y3)).setCell ⟨g, 7, none⟩ (.int .u32 y7)).setCell ⟨g, 11, none⟩ (.int .u32 y11)).setCell ⟨g, 15, none⟩ (.int .u32 y15)).setCell ⟨g, 4, none⟩ (.int .u32 y4)).setCell ⟨g, 8, none⟩ (.int .u32 y8)).setCell ⟨g, 12, none⟩ (.int .u32 y12)).there b4 0 16) := (there_set (there_set (there_set (there_set (there_set (there_set (there_set AQ.out _ _ _) _ _ _) _ _ _) _ _ _) _ _ _) _ _ _) _ _ _)
 have HB2 : Hid (Below w.heap.size w (((((((V.setCell ⟨g, 3, none⟩ (.int .u32 y3)).setCell ⟨g, 7, none⟩ (.int .u32 y7)).setCell ⟨g, 11, none⟩ (.int .u32 y11)).setCell ⟨g, 15, none⟩ (.int .u32 y15)).setCell ⟨g, 4, none⟩ (.int .u32 y4)).setCell ⟨g, 8, none⟩ (.int .u32 y8)).setCell ⟨g, 12, none⟩ (.int .u32 y12))) := (((((((HB.out.setCell (p := ⟨g, 3, none⟩) hgw _).setCell (p := ⟨g, 7, none⟩) hgw _).setCell (p := ⟨g, 11, none⟩) hgw _).setCell (p := ⟨g, 15, none⟩) hgw _).setCell (p := ⟨g, 4, none⟩) hgw _).setCell (p := ⟨g, 8, none⟩) hgw _).setCell (p := ⟨g, 12, none⟩) hgw _)
 clear E3 E7 E11 E15 E4 E8 E12 HO0 HB AK AQ
 have AK := AK2
 have AQ := AQ2
 have HB := HB2
 clear AK2 AQ2 HB2
 go_wp2
 refine wp_loop_rounds 5 ?_
 rw [rounds_succ]; go_wp2
 rw [rounds_succ]; go_wp2
 rw [rounds_succ]; go_wp2
 rw [rounds_succ]; go_wp2
 rw [rounds_succ]; go_wp2
 refine wp_loop_rounds 4 ?_
 rw [rounds_succ]; go_wp2
 rw [rounds_succ]; go_wp2
 rw [rounds_succ]; go_wp2
 rw [rounds_succ]; go_wp2
 generalize (((((((V.setCell ⟨g, 3, none⟩ (.int .u32 y3)).setCell ⟨g, 7, none⟩ (.int .u32 y7)).setCell ⟨g, 11, none⟩ (.int .u32 y11)).setCell ⟨g, 15, none⟩ (.int .u32 y15)).setCell ⟨g, 4, none⟩ (.int .u32 y4)).setCell ⟨g, 8, none⟩ (.int .u32 y8)).setCell ⟨g, 12, none⟩ (.int .u32 y12)) = W3 at *
 clear ck3 fk3 ck7 fk7 ck11 fk11 ck15 fk15 ck4 fk4 ck8 fk8 ck12 fk12 hy3 hy7 hy11 hy15 hy4 hy8 hy12 hq4 bq4 hq8 bq8 hq12 bq12 h0 h1 h2 h3 h4 h5 h6 h7 h8 h9 h10 h11 h12 h13 h14 h15
 obtain ⟨RR, HRR⟩ : ∃ R, Hid (R = po (cl5 key) text.length 0 text) := ⟨_, rfl⟩
 go_loopw [1, 8] (fun tv av wr => ∃ (ad' : Option Addr) (n c : Nat) (t' : List Int) (N J : Nat) (aa : Option Addr) (na ca : Nat) (z : List Int), tv = .slice ad' n c ∧ av = .slice aa na ca ∧ n ≤ 2097152 ∧ 16 * J + n ≤ len + 15 ∧ (0 < n → 16 * J + n ≤ len) ∧ na ≤ 40 * (J + 1) ∧ Hid (Rd w ad' n c t') ∧ Hid (n ≤ N) ∧ Hid (Ru wr aa na ca z) ∧ Hid (po (cl5 key) N (leN z) t' = RR) ∧ Hid (Ar wr w.heap.size 32 (List.map (Value.int .u8) key)) ∧ Hid (wr.there b4 0 16) ∧ Hid (Ru wr (some ⟨g, 0, none⟩) 16 cg R) ∧ Hid (Below w.heap.size w wr)) (fun tv _ _ => slen tv)
 case atStart => exact ⟨ad, len, cap, text, len, 0, none, 0, 0, [], rfl, rfl, hm, by omega, fun _ => by omega, by omega, HR, Nat.le_refl _, Ru.nil _ _ _, by rw [HRR.out, HR.out.hlen]; rfl, AK, AQ, HRr, HB⟩
 case round =>
  clear AK AQ HRr HB
  obtain ⟨ad', n, c, t', N, J, aa, na, ca, z, rfl, rfl, hn, hJ, hJ2, hna, HRt, HN, HZ, HPo, AK, AQ, HRr, HB⟩ := hrel
  by_cases hlt : 0 < n
  ·have gn : (0 : Int) < n := by omega
   obtain ⟨b, off, rfl, -⟩ := HRt.out.cell hlt
   have hnc : n ≤ c := HRt.out.hle
   have hJ3 := hJ2 hlt
   go_upto_region 12 with fail
   go_cut [9] from 39 to 58 (fun nv wx => ∃ k : Nat, nv = .int .i64 k ∧ Hid (k = min n 16) ∧ wx = wr)
   case first =>
    by_cases h16 : n ≤ 16
    ·have h16' : (n : Int) ≤ 16 := by omega
     have h17' : ¬ (16 : Int) < n := by omega
     go_wp2_with fail
     all_goals go_meet
     all_goals exact ⟨n, by first | rfl | (simp <;> omega), by unfold Hid; omega, rfl⟩
    ·have h16' : (16 : Int) < n := by omega
     have g6 : (16 : Int) ≤ n := by omega
     go_wp2_with fail
     all_goals go_meet
     all_goals exact ⟨16, rfl, by unfold Hid; omega, rfl⟩
   case rest =>
    obtain ⟨k, rfl, HKm, hwc⟩ := hcut
    rw [hwc]
    clear hwc wc
    have hk1 : 1 ≤ k := by have := HKm.out; omega
    have hk16 : k ≤ 16 := by have := HKm.out; omega
    have hkn : k ≤ n := by have := HKm.out; omega
    have g5 : (k : Int).toNat = k := by omega
    have g6 : (k : Int) ≤ n := by omega
    have g7 : (k : Int) ≤ c := by omega
    go_wp2_with fail
    refine (digits_c (some ⟨b, off, none⟩) k c (t'.take k) _ ((HRt.out.cut k hkn).below HB.out) (by omega)).mono ?_
    rintro e V1 ⟨v1, rfl, HO, hb⟩
    have hbs : wr.heap.size ≤ V1.heap.size := hb.size
    have HB1 : Hid (Below wr.heap.size wr V1) := hb
    clear hb
    go_wp2_with (at_builtin; refine wpList_append_own _ rfl (.tmp 49) (.tmp 50) 118 rfl wr.heap.size 63 i0 (.int .u32 0) 1 4 Tryz.underlying118 hi hz0 hz1 hz2 rfl (by decide) _ k (List.map (Value.int .u32) (t'.take k)) rfl (HO.out.alloc _) ⟨V1.heap.size, 0, none⟩ 1 1 [.int .u32 1] rfl rfl (fun j u hu => one_news32 V1 _ _ j u hu) (by intro u hu; simp at hu; rw [hu]; rfl) (by unfold maxLen; omega) (by omega) (by simp; omega) ?_)
    intro v2 V2 hown hg _
    have hb : Below wr.heap.size wr V2 := (HB1.out.alloc hbs _).grown hg (by simp; omega) (fun j hj => (HO.out.lt j hj).1)
    replace AK := hidp (AK.out.later hb)
    replace HRr := hidp (HRr.out.below hb)
    replace HZ := hidp (HZ.out.below hb)
    replace AQ : Hid (V2.there b4 0 16) := there_later hb AQ.out
    replace HB := hidp (HB.out.trans (hb.mono HB.out.size))
    rw [← List.map_take] at hown
    have HO2 : Hid (V2.ownsRow wr.heap.size 63 1 v2 (k + 1) (List.map (Value.int .u32) (t'.take k ++ [1]))) := by unfold Hid; rw [List.map_append]; exact hown
    have HB2y : Hid (Byt (t'.take k ++ [1])) := (HRt.out.byt.take k).app (Byt.cons (by decide) (by decide) Byt.nil)
    have HB2n : Hid (leN (t'.take k ++ [1]) = leN (t'.take k) + 256 ^ k) := by
     have hlt : (t'.take k).length = k := by rw [List.length_take, HRt.out.hlen]; omega
     unfold Hid
     rw [leN_snoc, hlt, Int.mul_one]
    clear hb hown hg HO HB1 hbs
    obtain ⟨a2, c2, rfl⟩ := owns_shape HO2.out
    have HR2 : Hid (Ru V2 a2 (k + 1) c2 (t'.take k ++ [1])) := Ru.owns HB2y.out HO2.out
    clear HO2
    have hJb : J ≤ 131073 := by omega
    go_wp2_with fail
    refine (plus_c aa na ca z a2 (k + 1) c2 (t'.take k ++ [1]) _ HZ.out HR2.out (by omega) (by omega)).mono ?_
    rintro e V3 ⟨v3, n3, z3, rfl, hn3, HZB3, HN3, HO3, hb⟩
    replace AK := hidp (AK.out.later hb)
    replace HRr := hidp (HRr.out.below hb)
    replace AQ : Hid (V3.there b4 0 16) := there_later hb AQ.out
    replace HB := hidp (HB.out.trans (hb.mono HB.out.size))
    obtain ⟨a3, c3, rfl⟩ := owns_shape HO3.out
    have HR3 : Hid (Ru V3 a3 n3 c3 z3) := Ru.owns HZB3.out HO3.out
    clear HO3 hb HR2 HZ
    go_wp2_with fail
    refine (times_c a3 n3 c3 z3 (some ⟨g, 0, none⟩) 16 cg R _ HR3.out HRr.out (by omega) (by omega)).mono ?_
    rintro e V4 ⟨v4, z4, rfl, HZB4, HN4, HO4, hb⟩
    replace AK := hidp (AK.out.later hb)
    replace HRr := hidp (HRr.out.below hb)
    replace AQ : Hid (V4.there b4 0 16) := there_later hb AQ.out
    replace HB := hidp (HB.out.trans (hb.mono HB.out.size))
    obtain ⟨a4, c4, rfl⟩ := owns_shape HO4.out
    have HR4 : Hid (Ru V4 a4 (n3 + 16 + 1) c4 z4) := Ru.owns HZB4.out HO4.out
    clear HO4 hb HR3
    go_wp2_with fail
    refine (reduced_c a4 (n3 + 16 + 1) c4 z4 _ HR4.out (by omega)).mono ?_
    rintro e V5 ⟨a5, n5, c5, z5, rfl, hn5, HZ, HN5, hb⟩
    replace AK := hidp (AK.out.later hb)
    replace HRr := hidp (HRr.out.below hb)
    replace AQ : Hid (V5.there b4 0 16) := there_later hb AQ.out
    replace HB := hidp (HB.out.trans (hb.mono HB.out.size))
    clear hb HR4
    have HZ5 : Hid (leN z5 = (leN z + (leN (t'.take k) + 256 ^ k)) * cl5 key % 1361129467683753853853498429727072845819) := by
     unfold Hid
     rw [HN5.out, HN4.out, HN3.out, HB2n.out, HRn.out]
    obtain ⟨a7, ha7⟩ : ∃ a, (if c = k then some (⟨b, off, none⟩ : Addr) else some ⟨b, off + k, none⟩) = a := ⟨_, rfl⟩
    have HRx : Hid (Rd w a7 (n - k) (c - k) (t'.drop k)) := by unfold Hid; rw [← ha7]; exact rest_rd HRt.out k hkn
    have HPn : Hid (∃ N', n - k ≤ N' ∧ po (cl5 key) N' (leN z5) (t'.drop k) = RR) := by
     have hN := HN.out
     obtain ⟨N', rfl⟩ : ∃ N', N = N' + 1 := ⟨N - 1, by omega⟩
     refine ⟨N', by omega, ?_⟩
     have hp := HPo.out
     have htl := HRt.out.hlen
     rw [po_step _ _ _ _ (by omega), htl] at hp
     have hk := HKm.out
     rw [HZ5.out]
     by_cases h : n ≤ 16
     ·rw [Nat.min_eq_left h] at hk hp
      rw [List.take_of_length_le (by omega), List.drop_eq_nil_of_le (by omega), po_nil] at hp
      rw [hk, List.take_of_length_le (by omega), List.drop_eq_nil_of_le (by omega), po_nil]
      exact hp
     ·rw [Nat.min_eq_right (by omega)] at hk hp
      rw [hk]
      exact hp
    obtain ⟨N', hN', hp'⟩ := HPn.out
    have HN' : Hid (n - k ≤ N') := hN'
    have HP' : Hid (po (cl5 key) N' (leN z5) (t'.drop k) = RR) := hp'
    have hJn : 16 * (J + 1) + (n - k) ≤ len + 15 := by have := HKm.out; omega
    have hJn2 : 0 < n - k → 16 * (J + 1) + (n - k) ≤ len := by have := HKm.out; omega
    have hna5 : n5 ≤ 40 * (J + 1 + 1) := by omega
    clear HPn hN' hp' HPo HN HZ5 HN3 HN4 HN5 HZB3 HZB4 HB2n HB2y hn3 hn5
    go_wp2
    go_roundw
    case rel => exact ⟨a7, n - k, c - k, t'.drop k, N', J + 1, a5, n5, c5, z5, by go_num, rfl, by omega, hJn, hJn2, hna5, HRx, HN', HZ, HP', AK, AQ, HRr, HB⟩
    case measure => simp [slen]; omega
  ·have e : n = 0 := by omega
   subst e
   have HV : Hid (leN z = RR) := by
    have hp := HPo.out
    have ht : t' = [] := List.eq_nil_of_length_eq_zero HRt.out.hlen
    rw [ht, po_nil] at hp
    exact hp
   have hJb : J ≤ 131073 := by omega
   clear HPo HRt HN
   go_wp2_with fail
   refine (digits_c (some ⟨w.heap.size, 16, none⟩) 16 16 (key.drop 16) _ (AK.out.rdFrom HK.out.byt 16 (by decide)) (by decide)).mono ?_
   rintro e V1 ⟨v1, rfl, HO1, hb⟩
   replace AK := hidp (AK.out.later hb)
   replace HRr := hidp (HRr.out.below hb)
   replace HZ := hidp (HZ.out.below hb)
   replace AQ : Hid (V1.there b4 0 16) := there_later hb AQ.out
   replace HB := hidp (HB.out.trans (hb.mono HB.out.size))
   obtain ⟨a1, c1, rfl⟩ := owns_shape HO1.out
   have HR1 : Hid (Ru V1 a1 16 c1 (key.drop 16)) := Ru.owns (HK.out.byt.drop 16) HO1.out
   clear hb HO1
   go_wp2_with fail
   refine (plus_c aa na ca z a1 16 c1 (key.drop 16) _ HZ.out HR1.out (by omega) (by omega)).mono ?_
   rintro e V3 ⟨v3, n3, z3, rfl, hn3, HZB3, HN3, HO3, hb⟩
   replace AK := hidp (AK.out.later hb)
   replace HRr := hidp (HRr.out.below hb)
   replace AQ : Hid (V3.there b4 0 16) := there_later hb AQ.out
   replace HB := hidp (HB.out.trans (hb.mono HB.out.size))
   obtain ⟨a3, c3, rfl⟩ := owns_shape HO3.out
   have HR3 : Hid (Ru V3 a3 n3 c3 z3) := Ru.owns HZB3.out HO3.out
   have hn3b : n3 ≤ 6000000 := by omega
   clear HO3 hb HR1 HZ hn3
   obtain ⟨F, hF⟩ : ∃ F, F = lay 16 (leN z3) := ⟨_, rfl⟩
   have HFT : Hid (F = tg key text) := by unfold Hid tg; rw [hF, HN3.out, HV.out, HRR.out]
   have HFn : Hid (Bn 16 F) := by unfold Hid; rw [hF]; exact ⟨lay_length _ _, lay_byt _ _⟩
   have HFA : Hid (∀ i, i < 16 → F[i]? = some (z3[i]?.getD 0)) := fun i hi => by rw [hF]; exact lay_get 16 z3 HZB3.out i hi
   clear hF HV HRR HN3 HZB3
   go_wp2
   have hx1 : w.heap.size ≤ V3.heap.size := HB.out.size
   have hbne : ∀ b off, a3 = some ⟨b, off, none⟩ → 0 < n3 → b ≠ V3.heap.size := fun b off ha h0 => by
    obtain ⟨b', off', ha', hc'⟩ := HR3.out.cell h0
    rw [ha] at ha'
    cases ha'
    exact Nat.ne_of_lt (World.block_lt_of_cell? _ _ (hc' 0 h0))
   have hb := bel1 V3 (.cells zb16 99)
   replace AK := hidp (AK.out.later hb)
   replace HRr := hidp (HRr.out.below hb)
   replace AQ : Hid ((V3.alloc (.cells zb16 99)).there b4 0 16) := there_later hb AQ.out
   replace HB := hidp (HB.out.trans (hb.mono HB.out.size))
   replace HR3 := hidp (HR3.out.below hb)
   have AX : Hid (Ar (V3.alloc (.cells zb16 99)) V3.heap.size 16 (List.map (Value.int .u8) (half F 0))) := by
    have e : half F 0 = List.replicate 16 0 := by rw [half_zero, HFn.out.len]
    unfold Hid
    rw [e]
    exact ar_box V3 (List.map (Value.int .u8) (List.replicate 16 0)) 16 rfl 99
   clear hb
   generalize V3.alloc (.cells zb16 99) = Y at *
   generalize V3.heap.size = bx at *
   go_loopw [11] (fun i wr => ∃ k : Nat, k ≤ 16 ∧ k ≤ n3 ∧ i = .int .i64 k ∧ Hid (Ar wr bx 16 (List.map (Value.int .u8) (half F k))) ∧ Hid (Ru wr a3 n3 c3 z3) ∧ Hid (wr.there b4 0 16) ∧ Hid (Below w.heap.size w wr)) (fun i _ => 16 - (intOf i).toNat)
   case atStart => exact ⟨0, by decide, Nat.zero_le _, rfl, AX, HR3, AQ, HB⟩
   case round =>
    clear AX HR3 AQ HB
    obtain ⟨k, hk, hk3, rfl, AX, HR3, AQ, HB⟩ := hrel
    have g5 : (k : Int).toNat = k := by omega
    by_cases hgo : k < 16 ∧ k < n3
    ·obtain ⟨h16, h3⟩ := hgo
     have g1 : (k : Int) < 16 := by omega
     have g2 : (k : Int) < n3 := by omega
     obtain ⟨b, off, rfl, hc⟩ := HR3.out.cell (by omega)
     have ck := hc k h3
     have hbk := HR3.out.byt.at k
     have hfa := HFA.out k h16
     obtain ⟨cx, fx⟩ := AX.out.cell k h16
     have cx' : ∃ v, wr.cell? ⟨bx, k, none⟩ = some v := ⟨_, cx⟩
     obtain ⟨vx, cx'⟩ := cx'
     have hne : b ≠ bx := hbne b off rfl (by omega)
     clear hc cx
     have HFk : Hid (F[k]? = some (z3[k]?.getD 0)) := hfa
     clear hfa
     generalize z3[k]?.getD 0 = zk at *
     obtain ⟨hb0, hb1⟩ := hbk
     have hw : IntKind.u8.wrap zk = zk := by rw [IntKind.wrap_u8]; omega
     go_wp2
     go_roundw
     case rel => exact ⟨k + 1, by omega, by omega, by go_num, by
      have := AX.out.set k h16 (.int .u8 zk)
      rw [← List.map_set, half_set F k (by rw [HFn.out.len]; exact h16) zk HFk.out] at this
      exact this, HR3.out.else bx k hne _, there_set AQ.out _ _ _, HB.out.setCell (p := ⟨bx, k, none⟩) hx1 _⟩
     case measure => simp [intOf]; omega
    ·have HE : Hid (half F k = F) := half_end F k (by rw [HFn.out.len]; omega) (fun i h1 h2 => by
      rw [HFn.out.len] at h2
      rw [HFA.out i h2, List.getElem?_eq_none (by rw [HR3.out.hlen]; omega)]
      rfl)
     rw [HE.out] at AX
     obtain ⟨hlen, hone, hi2⟩ := bn16_cells HFn.out
     obtain ⟨cs, hcs⟩ : ∃ cs, cs = (List.map (Value.int .u8) F) := ⟨_, rfl⟩
     rw [← hcs] at hlen hone hi2 AX
     have HC : Hid (cs = (List.map (Value.int .u8) F)) := hcs
     clear hcs
     have hth := AQ.out
     have HR2 : Hid ((wr.setCells b4 0 cs).rangeAt b4 0 cs) := World.rangeAt_setCells_same _ _ _ _ (by rw [hlen]; exact hth)
     have hld := run_loadVar_mid (P := Tryz.prog) _ _ 0 99 _ _ HR2.out Tryz.underlying99 rfl hi2
     have HEnd : Hid (Below w.heap.size w (wr.setCells b4 0 cs)) := below_setCells _ (by omega) _ _ _ HB.out
     have HLD : Hid _ := hld
     clear hld
     by_cases h16 : k < 16
     ·have g1 : (k : Int) < 16 := by omega
      have g2 : ¬ (k : Int) < n3 := by omega
      go_wp2_with (first
       | (refine wpList_load_mid rfl 99 (.tmp 10) rfl bx 0 rfl cs _ AX.out.rng Tryz.underlying99 rfl hi2 ?_)
       | (refine wpList_store_mid rfl 99 (.tmp 4) (.tmp 80) rfl b4 0 cs.toArray rfl rfl (by simpa [hlen] using hth) (by simpa using hi2) (all_oneCell_toArray hone) ?_))
      exact bodyPost_ret (v := .agg cs.toArray) (by simp [results, Tryz.results72]; exact HLD.out) rfl ⟨F, by rw [HC.out], HFT, HFn.out, HEnd.out⟩
     ·have e : k = 16 := by omega
      subst e
      go_wp2_with (first
       | (refine wpList_load_mid rfl 99 (.tmp 10) rfl bx 0 rfl cs _ AX.out.rng Tryz.underlying99 rfl hi2 ?_)
       | (refine wpList_store_mid rfl 99 (.tmp 4) (.tmp 80) rfl b4 0 cs.toArray rfl rfl (by simpa [hlen] using hth) (by simpa using hi2) (all_oneCell_toArray hone) ?_))
      exact bodyPost_ret (v := .agg cs.toArray) (by simp [results, Tryz.results72]; exact HLD.out) rfl ⟨F, by rw [HC.out], HFT, HFn.out, HEnd.out⟩
end Go.Proofs.YtmibjgkakolhiaaGreatDoor
/-
 What the reference's turn and Quarter do: words turned round and mixed. No statement of the seat is proved here.
-/
namespace Go.Proofs.YtmibjgkakolhiaaGreatDoor
open Go.RowKit

set_option maxRecDepth 8000 in
set_option maxHeartbeats 400000 in
theorem rturn16_c (x : Int) (hx : W32 x) (w : World) :
  Calls Tryz.prog 53 #[.int .u32 x, .int .u64 16] w fun e w' => ∃ z, e = .returned (.int .u32 z) ∧ Hid (z = rot 16 x) ∧ W32 z ∧ Below w.heap.size w w' := by
 have HZ : Hid (W32 (rot 16 x)) := rot_w 16 hx
 rw [rot16_eq] at HZ
 obtain ⟨x0, x1⟩ := hx
 go_enter Tryz.func53, Tryz.ntmps53
 go_wp2
 go_ret
 exact ⟨_, rfl, rfl, HZ.out, Below.refl _ _⟩

set_option maxRecDepth 8000 in
set_option maxHeartbeats 400000 in
theorem rturn12_c (x : Int) (hx : W32 x) (w : World) :
  Calls Tryz.prog 53 #[.int .u32 x, .int .u64 12] w fun e w' => ∃ z, e = .returned (.int .u32 z) ∧ Hid (z = rot 12 x) ∧ W32 z ∧ Below w.heap.size w w' := by
 have HZ : Hid (W32 (rot 12 x)) := rot_w 12 hx
 rw [rot12_eq] at HZ
 obtain ⟨x0, x1⟩ := hx
 go_enter Tryz.func53, Tryz.ntmps53
 go_wp2
 go_ret
 exact ⟨_, rfl, rfl, HZ.out, Below.refl _ _⟩

set_option maxRecDepth 8000 in
set_option maxHeartbeats 400000 in
theorem rturn8_c (x : Int) (hx : W32 x) (w : World) :
  Calls Tryz.prog 53 #[.int .u32 x, .int .u64 8] w fun e w' => ∃ z, e = .returned (.int .u32 z) ∧ Hid (z = rot 8 x) ∧ W32 z ∧ Below w.heap.size w w' := by
 have HZ : Hid (W32 (rot 8 x)) := rot_w 8 hx
 rw [rot8_eq] at HZ
 obtain ⟨x0, x1⟩ := hx
 go_enter Tryz.func53, Tryz.ntmps53
 go_wp2
 go_ret
 exact ⟨_, rfl, rfl, HZ.out, Below.refl _ _⟩

set_option maxRecDepth 8000 in
set_option maxHeartbeats 400000 in
theorem rturn7_c (x : Int) (hx : W32 x) (w : World) :
  Calls Tryz.prog 53 #[.int .u32 x, .int .u64 7] w fun e w' => ∃ z, e = .returned (.int .u32 z) ∧ Hid (z = rot 7 x) ∧ W32 z ∧ Below w.heap.size w w' := by
 have HZ : Hid (W32 (rot 7 x)) := rot_w 7 hx
 rw [rot7_eq] at HZ
 obtain ⟨x0, x1⟩ := hx
 go_enter Tryz.func53, Tryz.ntmps53
 go_wp2
 go_ret
 exact ⟨_, rfl, rfl, HZ.out, Below.refl _ _⟩

set_option maxRecDepth 8000 in
set_option maxHeartbeats 1000000 in
theorem rquarter_c (a b c d : Int) (ha : W32 a) (hb : W32 b) (hc : W32 c) (hd : W32 d) (w : World) :
  Calls Tryz.prog 80 #[.int .u32 a, .int .u32 b, .int .u32 c, .int .u32 d] w fun e w' => ∃ p q r s, e = .returned (.tuple #[.int .u32 p, .int .u32 q, .int .u32 r, .int .u32 s]) ∧ Hid ((p, q, r, s) = q4 a b c d) ∧ W32 p ∧ W32 q ∧ W32 r ∧ W32 s ∧ Below w.heap.size w w' := by
 obtain ⟨a0, a9⟩ := ha
 obtain ⟨b0, b9⟩ := hb
 obtain ⟨c0, c9⟩ := hc
 obtain ⟨d0, d9⟩ := hd
 have HB : Hid (Below w.heap.size w w) := Below.refl _ _
 go_enter Tryz.func80, Tryz.ntmps80
 go_wp2_with fail
 have k1 : 0 ≤ (a + b) % 4294967296 := by omega
 have l1 : (a + b) % 4294967296 < 4294967296 := by omega
 generalize h1 : (a + b) % 4294967296 = a1 at *
 have Ha1 : Hid (a1 = ad a b) := h1.symm
 clear h1
 refine (rturn16_c _ (xr_w (a := d) (b := a1) ⟨by omega, by omega⟩ ⟨k1, l1⟩) _).mono ?_
 rintro e w1 ⟨d1, rfl, Hd1, ⟨m1, n1⟩, hb⟩
 replace HB := hidp (HB.out.trans (hb.mono HB.out.size))
 clear hb
 go_wp2_with fail
 have k2 : 0 ≤ (c + d1) % 4294967296 := by omega
 have l2 : (c + d1) % 4294967296 < 4294967296 := by omega
 generalize h2 : (c + d1) % 4294967296 = c1 at *
 have Hc1 : Hid (c1 = ad c d1) := h2.symm
 clear h2
 refine (rturn12_c _ (xr_w (a := b) (b := c1) ⟨by omega, by omega⟩ ⟨k2, l2⟩) _).mono ?_
 rintro e w2 ⟨b1, rfl, Hb1, ⟨m2, n2⟩, hb⟩
 replace HB := hidp (HB.out.trans (hb.mono HB.out.size))
 clear hb
 go_wp2_with fail
 have k3 : 0 ≤ (a1 + b1) % 4294967296 := by omega
 have l3 : (a1 + b1) % 4294967296 < 4294967296 := by omega
 generalize h3 : (a1 + b1) % 4294967296 = a2 at *
 have Ha2 : Hid (a2 = ad a1 b1) := h3.symm
 clear h3
 refine (rturn8_c _ (xr_w (a := d1) (b := a2) ⟨by omega, by omega⟩ ⟨k3, l3⟩) _).mono ?_
 rintro e w3 ⟨d2, rfl, Hd2, ⟨m3, n3⟩, hb⟩
 replace HB := hidp (HB.out.trans (hb.mono HB.out.size))
 clear hb
 go_wp2_with fail
 have k4 : 0 ≤ (c1 + d2) % 4294967296 := by omega
 have l4 : (c1 + d2) % 4294967296 < 4294967296 := by omega
 generalize h4 : (c1 + d2) % 4294967296 = c2 at *
 have Hc2 : Hid (c2 = ad c1 d2) := h4.symm
 clear h4
 refine (rturn7_c _ (xr_w (a := b1) (b := c2) ⟨by omega, by omega⟩ ⟨k4, l4⟩) _).mono ?_
 rintro e w4 ⟨b2, rfl, Hb2, ⟨m4, n4⟩, hb⟩
 replace HB := hidp (HB.out.trans (hb.mono HB.out.size))
 clear hb
 go_wp2
 refine bodyPost_ret (v := .tuple #[.int .u32 a2, .int .u32 b2, .int .u32 c2, .int .u32 d2]) (by simp [results, Tryz.results80, go_sem]) rfl ?_
 exact ⟨_, _, _, _, rfl, q4_of Ha1.out Hd1.out Hc1.out Hb1.out Ha2.out Hd2.out Hc2.out Hb2.out, ⟨k3, l3⟩, ⟨m4, n4⟩, ⟨k4, l4⟩, ⟨m3, n3⟩, HB.out⟩
end Go.Proofs.YtmibjgkakolhiaaGreatDoor
