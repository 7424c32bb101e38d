/-
  Several texts of one's own, laid together. No statement of the seat is proved here.
-/
import Derived.Test.YtmibjgkakolhiaaGreatDoorPk27
import Derived.Test.YtmibjgkakolhiaaGreatDoorPk46
import Derived.Test.YtmibjgkakolhiaaGreatDoorPk1
import Derived.Test.YtmibjgkakolhiaaGreatDoorPk35
import Derived.Test.YtmibjgkakolhiaaGreatDoorPk14
import Derived.Test.YtmibjgkakolhiaaGreatDoorPk3
import Derived.Deep.Matrix
import Derived.Deep.Grids
import Derived.Deep.Slices
/-
 Seal and Open of the reference's Cipher that is embedded, whatever state it is in. No statement of the seat is proved here.
-/
namespace Go.Proofs.YtmibjgkakolhiaaGreatDoor
open Go.RowKit



set_option maxRecDepth 8000 in
theorem rseal9o_c (b o : Nat) (k : List Int) (h : Bool) (n : Int) (aa : Option Addr) (la ca : Nat) (ad : List Int) (at' : Option Addr) (lt ct : Nat) (text : List Int) (w : World) (hs : Cy w b o k h n) (hra : Rd w aa la ca ad) (hrt : Rd w at' lt ct text) (hg : Gr w) (hb0 : 1 < b) (hm : la + lt + 46 ≤ 2097152) :
  Calls Tryz.prog 30 #[.pointer (some ⟨b, o, none⟩), .slice aa la ca, .slice at' lt ct] w fun e w' => ∃ a m c X E n', e = .returned (.tuple #[.slice a m c, .int .i64 E]) ∧ m ≤ lt + 16 ∧ Hid (X = sx9 k h n ad text) ∧ Hid (E = se9 h n) ∧ Hid (n' = sn9 h n) ∧ Hid (Rd w' a m c X) ∧ Hid (Cy w' b o k h n') ∧ ExtR b o 34 w w' ∧ Kp w w' ∧ (∀ q, q < w.heap.size → Nq q at' lt → Nq q a m) := by
 cases h with
 | false =>
  refine (rseal9o_none b o k n aa la ca ad at' lt ct text w hs).mono ?_
  rintro e w' ⟨rfl, rfl⟩
  exact ⟨_, lt, ct, text, 0, n, rfl, by omega, rfl, rfl, rfl, hrt, hs, ExtR.refl _ _ _ _, Kp.refl _, fun _ _ h => h⟩
 | true =>
  by_cases hn : n = 18446744073709551615
  ·refine (rseal9o_last b o k n aa la ca ad at' lt ct text w hs hn).mono ?_
   rintro e w' ⟨rfl, rfl⟩
   exact ⟨none, 0, 0, [], 9, n, rfl, by omega, by unfold Hid sx9; rw [if_pos rfl, if_pos hn], by unfold Hid se9; rw [if_pos rfl, if_pos hn], by unfold Hid sn9; rw [if_pos rfl, if_pos hn], Rd.nil _ _ _ (fun _ => rfl), hs, ExtR.refl _ _ _ _, Kp.refl _, fun _ _ _ => nq_nil⟩
  ·refine (rseal9o_yes b o k n aa la ca ad at' lt ct text w hs hn hra hrt hg hb0 hm).mono ?_
   rintro e w' ⟨a', m, c', X, n', rfl, hm', hX, hn', ho, hs', hb, hkp, hfr⟩
   exact ⟨_, m, c', X, 0, n', rfl, by have := hm'.out; omega, by unfold Hid sx9; rw [if_pos rfl, if_neg hn]; exact hX.out, by unfold Hid se9; rw [if_pos rfl, if_neg hn], by unfold Hid sn9; rw [if_pos rfl, if_neg hn]; exact hn'.out, ho, hs', hb, hkp, fun _ hq _ => hfr.nq hq⟩
set_option maxRecDepth 8000 in
theorem ropen9o_c (b o : Nat) (k : List Int) (h : Bool) (n : Int) (aa : Option Addr) (la ca : Nat) (ad : List Int) (ab : Option Addr) (lb cb : Nat) (box : List Int) (w : World) (hs : Cy w b o k h n) (hra : Rd w aa la ca ad) (hrb : Rd w ab lb cb box) (hg : Gr w) (hm : la + lb + 46 ≤ 2097152) :
  Calls Tryz.prog 32 #[.pointer (some ⟨b, o, none⟩), .slice aa la ca, .slice ab lb cb] w fun e w' => ∃ a m c X E n', e = .returned (.tuple #[.slice a m c, .int .i64 E]) ∧ Hid (X = ox9 k h n ad box) ∧ Hid (E = oe9 k h n ad box) ∧ Hid (n' = on9 k h n ad box) ∧ Hid (Rd w' a m c X) ∧ Hid (Cy w' b o k h n') ∧ ExtR b o 34 w w' ∧ Kp w w' ∧ (∀ q, q < w.heap.size → Nq q ab lb → Nq q a m) := by
 cases h with
 | false =>
  refine (ropen9o_none b o k n aa la ca ad ab lb cb box w hs).mono ?_
  rintro e w' ⟨rfl, rfl⟩
  exact ⟨_, lb, cb, box, 0, n, rfl, rfl, rfl, rfl, hrb, hs, ExtR.refl _ _ _ _, Kp.refl _, fun _ _ h => h⟩
 | true =>
  by_cases hn : n = 18446744073709551615
  ·refine (ropen9o_last b o k n aa la ca ad ab lb cb box w hs hn).mono ?_
   rintro e w' ⟨rfl, rfl⟩
   exact ⟨none, 0, 0, [], 9, n, rfl, by unfold Hid ox9; rw [if_pos rfl, if_pos hn], by unfold Hid oe9; rw [if_pos rfl, if_pos hn], by unfold Hid on9; rw [if_pos rfl, if_pos hn], Rd.nil _ _ _ (fun _ => rfl), hs, ExtR.refl _ _ _ _, Kp.refl _, fun _ _ _ => nq_nil⟩
  ·refine (ropen9o_yes b o k n aa la ca ad ab lb cb box w hs hn hra hrb hg hm).mono ?_
   rintro e w' ⟨a', m, c', X, E, n', rfl, hE, hX, hn', ho, hs', hb, hkp, hfr⟩
   exact ⟨_, m, c', X, E, n', rfl, by unfold Hid ox9; rw [if_pos rfl, if_neg hn]; exact hX.out, by unfold Hid oe9; rw [if_pos rfl, if_neg hn]; exact hE.out, by unfold Hid on9; rw [if_pos rfl, if_neg hn, ← hE.out]; exact hn'.out, ho, hs', hb, hkp, fun _ hq _ => hfr.nq hq⟩
end Go.Proofs.YtmibjgkakolhiaaGreatDoor
/-
 What the reference's Symm's Seal and Open do. No statement of the seat is proved here.
-/
namespace Go.Proofs.YtmibjgkakolhiaaGreatDoor
open Go.RowKit

set_option maxRecDepth 8000 in
theorem Gq.gr {u : World} (h : Gq u) : Gr u := h.rows
set_option maxRecDepth 8000 in
theorem Gq.extb {u u' : World} {b : Nat} (h : Gq u) (hb : ExtB b u u') (_h0 : 0 < b) (_h1 : 1 < b) (_h2 : 2 < b) : Gq u' :=
 ⟨fun j v hv => hb.cell (by omega) (h.iv j v hv), fun j v hv => hb.cell (by omega) (h.rows j v hv), fun j v hv => hb.cell (by omega) (h.sg j v hv)⟩
set_option maxRecDepth 8000 in
set_option maxHeartbeats 4000000 in
theorem rseal10_c (b : Nat) (k : List Int) (h : Bool) (n : Int) (H C : List Int) (at' : Option Addr) (lt ct : Nat) (text : List Int) (w : World) (hs : Ny w b k h n H C) (hrt : Rd w at' lt ct text) (hg : Gq w) (hb0 : 0 < b) (hb1 : 1 < b) (hb2 : 2 < b) (hnq : Nq b at' lt) (hm : 78 + lt ≤ 2097152) :
  Calls Tryz.prog 12 #[.pointer (some ⟨b, 0, none⟩), .slice at' lt ct] w fun e w' => ∃ a1 m1 c1 X E n', e = .returned (.tuple #[.slice a1 m1 c1, .int .i64 E]) ∧ Hid (X = sx9 k h n H text) ∧ Hid (E = se9 h n) ∧ Hid (n' = sn9 h n) ∧ Hid (Rd w' a1 m1 c1 X) ∧ Hid (Ny w' b k h n' (h10 E H X) C) ∧ ExtB b w w' ∧ (∀ q, q < w.heap.size → Nq q at' lt → Nq q a1 m1) ∧ m1 ≤ lt + 16 := by
 have HS : Hid (Ny w b k h n H C) := hs
 have HG : Hid (Gq w) := hg
 have HRT : Hid (Rd w at' lt ct text) := hrt
 have HLT : Hid (b < w.heap.size) := hs.lt
 have HNQ : Hid (Nq b at' lt) := hnq
 clear hs hrt hg hnq
 go_enter Tryz.func12, Tryz.ntmps12
 go_upto_region 1 with fail
 refine wp_region_noPanic ?_
 refine wp_region_held_drew (S := ExtB b w) (by kernel_rfl) (ExtB.refl b w).drew (fun hH => ?_)
 change wpAnyH _ _ _ _ _ _ #[false, false, false, false, false, false, false, false, false, false, false, false, false, false] _ _
 refine tk 0 ?_
 try simp only [Act.put, List.setIfInBounds_toArray, List.set_cons_zero, List.set_cons_succ]
 refine tk 1 ?_
 try simp only [Act.put, List.setIfInBounds_toArray, List.set_cons_zero, List.set_cons_succ]
 refine tk 2 ?_
 try simp only [Act.put, List.setIfInBounds_toArray, List.set_cons_zero, List.set_cons_succ]
 refine tk 3 ?_
 try simp only [Act.put, List.setIfInBounds_toArray, List.set_cons_zero, List.set_cons_succ]
 refine tk 4 ?_
 try simp only [Act.put, List.setIfInBounds_toArray, List.set_cons_zero, List.set_cons_succ]
 refine tk 5 ?_
 try simp only [Act.put, List.setIfInBounds_toArray, List.set_cons_zero, List.set_cons_succ]
 refine tk 6 ?_
 try simp only [Act.put, List.setIfInBounds_toArray, List.set_cons_zero, List.set_cons_succ]
 refine tk 7 ?_
 try simp only [Act.put, List.setIfInBounds_toArray, List.set_cons_zero, List.set_cons_succ]
 refine rdy 8 (fun K hK => ?_)
 go_simp
 refine (rseal9o_c b 0 k h n (some ⟨b, 34, none⟩) 32 32 H at' lt ct text _ HS.out.drew.cy HS.out.drew.rdH (HRT.out.below (Below.refl _ _).drew) (HG.out.gr.later (Below.refl _ _).drew) hb1 (by omega)).mono ?_
 rintro e V ⟨a1, m1, c1, X, E, n', rfl, hm1, HX, HE, HN, RX, HT, hx, hkp, hfr⟩
 refine hK.out _ _ ((ExtB.refl b w).drew.comp hx.ext) (fun hH' => ?_)
 clear hK K hH; have hH := hH'; clear hH'; try simp only [List.setIfInBounds_toArray, List.set]
 refine tk 9 ?_
 try simp only [Act.put, List.setIfInBounds_toArray, List.set_cons_zero, List.set_cons_succ]
 refine tk 10 ?_
 try simp only [Act.put, List.setIfInBounds_toArray, List.set_cons_zero, List.set_cons_succ]
 refine tk 11 ?_
 try simp only [Act.put, List.setIfInBounds_toArray, List.set_cons_zero, List.set_cons_succ]
 refine tk 12 ?_
 try simp only [Act.put, List.setIfInBounds_toArray, List.set_cons_zero, List.set_cons_succ]
 refine tk 13 ?_
 try simp only [Act.put, List.setIfInBounds_toArray, List.set_cons_zero, List.set_cons_succ]
 refine wpAnyH_done (by kernel_rfl) ?_ _
 refine NoPanic.normal ?_
 have HFR : Hid (∀ q, q < w.heap.size → Nq q at' lt → Nq q a1 m1) := hfr
 replace RX : Hid (Rd V a1 m1 c1 X) := RX
 have HE' : Hid (ExtB b w V) := hH
 replace HS := hidp (HS.out.drew.cip HT.out hx)
 replace HG := hidp (HG.out.extb hH hb0 hb1 hb2)
 replace HRT : Hid (Rd V at' lt ct text) := hkp _ _ _ _ (HRT.out.below (Below.refl _ _).drew)
 clear HT hx hfr hH hkp HRT
 by_cases h0 : E = 0
 ·subst h0
  go_wp2_with fail
  refine (rmixhash10_c b k h n' H C a1 m1 c1 X _ HS.out RX.out HG.out (by omega)).mono ?_
  rintro e V2 ⟨rfl, HS2, hx⟩
  replace RX : Hid (Rd V2 a1 m1 c1 X) := RX.out.nq hx (HFR.out b HLT.out HNQ.out)
  replace HE' : Hid (ExtB b w V2) := HE'.out.comp hx
  clear hx HS HG
  go_wp2
  go_ret2
  exact ⟨a1, m1, c1, X, 0, n', rfl, HX, HE, HN, RX, by unfold Hid h10; rw [if_pos rfl]; exact HS2.out, HE'.out, HFR.out, hm1⟩
 ·clear HG HNQ
  go_wp2
  go_ret2
  exact ⟨a1, m1, c1, X, E, n', rfl, HX, HE, HN, RX, by unfold Hid h10; rw [if_neg h0]; exact HS.out, HE'.out, HFR.out, hm1⟩
set_option maxRecDepth 8000 in
set_option maxHeartbeats 4000000 in
theorem ropen10_c (b : Nat) (k : List Int) (h : Bool) (n : Int) (H C : List Int) (at' : Option Addr) (lt ct : Nat) (text : List Int) (w : World) (hs : Ny w b k h n H C) (hrt : Rd w at' lt ct text) (hg : Gq w) (hb0 : 0 < b) (hb1 : 1 < b) (hb2 : 2 < b) (hnq : Nq b at' lt) (hm : 78 + lt ≤ 2097152) :
  Calls Tryz.prog 14 #[.pointer (some ⟨b, 0, none⟩), .slice at' lt ct] w fun e w' => ∃ a1 m1 c1 X E n', e = .returned (.tuple #[.slice a1 m1 c1, .int .i64 E]) ∧ Hid (X = ox9 k h n H text) ∧ Hid (E = oe9 k h n H text) ∧ Hid (n' = on9 k h n H text) ∧ Hid (Rd w' a1 m1 c1 X) ∧ Hid (Ny w' b k h n' (h10 E H text) C) ∧ ExtB b w w' ∧ (∀ q, q < w.heap.size → Nq q at' lt → Nq q a1 m1) := by
 have HS : Hid (Ny w b k h n H C) := hs
 have HG : Hid (Gq w) := hg
 have HRT : Hid (Rd w at' lt ct text) := hrt
 have HLT : Hid (b < w.heap.size) := hs.lt
 have HNQ : Hid (Nq b at' lt) := hnq
 clear hs hrt hg hnq
 go_enter Tryz.func14, Tryz.ntmps14
 go_upto_region 1 with fail
 refine wp_region_noPanic ?_
 refine wp_region_held_drew (S := ExtB b w) (by kernel_rfl) (ExtB.refl b w).drew (fun hH => ?_)
 change wpAnyH _ _ _ _ _ _ #[false, false, false, false, false, false, false, false, false, false, false, false, false, false] _ _
 refine tk 0 ?_
 try simp only [Act.put, List.setIfInBounds_toArray, List.set_cons_zero, List.set_cons_succ]
 refine tk 1 ?_
 try simp only [Act.put, List.setIfInBounds_toArray, List.set_cons_zero, List.set_cons_succ]
 refine tk 2 ?_
 try simp only [Act.put, List.setIfInBounds_toArray, List.set_cons_zero, List.set_cons_succ]
 refine tk 3 ?_
 try simp only [Act.put, List.setIfInBounds_toArray, List.set_cons_zero, List.set_cons_succ]
 refine tk 4 ?_
 try simp only [Act.put, List.setIfInBounds_toArray, List.set_cons_zero, List.set_cons_succ]
 refine tk 5 ?_
 try simp only [Act.put, List.setIfInBounds_toArray, List.set_cons_zero, List.set_cons_succ]
 refine tk 6 ?_
 try simp only [Act.put, List.setIfInBounds_toArray, List.set_cons_zero, List.set_cons_succ]
 refine tk 7 ?_
 try simp only [Act.put, List.setIfInBounds_toArray, List.set_cons_zero, List.set_cons_succ]
 refine rdy 8 (fun K hK => ?_)
 go_simp
 refine (ropen9o_c b 0 k h n (some ⟨b, 34, none⟩) 32 32 H at' lt ct text _ HS.out.drew.cy HS.out.drew.rdH (HRT.out.below (Below.refl _ _).drew) (HG.out.gr.later (Below.refl _ _).drew) (by omega)).mono ?_
 rintro e V ⟨a1, m1, c1, X, E, n', rfl, HX, HE, HN, RX, HT, hx, hkp, hfr⟩
 refine hK.out _ _ ((ExtB.refl b w).drew.comp hx.ext) (fun hH' => ?_)
 clear hK K hH; have hH := hH'; clear hH'; try simp only [List.setIfInBounds_toArray, List.set]
 refine tk 9 ?_
 try simp only [Act.put, List.setIfInBounds_toArray, List.set_cons_zero, List.set_cons_succ]
 refine tk 10 ?_
 try simp only [Act.put, List.setIfInBounds_toArray, List.set_cons_zero, List.set_cons_succ]
 refine tk 11 ?_
 try simp only [Act.put, List.setIfInBounds_toArray, List.set_cons_zero, List.set_cons_succ]
 refine tk 12 ?_
 try simp only [Act.put, List.setIfInBounds_toArray, List.set_cons_zero, List.set_cons_succ]
 refine tk 13 ?_
 try simp only [Act.put, List.setIfInBounds_toArray, List.set_cons_zero, List.set_cons_succ]
 refine wpAnyH_done (by kernel_rfl) ?_ _
 refine NoPanic.normal ?_
 have HFR : Hid (∀ q, q < w.heap.size → Nq q at' lt → Nq q a1 m1) := hfr
 replace RX : Hid (Rd V a1 m1 c1 X) := RX
 have HE' : Hid (ExtB b w V) := hH
 replace HS := hidp (HS.out.drew.cip HT.out hx)
 replace HG := hidp (HG.out.extb hH hb0 hb1 hb2)
 replace HRT : Hid (Rd V at' lt ct text) := hkp _ _ _ _ (HRT.out.below (Below.refl _ _).drew)
 clear HT hx hfr hH hkp
 by_cases h0 : E = 0
 ·subst h0
  go_wp2_with fail
  refine (rmixhash10_c b k h n' H C at' lt ct text _ HS.out HRT.out HG.out (by omega)).mono ?_
  rintro e V2 ⟨rfl, HS2, hx⟩
  replace RX : Hid (Rd V2 a1 m1 c1 X) := RX.out.nq hx (HFR.out b HLT.out HNQ.out)
  replace HE' : Hid (ExtB b w V2) := HE'.out.comp hx
  clear hx HS HG HRT
  go_wp2
  go_ret2
  exact ⟨a1, m1, c1, X, 0, n', rfl, HX, HE, HN, RX, by unfold Hid h10; rw [if_pos rfl]; exact HS2.out, HE'.out, HFR.out⟩
 ·clear HG HNQ HRT
  go_wp2
  go_ret2
  exact ⟨a1, m1, c1, X, E, n', rfl, HX, HE, HN, RX, by unfold Hid h10; rw [if_neg h0]; exact HS.out, HE'.out, HFR.out⟩
end Go.Proofs.YtmibjgkakolhiaaGreatDoor
/-
 Slices of slices of bytes, of truth values that came in, each within the form's own reach. No statement of the seat is proved here.
-/
namespace Go.Proofs.YtmibjgkakolhiaaGreatDoor
open Go.ChangeShapes Go.WideShapes Go.ChangeAt Go.RowKit Go.Deep

set_option maxRecDepth 8000 in
theorem cellsS9 : Tryz.prog.cellsOf 28 = 1 := by kernel_rfl
set_option maxRecDepth 8000 in
theorem weights_all {H : Type} {P : Program} {e : TypeId} : ∀ {ds : List (DataW H)} {d : DataW H}, d ∈ ds → ∀ n ∈ d.weights P e, n ∈ DataW.weightsAll P e ds
 | d0 :: ds, d, hd, n, hn => by
  simp only [DataW.weightsAll, List.mem_append]
  rcases List.mem_cons.1 hd with rfl | h
  ·exact .inl hn
  ·exact .inr (weights_all h n hn)
 | [], _, hd, _, _ => by simp at hd
/-- Each text of a list that came in is within the form's own reach. -/
def Few9 (L : List (List Int)) : Prop := ∀ i : Nat, (L[i]?.getD []).length ≤ 140737488351232
set_option maxRecDepth 8000 in
theorem open_texts {H : Type} {enc : TypeId × Value → H} {W : World} {base : Nat} {held : Bool} {a : Option Addr} {len cap : Nat} {d : DataW H} {p : List MemPlace} {ts : List TypeId} {ds : List (DataW H)} (h : DataW.Trod enc Tryz.prog W base (fun _ => true) held 77 (.slice a len cap) d p)
  (hsz : (DataW.weightsEach Tryz.prog ts ds).all (· ≤ reachBytes) = true) (j : Nat) (ht : ts[j]? = some 77) (hd : ds[j]? = some d) :
  ∃ L, RdL W a len L ∧ Few9 L := by
 obtain ⟨fuel, hf⟩ := h
 rcases open_int_rows Tryz.underlying77 Tryz.underlying28 Tryz.underlying5 cellsS9 cells5 hf with ⟨hcs, hx⟩ | ⟨x, l, c, A, N, C, Z, hcs, _, hl, hm, hx, hrow⟩
 ·simp [Value.cells] at hcs
  obtain ⟨rfl, rfl, rfl⟩ := hcs
  exact ⟨[], ⟨rfl, fun h => by omega⟩, fun i => by simp⟩
 ·simp [Value.cells] at hcs
  obtain ⟨rfl, rfl, rfl⟩ := hcs
  simp only [Prod.mk.injEq] at hx
  obtain ⟨hdd, _⟩ := hx
  refine ⟨(List.range len).map fun r => if A r = none then [] else (Z r).take (N r), ⟨by simp, fun h0 => ?_⟩, fun i => ?_⟩
  ·obtain ⟨b, off, spot⟩ := x
   have hspot : spot = none := by simpa [Addr.add] using World.cell?_spot (hrow 0 (by omega)).1
   subst hspot
   refine ⟨b, off, rfl, fun i hi => ?_⟩
   obtain ⟨hc, h1, h2, h3, h4, h5, h6⟩ := hrow i (by omega)
   refine ⟨A i, N i, C i, by rw [← Go.WideShapes.add_plain]; exact hc, ?_⟩
   rw [List.getElem?_map, List.getElem?_range hi]
   simp only [Option.map_some, Option.getD_some]
   cases hA : A i with
   | none =>
    have e1 := h5 hA
    have e2 : N i = 0 := by omega
    rw [if_pos rfl, e1, e2]
    exact Rd.nil _ _ _ (fun _ => rfl)
   | some y =>
    rw [if_neg (by simp)]
    obtain ⟨_, hcell⟩ := h6 y hA
    refine ⟨by rw [List.length_take]; omega, h1, (fun h => by cases h), fun m hm' => bounds_u8 (h4 m (List.mem_of_mem_take hm')), fun hpos => ?_⟩
    obtain ⟨b2, o2, rfl, hc2⟩ := ints_at (zs := Z i) (fun j hj => hcell j (by omega)) (by omega)
    refine ⟨b2, o2, rfl, fun j hj => ?_⟩
    rw [hc2 j (by omega), List.getD_eq_getElem?_getD, List.getElem?_take_of_lt hj]
  ·by_cases hi : i < len
   ·rw [List.getElem?_map, List.getElem?_range hi]
    simp only [Option.map_some, Option.getD_some]
    by_cases hA : A i = none
    ·rw [if_pos hA]
     simp
    ·rw [if_neg hA]
     obtain ⟨y, hy⟩ := Option.ne_none_iff_exists'.1 hA
     rw [hdd] at hd
     have hmem : intRow (H := H) .u8 (A i) (N i) (Z i) ∈ (List.range len).map fun r => intRow (H := H) .u8 (A r) (N r) (Z r) := List.mem_map.2 ⟨i, List.mem_range.2 hi, rfl⟩
     have hw : ((lits (H := H) .u8 ((Z i).take (N i))).length + (lits (H := H) .u8 ((Z i).drop (N i))).length) * Tryz.prog.bytesOf 5 ∈ DataW.weightsEach Tryz.prog ts ds := by
      refine DataW.weights_mem_each ht hd _ ?_
      simp only [DataW.weights, Tryz.underlying77]
      refine List.mem_cons_of_mem _ (List.mem_append_left _ (weights_all hmem _ ?_))
      simp only [intRow, hy, DataW.weights, Tryz.underlying28]
      exact List.mem_cons_self
     have := List.all_eq_true.1 hsz _ hw
     rw [bytes5] at this
     simp only [lits, List.length_map, List.length_take, List.length_drop, reachBytes, decide_eq_true_eq] at this ⊢
     omega
   ·rw [List.getElem?_eq_none (by simp; omega)]
    simp
end Go.Proofs.YtmibjgkakolhiaaGreatDoor
/-
 A slice of law 10's Steps that came in. No statement of the seat is proved here.
-/
namespace Go.Proofs.YtmibjgkakolhiaaGreatDoor
open Go.ChangeShapes Go.WideShapes Go.ChangeAt Go.RowKit Go.Deep

/-- A Step in memory: its number, its bytes, no more than M. -/
structure St10 (M : Nat) (w : World) (b o : Nat) (what : Int) (a : Option Addr) (len cap : Nat) (x : List Int) : Prop where
 rng : w.rangeAt b o [.int .i64 what, .slice a len cap]
 rd : Rd w a len cap x
 bw : -9223372036854775808 ≤ what ∧ what ≤ 9223372036854775807
 le : len ≤ M
structure RdT (M : Nat) (w : World) (a : Option Addr) (len : Nat) : Prop where
 cell : 0 < len → ∃ b off, a = some ⟨b, off, none⟩ ∧ ∀ i, i < len → ∃ what ai li ci x, St10 M w b (off + i * 2) what ai li ci x
set_option maxRecDepth 8000 in
theorem trod_bytes10 {H : Type} {enc : TypeId × Value → H} {W : World} {base : Nat} {spare : Nat → Bool} {held : Bool} {fuel : Nat} {cs : List Value} {x : DataW H × List MemPlace} (h : DataW.trod enc Tryz.prog W base spare held fuel 28 cs = some x) :
  ∃ a len cap l, cs = [.slice a len cap] ∧ Rd W a len cap l ∧ ((x.1 = .nil ∧ len = 0) ∨ ∃ e s, x.1 = .slice e s ∧ len ≤ e.length + s.length) := by
 have hs : ∃ a len cap, cs = [.slice a len cap] := by
  rcases open_ints Tryz.underlying28 Tryz.underlying5 cells5 h with ⟨hcs, _⟩ | ⟨x, l, c, _, hcs, _⟩
  ·exact ⟨none, 0, 0, hcs⟩
  ·exact ⟨some x, l, c, hcs⟩
 obtain ⟨a, len, cap, rfl⟩ := hs
 obtain ⟨l, hl, hd⟩ := open_bytes (enc := enc) (W := W) (base := base) (spare := spare) (held := held) (a := a) (len := len) (cap := cap) (d := x.1) (p := x.2) ⟨fuel, h⟩
 exact ⟨a, len, cap, l, rfl, hl, hd⟩
set_option maxRecDepth 8000 in
theorem one_of10 {α : Type} {l : List α} {i : Nat} {x : α} (h : (l.drop i).take 1 = [x]) : l[i]? = some x := by
 have h2 : ((l.drop i).take 1)[0]? = some x := by rw [h]; rfl
 rwa [List.getElem?_take_of_lt (by decide), List.getElem?_drop, Nat.add_zero] at h2
set_option maxRecDepth 8000 in
theorem cellsT10 : Tryz.prog.cellsOf 30 = 2 := by kernel_rfl
set_option maxRecDepth 8000 in
theorem cellsI10 : Tryz.prog.cellsOf 3 = 1 := by kernel_rfl
set_option maxRecDepth 8000 in
theorem cellsB10 : Tryz.prog.cellsOf 28 = 1 := by kernel_rfl
set_option maxRecDepth 8000 in
theorem open_steps10 {H : Type} {enc : TypeId × Value → H} {W : World} {base : Nat} {spare : Nat → Bool} {held : Bool} {a : Option Addr} {len cap : Nat} {d : DataW H} {p : List MemPlace} (h : DataW.Trod enc Tryz.prog W base spare held 22 (.slice a len cap) d p) (M : Nat)
  (hM : ∀ (l s : List (DataW H)), d = .slice l s → ∀ y0 y1 : DataW H, (.agg [y0, y1]) ∈ l → ∀ n : Nat, ((y1 = .nil ∧ n = 0) ∨ ∃ e s', y1 = .slice e s' ∧ n ≤ e.length + s'.length) → n ≤ M) : RdT M W a len := by
 obtain ⟨fuel, hf⟩ := h
 rcases open_slice Tryz.underlying22 hf with ⟨hcs, _⟩ | ⟨x, l, c, m, n, D, Pl, hcs, _, hl, hm, hmm, hx, hall⟩
 ·simp [Value.cells] at hcs
  obtain ⟨rfl, rfl, rfl⟩ := hcs
  exact ⟨fun h => by omega⟩
 ·simp [Value.cells] at hcs
  obtain ⟨rfl, rfl, rfl⟩ := hcs
  simp only [Prod.mk.injEq] at hx
  refine ⟨fun h0 => ?_⟩
  have hlm : len ≤ m := by rw [hmm]; split <;> omega
  have hspot : x.spot = none := by
   obtain ⟨cs', h1, _⟩ := hall 0 (by omega)
   obtain ⟨_, hl36, hcell⟩ := World.cells?_some h1
   rw [cellsT10] at hl36 hcell
   have hc := hcell 0 (by decide)
   rw [List.getElem?_eq_getElem (by omega)] at hc
   simpa [Addr.add] using World.cell?_spot hc
  obtain ⟨b, off, spot⟩ := x
  dsimp only at hspot
  subst hspot
  refine ⟨b, off, rfl, fun i hi => ?_⟩
  obtain ⟨cs', h1, h2⟩ := hall i (by omega)
  obtain ⟨_, hl36, hcell⟩ := World.cells?_some h1
  rw [cellsT10] at hl36 hcell
  obtain ⟨xs, k, hk, hxy, _, hxl, hfd⟩ := DataW.trod_struct Tryz.underlying30 h2
  match xs, hxl with
  | [y0, y1], _ =>
   have g0 : DataW.trod enc Tryz.prog W base spare held k 3 ((cs'.drop 0).take (Tryz.prog.cellsOf 3)) = some y0 := hfd 0 _ rfl
   rw [cellsI10] at g0
   have g1 : DataW.trod enc Tryz.prog W base spare held k 28 ((cs'.drop 1).take (Tryz.prog.cellsOf 28)) = some y1 := hfd 1 _ rfl
   rw [cellsB10] at g1
   obtain ⟨what, e0, _, w0⟩ := DataW.trod_int Tryz.underlying3 g0
   obtain ⟨ai, li, ci, bt, e1, ra, hd1⟩ := trod_bytes10 g1
   have hD : D i = .agg [y0.1, y1.1] := by
    simp only [Prod.mk.injEq] at hxy
    simpa using hxy.1
   have hle : li ≤ M := by
    refine hM _ _ hx.1 y0.1 y1.1 ?_ li hd1
    rw [← hD]
    exact List.mem_map.2 ⟨i, List.mem_range.2 hi, rfl⟩
   have hcs' : cs' = [.int .i64 what, .slice ai li ci] := by
    apply List.ext_getElem?
    intro j
    by_cases hj : j < 2
    ·match j, hj with
     | 0, _ => rw [one_of10 e0]; rfl
     | 1, _ => rw [one_of10 e1]; rfl
    ·rw [List.getElem?_eq_none (by omega), List.getElem?_eq_none (by simp; omega)]
   refine ⟨what, ai, li, ci, bt, ⟨fun j v hv => ?_, ra, bounds_i64 w0, hle⟩⟩
   have hj : j < 2 := by
    have := (List.getElem?_eq_some_iff.1 hv).1
    simpa using this
   rw [← hcs', ← hcell j hj] at hv
   rw [← hv, add_add]
   congr 1
   rw [Go.WideShapes.add_plain, Nat.add_assoc]
set_option maxRecDepth 8000 in
/-- Each within the form's own reach. -/
theorem steps_reach {H : Type} {enc : TypeId × Value → H} {W : World} {base : Nat} {spare : Nat → Bool} {held : Bool} {a : Option Addr} {len cap : Nat} {d : DataW H} {p : List MemPlace} {ts : List TypeId} {ds : List (DataW H)} (h : DataW.Trod enc Tryz.prog W base spare held 22 (.slice a len cap) d p)
  (hsz : (DataW.weightsEach Tryz.prog ts ds).all (· ≤ reachBytes) = true) (j : Nat) (ht : ts[j]? = some 22) (hd : ds[j]? = some d) : RdT 140737488351232 W a len := by
 refine open_steps10 h _ (fun l s hds y0 y1 hmem n hn => ?_)
 rcases hn with ⟨_, rfl⟩ | ⟨e, s', rfl, hn⟩
 ·omega
 ·have hw : (e.length + s'.length) * Tryz.prog.bytesOf 5 ∈ DataW.weightsEach Tryz.prog ts ds := by
   refine DataW.weights_mem_each ht hd _ ?_
   subst hds
   simp only [DataW.weights, Tryz.underlying22]
   refine List.mem_cons_of_mem _ (List.mem_append_left _ (weights_all hmem _ ?_))
   simp only [DataW.weights, Tryz.underlying30, DataW.weightsEach, List.map_cons, List.map_nil, Tryz.underlying28]
   simp
  have := of_decide_eq_true (List.all_eq_true.1 hsz _ hw)
  rw [bytes5] at this
  unfold reachBytes at this
  omega
set_option maxRecDepth 8000 in
theorem bulk_one10 {H : Type} (d : DataW H) : 1 ≤ Rows.uptoBulk d := by
 cases d with
 | lit l => cases l <;> simp [Rows.uptoBulk]
 | _ => simp [Rows.uptoBulk]
set_option maxRecDepth 8000 in
theorem bulk_len10 {H : Type} (l : List (DataW H)) : l.length ≤ Rows.uptoBulkAll l := by
 induction l with
 | nil => simp [Rows.uptoBulkAll]
 | cons x r ih => have := bulk_one10 x; simp only [Rows.uptoBulkAll, List.length_cons]; omega
set_option maxRecDepth 8000 in
theorem bulk_mem10 {H : Type} : ∀ {l : List (DataW H)} {d : DataW H}, d ∈ l → Rows.uptoBulk d ≤ Rows.uptoBulkAll l
 | x :: r, d, h => by
  simp only [Rows.uptoBulkAll]
  rcases List.mem_cons.1 h with rfl | h
  ·omega
  ·have := bulk_mem10 h; omega
 | [], _, h => by simp at h
set_option maxRecDepth 8000 in
theorem steps_bulk {H : Type} {enc : TypeId × Value → H} {W : World} {base : Nat} {spare : Nat → Bool} {held : Bool} {a : Option Addr} {len cap : Nat} {d : DataW H} {p : List MemPlace} (h : DataW.Trod enc Tryz.prog W base spare held 22 (.slice a len cap) d p) (hbulk : Rows.uptoBulk d ≤ 1048576) : RdT 1048576 W a len := by
 refine open_steps10 h _ (fun l s hds y0 y1 hmem n hn => ?_)
 rcases hn with ⟨_, rfl⟩ | ⟨e, s', rfl, hn⟩
 ·omega
 ·subst hds
  have h1 := bulk_mem10 hmem
  have h2 := bulk_len10 e
  have h3 := bulk_len10 s'
  simp only [Rows.uptoBulk, Rows.uptoBulkAll] at hbulk h1
  omega
end Go.Proofs.YtmibjgkakolhiaaGreatDoor
