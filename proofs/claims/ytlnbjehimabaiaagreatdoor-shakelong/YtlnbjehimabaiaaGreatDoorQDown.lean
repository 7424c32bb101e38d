/-
 What chacha's down and crossed do: sixteen words, mixed by four. No statement of the seat is proved here.
-/
import Derived.Test.YtlnbjehimabaiaaGreatDoorPk1
import Derived.Test.YtlnbjehimabaiaaGreatDoorPk9
namespace Go.Proofs.YtlnbjehimabaiaaGreatDoor
open Go.RowKit
set_option maxRecDepth 8000

/-- Sixteen words of 32 bits. -/
structure W16 (L : List Int) : Prop where
 len : L.length = 16
 wd : ∀ x ∈ L, W32 x
theorem W16.at {L : List Int} (h : W16 L) (i : Nat) (hi : i < 16) : W32 L[i]! := by
 rw [getElem!_pos L i (by rw [h.len]; exact hi)]
 exact h.wd _ (List.getElem_mem _)
theorem W16.set {L : List Int} (h : W16 L) (i : Nat) {x : Int} (hx : W32 x) : W16 (L.set i x) := ⟨by rw [List.length_set, h.len], fun y hy => by
 rcases List.mem_or_eq_of_mem_set hy with hy | rfl
 ·exact h.wd y hy
 ·exact hx⟩
/-- Four of the words, mixed. -/
def qs (i j k m : Nat) (L : List Int) : List Int :=
 let r := q4 L[i]! L[j]! L[k]! L[m]!
 (((L.set i r.1).set j r.2.1).set k r.2.2.1).set m r.2.2.2
def dn (L : List Int) : List Int := qs 3 7 11 15 (qs 2 6 10 14 (qs 1 5 9 13 (qs 0 4 8 12 L)))
def cr (L : List Int) : List Int := qs 3 4 9 14 (qs 2 7 8 13 (qs 1 6 11 12 (qs 0 5 10 15 L)))
theorem q4_w (a b c d : Int) : (W32 a → W32 b → W32 c → W32 d → W32 (q4 a b c d).1 ∧ W32 (q4 a b c d).2.1 ∧ W32 (q4 a b c d).2.2.1 ∧ W32 (q4 a b c d).2.2.2) := by
 intro ha hb hc hd
 have h1 := ad_w a b
 have h2 := rot_w 16 (xr_w hd h1)
 have h3 := ad_w c (rot 16 (xr d (ad a b)))
 have h4 := rot_w 12 (xr_w hb h3)
 simp only [q4]
 generalize ad a b = a1 at *
 generalize rot 16 (xr d a1) = d1 at *
 generalize ad c d1 = c1 at *
 generalize rot 12 (xr b c1) = b1 at *
 have h5 := ad_w a1 b1
 have h6 := rot_w 8 (xr_w h2 h5)
 generalize ad a1 b1 = a2 at *
 generalize rot 8 (xr d1 a2) = d2 at *
 have h7 := ad_w c1 d2
 have h8 := rot_w 7 (xr_w h4 h7)
 generalize ad c1 d2 = c2 at *
 generalize rot 7 (xr b1 c2) = b2 at *
 exact ⟨h5, h8, h7, h6⟩
theorem getW {L : List Int} (h : ∀ x ∈ L, W32 x) (i : Nat) : W32 L[i]! := by
 by_cases hi : i < L.length
 ·rw [getElem!_pos L i hi]
  exact h _ (List.getElem_mem hi)
 ·rw [getElem!_neg L i hi]
  exact ⟨by decide, by decide⟩
theorem qs_w {L : List Int} (h : W16 L) (i j k m : Nat) : W16 (qs i j k m L) := by
 obtain ⟨h1, h2, h3, h4⟩ := q4_w _ _ _ _ (getW h.wd i) (getW h.wd j) (getW h.wd k) (getW h.wd m)
 exact (((h.set i h1).set j h2).set k h3).set m h4
theorem ar_word {u : World} {b : Nat} {L : List Int} (h : Ar u b 16 (List.map (Value.int .u32) L)) (hL : W16 L) (i : Nat) (hi : i < 16) : ∃ x, u.cell? ⟨b, i, none⟩ = some (.int .u32 x) ∧ u.frozen? ⟨b, i, none⟩ = false ∧ W32 x ∧ Hid (x = L[i]!) := by
 obtain ⟨h1, h2⟩ := h.cell i hi
 rw [List.getElem_map] at h1
 exact ⟨_, h1, h2, hL.wd _ (List.getElem_mem _), (getElem!_pos L i (by rw [hL.len]; exact hi)).symm⟩
theorem ar_qs {u : World} {b : Nat} {L : List Int} (h : Ar u b 16 (List.map (Value.int .u32) L)) (i j k m : Nat) (hi : i < 16) (hj : j < 16) (hk : k < 16) (hm : m < 16) {x0 x1 x2 x3 p q r s : Int} (e0 : x0 = L[i]!) (e1 : x1 = L[j]!) (e2 : x2 = L[k]!) (e3 : x3 = L[m]!) (hq : (p, q, r, s) = q4 x0 x1 x2 x3) :
  Ar ((((u.setCell ⟨b, i, none⟩ (.int .u32 p)).setCell ⟨b, j, none⟩ (.int .u32 q)).setCell ⟨b, k, none⟩ (.int .u32 r)).setCell ⟨b, m, none⟩ (.int .u32 s)) b 16 (List.map (Value.int .u32) (qs i j k m L)) := by
 have := (((h.set i hi (.int .u32 p)).set j hj (.int .u32 q)).set k hk (.int .u32 r)).set m hm (.int .u32 s)
 subst e0 e1 e2 e3
 unfold qs
 rw [← hq]
 simpa only [List.map_set] using this
theorem w16_cells {L : List Int} (h : W16 L) : (List.map (Value.int .u32) L).length = 16 ∧ (∀ v ∈ (List.map (Value.int .u32) L), v.oneCell' = true) ∧ (Tryz.prog.info? 185).map (·.size) = some (List.map (Value.int .u32) L).length := by
 have e : (List.map (Value.int .u32) L).length = 16 := by rw [List.length_map, h.len]
 exact ⟨e, ints_oneCell _ _, by rw [e]; kernel_rfl⟩

set_option maxHeartbeats 4000000 in
theorem down_c (L : List Int) (hL : W16 L) (w : World) :
  Calls Tryz.prog 148 #[(.agg (List.map (Value.int .u32) L).toArray)] w fun e w' => ∃ L', e = .returned (.agg (List.map (Value.int .u32) L').toArray) ∧ Hid (L' = dn L) ∧ W16 L' ∧ Below w.heap.size w w' := by
 have HW : Hid (W16 L) := hL
 have HS : Hid (L = L) := rfl
 clear hL
 go_enter Tryz.func148, Tryz.ntmps148
 go_upto_region 1 with fail
 have HL : Hid (Ar ((w.alloc (.cells (List.map (Value.int .u32) L).toArray 185)).alloc (.cells zw16 185)) w.heap.size 16 (List.map (Value.int .u32) L)) := (ar_box w _ 16 (by rw [List.length_map, HW.out.len]) _).later (bel1 _ _)
 have HD : Hid (((w.alloc (.cells (List.map (Value.int .u32) L).toArray 185)).alloc (.cells zw16 185)).there (w.heap.size + 1) 0 16) := by have := there_new (w.alloc (.cells (List.map (Value.int .u32) L).toArray 185)) 16 zw16 rfl 185; simpa [Hid] using this
 have HB : Hid (Below w.heap.size w ((w.alloc (.cells (List.map (Value.int .u32) L).toArray 185)).alloc (.cells zw16 185))) := bel2 _ _ _
 generalize (w.alloc (.cells (List.map (Value.int .u32) L).toArray 185)).alloc (.cells zw16 185) = W0 at *
 have k1 : w.heap.size < w.heap.size + 1 := by omega
 generalize w.heap.size + 1 = b1 at *
 obtain ⟨x0, c0, f0, r0, HX0⟩ := ar_word HL.out HW.out 0 (by decide)
 obtain ⟨x1, c1, f1, r1, HX1⟩ := ar_word HL.out HW.out 4 (by decide)
 obtain ⟨x2, c2, f2, r2, HX2⟩ := ar_word HL.out HW.out 8 (by decide)
 obtain ⟨x3, c3, f3, r3, HX3⟩ := ar_word HL.out HW.out 12 (by decide)
 go_wp2_with fail
 refine (quarter_c x0 x1 x2 x3 r0 r1 r2 r3 _).mono ?_
 rintro e V1 ⟨p, q, r, s, rfl, HQ, p0, q0, r0', s0, hb⟩
 have hlt := HL.out.lt (by decide)
 replace c0 := cell_later hb c0
 replace c1 := cell_later hb c1
 replace c2 := cell_later hb c2
 replace c3 := cell_later hb c3
 replace f0 := froz_later hb hlt f0
 replace f1 := froz_later hb hlt f1
 replace f2 := froz_later hb hlt f2
 replace f3 := froz_later hb hlt f3
 replace HL := hidp (HL.out.later hb)
 replace HD : Hid (V1.there b1 0 16) := there_later hb HD.out
 replace HB := hidp (HB.out.trans (hb.mono HB.out.size))
 clear hb hlt r0 r1 r2 r3
 go_upto_region 2 with fail
 obtain ⟨L1, HL1'⟩ : ∃ l, Hid (l = qs 0 4 8 12 L) := ⟨_, rfl⟩
 replace HW : Hid (W16 L1) := by unfold Hid; rw [HL1'.out]; exact qs_w HW.out 0 4 8 12
 replace HL : Hid (Ar ((((V1.setCell ⟨w.heap.size, 0, none⟩ (.int .u32 p)).setCell ⟨w.heap.size, 4, none⟩ (.int .u32 q)).setCell ⟨w.heap.size, 8, none⟩ (.int .u32 r)).setCell ⟨w.heap.size, 12, none⟩ (.int .u32 s)) w.heap.size 16 (List.map (Value.int .u32) L1)) := by
  unfold Hid; rw [HL1'.out]; exact ar_qs HL.out 0 4 8 12 (by decide) (by decide) (by decide) (by decide) HX0.out HX1.out HX2.out HX3.out HQ.out
 replace HD : Hid (((((V1.setCell ⟨w.heap.size, 0, none⟩ (.int .u32 p)).setCell ⟨w.heap.size, 4, none⟩ (.int .u32 q)).setCell ⟨w.heap.size, 8, none⟩ (.int .u32 r)).setCell ⟨w.heap.size, 12, none⟩ (.int .u32 s)).there b1 0 16) := there_set (there_set (there_set (there_set HD.out _ _ _) _ _ _) _ _ _) _ _ _
 replace HB : Hid (Below w.heap.size w ((((V1.setCell ⟨w.heap.size, 0, none⟩ (.int .u32 p)).setCell ⟨w.heap.size, 4, none⟩ (.int .u32 q)).setCell ⟨w.heap.size, 8, none⟩ (.int .u32 r)).setCell ⟨w.heap.size, 12, none⟩ (.int .u32 s))) := (((HB.out.setCell (p := ⟨w.heap.size, 0, none⟩) (Nat.le_refl _) _).setCell (p := ⟨w.heap.size, 4, none⟩) (Nat.le_refl _) _).setCell (p := ⟨w.heap.size, 8, none⟩) (Nat.le_refl _) _).setCell (p := ⟨w.heap.size, 12, none⟩) (Nat.le_refl _) _
 clear c0 c1 c2 c3 f0 f1 f2 f3 HX0 HX1 HX2 HX3 HQ p0 q0 r0' s0
 generalize (((V1.setCell ⟨w.heap.size, 0, none⟩ (.int .u32 p)).setCell ⟨w.heap.size, 4, none⟩ (.int .u32 q)).setCell ⟨w.heap.size, 8, none⟩ (.int .u32 r)).setCell ⟨w.heap.size, 12, none⟩ (.int .u32 s) = W1 at *
 obtain ⟨x0, c0, f0, r0, HX0⟩ := ar_word HL.out HW.out 1 (by decide)
 obtain ⟨x1, c1, f1, r1, HX1⟩ := ar_word HL.out HW.out 5 (by decide)
 obtain ⟨x2, c2, f2, r2, HX2⟩ := ar_word HL.out HW.out 9 (by decide)
 obtain ⟨x3, c3, f3, r3, HX3⟩ := ar_word HL.out HW.out 13 (by decide)
 go_wp2_with fail
 refine (quarter_c x0 x1 x2 x3 r0 r1 r2 r3 _).mono ?_
 rintro e V2 ⟨p, q, r, s, rfl, HQ, p0, q0, r0', s0, hb⟩
 have hlt := HL.out.lt (by decide)
 replace c0 := cell_later hb c0
 replace c1 := cell_later hb c1
 replace c2 := cell_later hb c2
 replace c3 := cell_later hb c3
 replace f0 := froz_later hb hlt f0
 replace f1 := froz_later hb hlt f1
 replace f2 := froz_later hb hlt f2
 replace f3 := froz_later hb hlt f3
 replace HL := hidp (HL.out.later hb)
 replace HD : Hid (V2.there b1 0 16) := there_later hb HD.out
 replace HB := hidp (HB.out.trans (hb.mono HB.out.size))
 clear hb hlt r0 r1 r2 r3
 go_upto_region 3 with fail
 obtain ⟨L2, HL2'⟩ : ∃ l, Hid (l = qs 1 5 9 13 L1) := ⟨_, rfl⟩
 replace HW : Hid (W16 L2) := by unfold Hid; rw [HL2'.out]; exact qs_w HW.out 1 5 9 13
 replace HL : Hid (Ar ((((V2.setCell ⟨w.heap.size, 1, none⟩ (.int .u32 p)).setCell ⟨w.heap.size, 5, none⟩ (.int .u32 q)).setCell ⟨w.heap.size, 9, none⟩ (.int .u32 r)).setCell ⟨w.heap.size, 13, none⟩ (.int .u32 s)) w.heap.size 16 (List.map (Value.int .u32) L2)) := by
  unfold Hid; rw [HL2'.out]; exact ar_qs HL.out 1 5 9 13 (by decide) (by decide) (by decide) (by decide) HX0.out HX1.out HX2.out HX3.out HQ.out
 replace HD : Hid (((((V2.setCell ⟨w.heap.size, 1, none⟩ (.int .u32 p)).setCell ⟨w.heap.size, 5, none⟩ (.int .u32 q)).setCell ⟨w.heap.size, 9, none⟩ (.int .u32 r)).setCell ⟨w.heap.size, 13, none⟩ (.int .u32 s)).there b1 0 16) := there_set (there_set (there_set (there_set HD.out _ _ _) _ _ _) _ _ _) _ _ _
 replace HB : Hid (Below w.heap.size w ((((V2.setCell ⟨w.heap.size, 1, none⟩ (.int .u32 p)).setCell ⟨w.heap.size, 5, none⟩ (.int .u32 q)).setCell ⟨w.heap.size, 9, none⟩ (.int .u32 r)).setCell ⟨w.heap.size, 13, none⟩ (.int .u32 s))) := (((HB.out.setCell (p := ⟨w.heap.size, 1, none⟩) (Nat.le_refl _) _).setCell (p := ⟨w.heap.size, 5, none⟩) (Nat.le_refl _) _).setCell (p := ⟨w.heap.size, 9, none⟩) (Nat.le_refl _) _).setCell (p := ⟨w.heap.size, 13, none⟩) (Nat.le_refl _) _
 clear c0 c1 c2 c3 f0 f1 f2 f3 HX0 HX1 HX2 HX3 HQ p0 q0 r0' s0
 generalize (((V2.setCell ⟨w.heap.size, 1, none⟩ (.int .u32 p)).setCell ⟨w.heap.size, 5, none⟩ (.int .u32 q)).setCell ⟨w.heap.size, 9, none⟩ (.int .u32 r)).setCell ⟨w.heap.size, 13, none⟩ (.int .u32 s) = W2 at *
 obtain ⟨x0, c0, f0, r0, HX0⟩ := ar_word HL.out HW.out 2 (by decide)
 obtain ⟨x1, c1, f1, r1, HX1⟩ := ar_word HL.out HW.out 6 (by decide)
 obtain ⟨x2, c2, f2, r2, HX2⟩ := ar_word HL.out HW.out 10 (by decide)
 obtain ⟨x3, c3, f3, r3, HX3⟩ := ar_word HL.out HW.out 14 (by decide)
 go_wp2_with fail
 refine (quarter_c x0 x1 x2 x3 r0 r1 r2 r3 _).mono ?_
 rintro e V3 ⟨p, q, r, s, rfl, HQ, p0, q0, r0', s0, hb⟩
 have hlt := HL.out.lt (by decide)
 replace c0 := cell_later hb c0
 replace c1 := cell_later hb c1
 replace c2 := cell_later hb c2
 replace c3 := cell_later hb c3
 replace f0 := froz_later hb hlt f0
 replace f1 := froz_later hb hlt f1
 replace f2 := froz_later hb hlt f2
 replace f3 := froz_later hb hlt f3
 replace HL := hidp (HL.out.later hb)
 replace HD : Hid (V3.there b1 0 16) := there_later hb HD.out
 replace HB := hidp (HB.out.trans (hb.mono HB.out.size))
 clear hb hlt r0 r1 r2 r3
 go_upto_region 4 with fail
 obtain ⟨L3, HL3'⟩ : ∃ l, Hid (l = qs 2 6 10 14 L2) := ⟨_, rfl⟩
 replace HW : Hid (W16 L3) := by unfold Hid; rw [HL3'.out]; exact qs_w HW.out 2 6 10 14
 replace HL : Hid (Ar ((((V3.setCell ⟨w.heap.size, 2, none⟩ (.int .u32 p)).setCell ⟨w.heap.size, 6, none⟩ (.int .u32 q)).setCell ⟨w.heap.size, 10, none⟩ (.int .u32 r)).setCell ⟨w.heap.size, 14, none⟩ (.int .u32 s)) w.heap.size 16 (List.map (Value.int .u32) L3)) := by
  unfold Hid; rw [HL3'.out]; exact ar_qs HL.out 2 6 10 14 (by decide) (by decide) (by decide) (by decide) HX0.out HX1.out HX2.out HX3.out HQ.out
 replace HD : Hid (((((V3.setCell ⟨w.heap.size, 2, none⟩ (.int .u32 p)).setCell ⟨w.heap.size, 6, none⟩ (.int .u32 q)).setCell ⟨w.heap.size, 10, none⟩ (.int .u32 r)).setCell ⟨w.heap.size, 14, none⟩ (.int .u32 s)).there b1 0 16) := there_set (there_set (there_set (there_set HD.out _ _ _) _ _ _) _ _ _) _ _ _
 replace HB : Hid (Below w.heap.size w ((((V3.setCell ⟨w.heap.size, 2, none⟩ (.int .u32 p)).setCell ⟨w.heap.size, 6, none⟩ (.int .u32 q)).setCell ⟨w.heap.size, 10, none⟩ (.int .u32 r)).setCell ⟨w.heap.size, 14, none⟩ (.int .u32 s))) := (((HB.out.setCell (p := ⟨w.heap.size, 2, none⟩) (Nat.le_refl _) _).setCell (p := ⟨w.heap.size, 6, none⟩) (Nat.le_refl _) _).setCell (p := ⟨w.heap.size, 10, none⟩) (Nat.le_refl _) _).setCell (p := ⟨w.heap.size, 14, none⟩) (Nat.le_refl _) _
 clear c0 c1 c2 c3 f0 f1 f2 f3 HX0 HX1 HX2 HX3 HQ p0 q0 r0' s0
 generalize (((V3.setCell ⟨w.heap.size, 2, none⟩ (.int .u32 p)).setCell ⟨w.heap.size, 6, none⟩ (.int .u32 q)).setCell ⟨w.heap.size, 10, none⟩ (.int .u32 r)).setCell ⟨w.heap.size, 14, none⟩ (.int .u32 s) = W3 at *
 obtain ⟨x0, c0, f0, r0, HX0⟩ := ar_word HL.out HW.out 3 (by decide)
 obtain ⟨x1, c1, f1, r1, HX1⟩ := ar_word HL.out HW.out 7 (by decide)
 obtain ⟨x2, c2, f2, r2, HX2⟩ := ar_word HL.out HW.out 11 (by decide)
 obtain ⟨x3, c3, f3, r3, HX3⟩ := ar_word HL.out HW.out 15 (by decide)
 go_wp2_with fail
 refine (quarter_c x0 x1 x2 x3 r0 r1 r2 r3 _).mono ?_
 rintro e V4 ⟨p, q, r, s, rfl, HQ, p0, q0, r0', s0, hb⟩
 have hlt := HL.out.lt (by decide)
 replace c0 := cell_later hb c0
 replace c1 := cell_later hb c1
 replace c2 := cell_later hb c2
 replace c3 := cell_later hb c3
 replace f0 := froz_later hb hlt f0
 replace f1 := froz_later hb hlt f1
 replace f2 := froz_later hb hlt f2
 replace f3 := froz_later hb hlt f3
 replace HL := hidp (HL.out.later hb)
 replace HD : Hid (V4.there b1 0 16) := there_later hb HD.out
 replace HB := hidp (HB.out.trans (hb.mono HB.out.size))
 clear hb hlt r0 r1 r2 r3
 go_upto_region 5 with fail
 obtain ⟨L4, HL4'⟩ : ∃ l, Hid (l = qs 3 7 11 15 L3) := ⟨_, rfl⟩
 replace HW : Hid (W16 L4) := by unfold Hid; rw [HL4'.out]; exact qs_w HW.out 3 7 11 15
 replace HL : Hid (Ar ((((V4.setCell ⟨w.heap.size, 3, none⟩ (.int .u32 p)).setCell ⟨w.heap.size, 7, none⟩ (.int .u32 q)).setCell ⟨w.heap.size, 11, none⟩ (.int .u32 r)).setCell ⟨w.heap.size, 15, none⟩ (.int .u32 s)) w.heap.size 16 (List.map (Value.int .u32) L4)) := by
  unfold Hid; rw [HL4'.out]; exact ar_qs HL.out 3 7 11 15 (by decide) (by decide) (by decide) (by decide) HX0.out HX1.out HX2.out HX3.out HQ.out
 replace HD : Hid (((((V4.setCell ⟨w.heap.size, 3, none⟩ (.int .u32 p)).setCell ⟨w.heap.size, 7, none⟩ (.int .u32 q)).setCell ⟨w.heap.size, 11, none⟩ (.int .u32 r)).setCell ⟨w.heap.size, 15, none⟩ (.int .u32 s)).there b1 0 16) := there_set (there_set (there_set (there_set HD.out _ _ _) _ _ _) _ _ _) _ _ _
 replace HB : Hid (Below w.heap.size w ((((V4.setCell ⟨w.heap.size, 3, none⟩ (.int .u32 p)).setCell ⟨w.heap.size, 7, none⟩ (.int .u32 q)).setCell ⟨w.heap.size, 11, none⟩ (.int .u32 r)).setCell ⟨w.heap.size, 15, none⟩ (.int .u32 s))) := (((HB.out.setCell (p := ⟨w.heap.size, 3, none⟩) (Nat.le_refl _) _).setCell (p := ⟨w.heap.size, 7, none⟩) (Nat.le_refl _) _).setCell (p := ⟨w.heap.size, 11, none⟩) (Nat.le_refl _) _).setCell (p := ⟨w.heap.size, 15, none⟩) (Nat.le_refl _) _
 clear c0 c1 c2 c3 f0 f1 f2 f3 HX0 HX1 HX2 HX3 HQ p0 q0 r0' s0
 generalize (((V4.setCell ⟨w.heap.size, 3, none⟩ (.int .u32 p)).setCell ⟨w.heap.size, 7, none⟩ (.int .u32 q)).setCell ⟨w.heap.size, 11, none⟩ (.int .u32 r)).setCell ⟨w.heap.size, 15, none⟩ (.int .u32 s) = W4 at *
 have HE : Hid (L4 = dn L) := by unfold Hid; rw [HL4'.out, HL3'.out, HL2'.out, HL1'.out]; rfl
 clear HL4' HL3' HL2' HL1'
 obtain ⟨hlen, hone, hi⟩ := w16_cells HW.out
 generalize hcs : (List.map (Value.int .u32) L4) = cs at *
 have HC : Hid ((List.map (Value.int .u32) L4) = cs) := hcs
 clear hcs
 go_wp2_with (first
  | (refine wpList_load_mid rfl 185 (.tmp 1) rfl (w.heap.size) 0 rfl cs _ HL.out.rng Tryz.underlying185 rfl hi ?_)
  | (refine wpList_store_mid rfl 185 (.tmp 2) (.tmp 75) rfl b1 0 cs.toArray rfl rfl (by simpa [hlen] using HD.out) (by simpa using hi) (all_oneCell_toArray hone) ?_))
 have HR2 : Hid ((W4.setCells b1 0 cs).rangeAt b1 0 cs) := World.rangeAt_setCells_same _ _ _ _ (by rw [hlen]; exact HD.out)
 have hld := run_loadVar_mid (P := Tryz.prog) _ _ 0 185 _ _ HR2.out Tryz.underlying185 rfl hi
 exact bodyPost_ret (v := .agg cs.toArray) (by simp [results, Tryz.results148]; exact hld) rfl ⟨L4, by rw [HC.out], HE, HW.out, below_setCells _ (by omega) _ _ _ HB.out⟩

set_option maxHeartbeats 4000000 in
theorem crossed_c (L : List Int) (hL : W16 L) (w : World) :
  Calls Tryz.prog 147 #[(.agg (List.map (Value.int .u32) L).toArray)] w fun e w' => ∃ L', e = .returned (.agg (List.map (Value.int .u32) L').toArray) ∧ Hid (L' = cr L) ∧ W16 L' ∧ Below w.heap.size w w' := by
 have HW : Hid (W16 L) := hL
 have HS : Hid (L = L) := rfl
 clear hL
 go_enter Tryz.func147, Tryz.ntmps147
 go_upto_region 1 with fail
 have HL : Hid (Ar ((w.alloc (.cells (List.map (Value.int .u32) L).toArray 185)).alloc (.cells zw16 185)) w.heap.size 16 (List.map (Value.int .u32) L)) := (ar_box w _ 16 (by rw [List.length_map, HW.out.len]) _).later (bel1 _ _)
 have HD : Hid (((w.alloc (.cells (List.map (Value.int .u32) L).toArray 185)).alloc (.cells zw16 185)).there (w.heap.size + 1) 0 16) := by have := there_new (w.alloc (.cells (List.map (Value.int .u32) L).toArray 185)) 16 zw16 rfl 185; simpa [Hid] using this
 have HB : Hid (Below w.heap.size w ((w.alloc (.cells (List.map (Value.int .u32) L).toArray 185)).alloc (.cells zw16 185))) := bel2 _ _ _
 generalize (w.alloc (.cells (List.map (Value.int .u32) L).toArray 185)).alloc (.cells zw16 185) = W0 at *
 have k1 : w.heap.size < w.heap.size + 1 := by omega
 generalize w.heap.size + 1 = b1 at *
 obtain ⟨x0, c0, f0, r0, HX0⟩ := ar_word HL.out HW.out 0 (by decide)
 obtain ⟨x1, c1, f1, r1, HX1⟩ := ar_word HL.out HW.out 5 (by decide)
 obtain ⟨x2, c2, f2, r2, HX2⟩ := ar_word HL.out HW.out 10 (by decide)
 obtain ⟨x3, c3, f3, r3, HX3⟩ := ar_word HL.out HW.out 15 (by decide)
 go_wp2_with fail
 refine (quarter_c x0 x1 x2 x3 r0 r1 r2 r3 _).mono ?_
 rintro e V1 ⟨p, q, r, s, rfl, HQ, p0, q0, r0', s0, hb⟩
 have hlt := HL.out.lt (by decide)
 replace c0 := cell_later hb c0
 replace c1 := cell_later hb c1
 replace c2 := cell_later hb c2
 replace c3 := cell_later hb c3
 replace f0 := froz_later hb hlt f0
 replace f1 := froz_later hb hlt f1
 replace f2 := froz_later hb hlt f2
 replace f3 := froz_later hb hlt f3
 replace HL := hidp (HL.out.later hb)
 replace HD : Hid (V1.there b1 0 16) := there_later hb HD.out
 replace HB := hidp (HB.out.trans (hb.mono HB.out.size))
 clear hb hlt r0 r1 r2 r3
 go_upto_region 2 with fail
 obtain ⟨L1, HL1'⟩ : ∃ l, Hid (l = qs 0 5 10 15 L) := ⟨_, rfl⟩
 replace HW : Hid (W16 L1) := by unfold Hid; rw [HL1'.out]; exact qs_w HW.out 0 5 10 15
 replace HL : Hid (Ar ((((V1.setCell ⟨w.heap.size, 0, none⟩ (.int .u32 p)).setCell ⟨w.heap.size, 5, none⟩ (.int .u32 q)).setCell ⟨w.heap.size, 10, none⟩ (.int .u32 r)).setCell ⟨w.heap.size, 15, none⟩ (.int .u32 s)) w.heap.size 16 (List.map (Value.int .u32) L1)) := by
  unfold Hid; rw [HL1'.out]; exact ar_qs HL.out 0 5 10 15 (by decide) (by decide) (by decide) (by decide) HX0.out HX1.out HX2.out HX3.out HQ.out
 replace HD : Hid (((((V1.setCell ⟨w.heap.size, 0, none⟩ (.int .u32 p)).setCell ⟨w.heap.size, 5, none⟩ (.int .u32 q)).setCell ⟨w.heap.size, 10, none⟩ (.int .u32 r)).setCell ⟨w.heap.size, 15, none⟩ (.int .u32 s)).there b1 0 16) := there_set (there_set (there_set (there_set HD.out _ _ _) _ _ _) _ _ _) _ _ _
 replace HB : Hid (Below w.heap.size w ((((V1.setCell ⟨w.heap.size, 0, none⟩ (.int .u32 p)).setCell ⟨w.heap.size, 5, none⟩ (.int .u32 q)).setCell ⟨w.heap.size, 10, none⟩ (.int .u32 r)).setCell ⟨w.heap.size, 15, none⟩ (.int .u32 s))) := (((HB.out.setCell (p := ⟨w.heap.size, 0, none⟩) (Nat.le_refl _) _).setCell (p := ⟨w.heap.size, 5, none⟩) (Nat.le_refl _) _).setCell (p := ⟨w.heap.size, 10, none⟩) (Nat.le_refl _) _).setCell (p := ⟨w.heap.size, 15, none⟩) (Nat.le_refl _) _
 clear c0 c1 c2 c3 f0 f1 f2 f3 HX0 HX1 HX2 HX3 HQ p0 q0 r0' s0
 generalize (((V1.setCell ⟨w.heap.size, 0, none⟩ (.int .u32 p)).setCell ⟨w.heap.size, 5, none⟩ (.int .u32 q)).setCell ⟨w.heap.size, 10, none⟩ (.int .u32 r)).setCell ⟨w.heap.size, 15, none⟩ (.int .u32 s) = W1 at *
 obtain ⟨x0, c0, f0, r0, HX0⟩ := ar_word HL.out HW.out 1 (by decide)
 obtain ⟨x1, c1, f1, r1, HX1⟩ := ar_word HL.out HW.out 6 (by decide)
 obtain ⟨x2, c2, f2, r2, HX2⟩ := ar_word HL.out HW.out 11 (by decide)
 obtain ⟨x3, c3, f3, r3, HX3⟩ := ar_word HL.out HW.out 12 (by decide)
 go_wp2_with fail
 refine (quarter_c x0 x1 x2 x3 r0 r1 r2 r3 _).mono ?_
 rintro e V2 ⟨p, q, r, s, rfl, HQ, p0, q0, r0', s0, hb⟩
 have hlt := HL.out.lt (by decide)
 replace c0 := cell_later hb c0
 replace c1 := cell_later hb c1
 replace c2 := cell_later hb c2
 replace c3 := cell_later hb c3
 replace f0 := froz_later hb hlt f0
 replace f1 := froz_later hb hlt f1
 replace f2 := froz_later hb hlt f2
 replace f3 := froz_later hb hlt f3
 replace HL := hidp (HL.out.later hb)
 replace HD : Hid (V2.there b1 0 16) := there_later hb HD.out
 replace HB := hidp (HB.out.trans (hb.mono HB.out.size))
 clear hb hlt r0 r1 r2 r3
 go_upto_region 3 with fail
 obtain ⟨L2, HL2'⟩ : ∃ l, Hid (l = qs 1 6 11 12 L1) := ⟨_, rfl⟩
 replace HW : Hid (W16 L2) := by unfold Hid; rw [HL2'.out]; exact qs_w HW.out 1 6 11 12
 replace HL : Hid (Ar ((((V2.setCell ⟨w.heap.size, 1, none⟩ (.int .u32 p)).setCell ⟨w.heap.size, 6, none⟩ (.int .u32 q)).setCell ⟨w.heap.size, 11, none⟩ (.int .u32 r)).setCell ⟨w.heap.size, 12, none⟩ (.int .u32 s)) w.heap.size 16 (List.map (Value.int .u32) L2)) := by
  unfold Hid; rw [HL2'.out]; exact ar_qs HL.out 1 6 11 12 (by decide) (by decide) (by decide) (by decide) HX0.out HX1.out HX2.out HX3.out HQ.out
 replace HD : Hid (((((V2.setCell ⟨w.heap.size, 1, none⟩ (.int .u32 p)).setCell ⟨w.heap.size, 6, none⟩ (.int .u32 q)).setCell ⟨w.heap.size, 11, none⟩ (.int .u32 r)).setCell ⟨w.heap.size, 12, none⟩ (.int .u32 s)).there b1 0 16) := there_set (there_set (there_set (there_set HD.out _ _ _) _ _ _) _ _ _) _ _ _
 replace HB : Hid (Below w.heap.size w ((((V2.setCell ⟨w.heap.size, 1, none⟩ (.int .u32 p)).setCell ⟨w.heap.size, 6, none⟩ (.int .u32 q)).setCell ⟨w.heap.size, 11, none⟩ (.int .u32 r)).setCell ⟨w.heap.size, 12, none⟩ (.int .u32 s))) := (((HB.out.setCell (p := ⟨w.heap.size, 1, none⟩) (Nat.le_refl _) _).setCell (p := ⟨w.heap.size, 6, none⟩) (Nat.le_refl _) _).setCell (p := ⟨w.heap.size, 11, none⟩) (Nat.le_refl _) _).setCell (p := ⟨w.heap.size, 12, none⟩) (Nat.le_refl _) _
 clear c0 c1 c2 c3 f0 f1 f2 f3 HX0 HX1 HX2 HX3 HQ p0 q0 r0' s0
 generalize (((V2.setCell ⟨w.heap.size, 1, none⟩ (.int .u32 p)).setCell ⟨w.heap.size, 6, none⟩ (.int .u32 q)).setCell ⟨w.heap.size, 11, none⟩ (.int .u32 r)).setCell ⟨w.heap.size, 12, none⟩ (.int .u32 s) = W2 at *
 obtain ⟨x0, c0, f0, r0, HX0⟩ := ar_word HL.out HW.out 2 (by decide)
 obtain ⟨x1, c1, f1, r1, HX1⟩ := ar_word HL.out HW.out 7 (by decide)
 obtain ⟨x2, c2, f2, r2, HX2⟩ := ar_word HL.out HW.out 8 (by decide)
 obtain ⟨x3, c3, f3, r3, HX3⟩ := ar_word HL.out HW.out 13 (by decide)
 go_wp2_with fail
 refine (quarter_c x0 x1 x2 x3 r0 r1 r2 r3 _).mono ?_
 rintro e V3 ⟨p, q, r, s, rfl, HQ, p0, q0, r0', s0, hb⟩
 have hlt := HL.out.lt (by decide)
 replace c0 := cell_later hb c0
 replace c1 := cell_later hb c1
 replace c2 := cell_later hb c2
 replace c3 := cell_later hb c3
 replace f0 := froz_later hb hlt f0
 replace f1 := froz_later hb hlt f1
 replace f2 := froz_later hb hlt f2
 replace f3 := froz_later hb hlt f3
 replace HL := hidp (HL.out.later hb)
 replace HD : Hid (V3.there b1 0 16) := there_later hb HD.out
 replace HB := hidp (HB.out.trans (hb.mono HB.out.size))
 clear hb hlt r0 r1 r2 r3
 go_upto_region 4 with fail
 obtain ⟨L3, HL3'⟩ : ∃ l, Hid (l = qs 2 7 8 13 L2) := ⟨_, rfl⟩
 replace HW : Hid (W16 L3) := by unfold Hid; rw [HL3'.out]; exact qs_w HW.out 2 7 8 13
 replace HL : Hid (Ar ((((V3.setCell ⟨w.heap.size, 2, none⟩ (.int .u32 p)).setCell ⟨w.heap.size, 7, none⟩ (.int .u32 q)).setCell ⟨w.heap.size, 8, none⟩ (.int .u32 r)).setCell ⟨w.heap.size, 13, none⟩ (.int .u32 s)) w.heap.size 16 (List.map (Value.int .u32) L3)) := by
  unfold Hid; rw [HL3'.out]; exact ar_qs HL.out 2 7 8 13 (by decide) (by decide) (by decide) (by decide) HX0.out HX1.out HX2.out HX3.out HQ.out
 replace HD : Hid (((((V3.setCell ⟨w.heap.size, 2, none⟩ (.int .u32 p)).setCell ⟨w.heap.size, 7, none⟩ (.int .u32 q)).setCell ⟨w.heap.size, 8, none⟩ (.int .u32 r)).setCell ⟨w.heap.size, 13, none⟩ (.int .u32 s)).there b1 0 16) := there_set (there_set (there_set (there_set HD.out _ _ _) _ _ _) _ _ _) _ _ _
 replace HB : Hid (Below w.heap.size w ((((V3.setCell ⟨w.heap.size, 2, none⟩ (.int .u32 p)).setCell ⟨w.heap.size, 7, none⟩ (.int .u32 q)).setCell ⟨w.heap.size, 8, none⟩ (.int .u32 r)).setCell ⟨w.heap.size, 13, none⟩ (.int .u32 s))) := (((HB.out.setCell (p := ⟨w.heap.size, 2, none⟩) (Nat.le_refl _) _).setCell (p := ⟨w.heap.size, 7, none⟩) (Nat.le_refl _) _).setCell (p := ⟨w.heap.size, 8, none⟩) (Nat.le_refl _) _).setCell (p := ⟨w.heap.size, 13, none⟩) (Nat.le_refl _) _
 clear c0 c1 c2 c3 f0 f1 f2 f3 HX0 HX1 HX2 HX3 HQ p0 q0 r0' s0
 generalize (((V3.setCell ⟨w.heap.size, 2, none⟩ (.int .u32 p)).setCell ⟨w.heap.size, 7, none⟩ (.int .u32 q)).setCell ⟨w.heap.size, 8, none⟩ (.int .u32 r)).setCell ⟨w.heap.size, 13, none⟩ (.int .u32 s) = W3 at *
 obtain ⟨x0, c0, f0, r0, HX0⟩ := ar_word HL.out HW.out 3 (by decide)
 obtain ⟨x1, c1, f1, r1, HX1⟩ := ar_word HL.out HW.out 4 (by decide)
 obtain ⟨x2, c2, f2, r2, HX2⟩ := ar_word HL.out HW.out 9 (by decide)
 obtain ⟨x3, c3, f3, r3, HX3⟩ := ar_word HL.out HW.out 14 (by decide)
 go_wp2_with fail
 refine (quarter_c x0 x1 x2 x3 r0 r1 r2 r3 _).mono ?_
 rintro e V4 ⟨p, q, r, s, rfl, HQ, p0, q0, r0', s0, hb⟩
 have hlt := HL.out.lt (by decide)
 replace c0 := cell_later hb c0
 replace c1 := cell_later hb c1
 replace c2 := cell_later hb c2
 replace c3 := cell_later hb c3
 replace f0 := froz_later hb hlt f0
 replace f1 := froz_later hb hlt f1
 replace f2 := froz_later hb hlt f2
 replace f3 := froz_later hb hlt f3
 replace HL := hidp (HL.out.later hb)
 replace HD : Hid (V4.there b1 0 16) := there_later hb HD.out
 replace HB := hidp (HB.out.trans (hb.mono HB.out.size))
 clear hb hlt r0 r1 r2 r3
 go_upto_region 5 with fail
 obtain ⟨L4, HL4'⟩ : ∃ l, Hid (l = qs 3 4 9 14 L3) := ⟨_, rfl⟩
 replace HW : Hid (W16 L4) := by unfold Hid; rw [HL4'.out]; exact qs_w HW.out 3 4 9 14
 replace HL : Hid (Ar ((((V4.setCell ⟨w.heap.size, 3, none⟩ (.int .u32 p)).setCell ⟨w.heap.size, 4, none⟩ (.int .u32 q)).setCell ⟨w.heap.size, 9, none⟩ (.int .u32 r)).setCell ⟨w.heap.size, 14, none⟩ (.int .u32 s)) w.heap.size 16 (List.map (Value.int .u32) L4)) := by
  unfold Hid; rw [HL4'.out]; exact ar_qs HL.out 3 4 9 14 (by decide) (by decide) (by decide) (by decide) HX0.out HX1.out HX2.out HX3.out HQ.out
 replace HD : Hid (((((V4.setCell ⟨w.heap.size, 3, none⟩ (.int .u32 p)).setCell ⟨w.heap.size, 4, none⟩ (.int .u32 q)).setCell ⟨w.heap.size, 9, none⟩ (.int .u32 r)).setCell ⟨w.heap.size, 14, none⟩ (.int .u32 s)).there b1 0 16) := there_set (there_set (there_set (there_set HD.out _ _ _) _ _ _) _ _ _) _ _ _
 replace HB : Hid (Below w.heap.size w ((((V4.setCell ⟨w.heap.size, 3, none⟩ (.int .u32 p)).setCell ⟨w.heap.size, 4, none⟩ (.int .u32 q)).setCell ⟨w.heap.size, 9, none⟩ (.int .u32 r)).setCell ⟨w.heap.size, 14, none⟩ (.int .u32 s))) := (((HB.out.setCell (p := ⟨w.heap.size, 3, none⟩) (Nat.le_refl _) _).setCell (p := ⟨w.heap.size, 4, none⟩) (Nat.le_refl _) _).setCell (p := ⟨w.heap.size, 9, none⟩) (Nat.le_refl _) _).setCell (p := ⟨w.heap.size, 14, none⟩) (Nat.le_refl _) _
 clear c0 c1 c2 c3 f0 f1 f2 f3 HX0 HX1 HX2 HX3 HQ p0 q0 r0' s0
 generalize (((V4.setCell ⟨w.heap.size, 3, none⟩ (.int .u32 p)).setCell ⟨w.heap.size, 4, none⟩ (.int .u32 q)).setCell ⟨w.heap.size, 9, none⟩ (.int .u32 r)).setCell ⟨w.heap.size, 14, none⟩ (.int .u32 s) = W4 at *
 have HE : Hid (L4 = cr L) := by unfold Hid; rw [HL4'.out, HL3'.out, HL2'.out, HL1'.out]; rfl
 clear HL4' HL3' HL2' HL1'
 obtain ⟨hlen, hone, hi⟩ := w16_cells HW.out
 generalize hcs : (List.map (Value.int .u32) L4) = cs at *
 have HC : Hid ((List.map (Value.int .u32) L4) = cs) := hcs
 clear hcs
 go_wp2_with (first
  | (refine wpList_load_mid rfl 185 (.tmp 1) rfl (w.heap.size) 0 rfl cs _ HL.out.rng Tryz.underlying185 rfl hi ?_)
  | (refine wpList_store_mid rfl 185 (.tmp 2) (.tmp 75) rfl b1 0 cs.toArray rfl rfl (by simpa [hlen] using HD.out) (by simpa using hi) (all_oneCell_toArray hone) ?_))
 have HR2 : Hid ((W4.setCells b1 0 cs).rangeAt b1 0 cs) := World.rangeAt_setCells_same _ _ _ _ (by rw [hlen]; exact HD.out)
 have hld := run_loadVar_mid (P := Tryz.prog) _ _ 0 185 _ _ HR2.out Tryz.underlying185 rfl hi
 exact bodyPost_ret (v := .agg cs.toArray) (by simp [results, Tryz.results147]; exact hld) rfl ⟨L4, by rw [HC.out], HE, HW.out, below_setCells _ (by omega) _ _ _ HB.out⟩
end Go.Proofs.YtlnbjehimabaiaaGreatDoor
