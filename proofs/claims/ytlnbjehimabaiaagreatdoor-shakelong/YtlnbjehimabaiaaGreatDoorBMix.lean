/-
  What blake's mixed does: one round over sixteen words. No statement of the seat is proved here.
-/
import Derived.Test.YtlnbjehimabaiaaGreatDoorPk1
import Derived.Test.YtlnbjehimabaiaaGreatDoorPk5
namespace Go.Proofs.YtlnbjehimabaiaaGreatDoor
open Go.RowKit
set_option maxRecDepth 8000

theorem ws_cells {L : List Int} (h : Wn 16 L) : (List.map (Value.int .u32) L).length = 16 ∧ (∀ v ∈ (List.map (Value.int .u32) L), v.oneCell' = true) ∧ (Tryz.prog.info? 199).map (·.size) = some (List.map (Value.int .u32) L).length := by
  have e := h.map_len
  exact ⟨e, ints_oneCell _ _, by rw [e]; kernel_rfl⟩
structure Mx (w : World) (q1 q2 q3 : Nat) (L M : List Int) (s : List Nat) (u : World) : Prop where
  v : Ar u w.heap.size 16 (List.map (Value.int .u32) L)
  m : Ar u q1 16 (List.map (Value.int .u32) M)
  s : Ar u q2 16 (List.map nb8 s)
  res : u.there q3 0 16
  bel : Below w.heap.size w u
theorem Mx.later {w : World} {q1 q2 q3 : Nat} {L M : List Int} {s : List Nat} {u v : World} (h : Mx w q1 q2 q3 L M s u) (hb : Below u.heap.size u v) : Mx w q1 q2 q3 L M s v := ⟨h.v.later hb, h.m.later hb, h.s.later hb, there_later hb h.res, h.bel.trans (hb.mono h.bel.size)⟩
theorem Mx.mixed {w : World} {q1 q2 q3 : Nat} {L M : List Int} {s : List Nat} {u : World} (h : Mx w q1 q2 q3 L M s u) (h1 : w.heap.size < q1) (h2 : w.heap.size < q2) (_h3 : w.heap.size < q3) (i j k m : Nat) (hi : i < 16) (hj : j < 16) (hk : k < 16) (hm : m < 16) {x0 x1 x2 x3 x y p q r t : Int} (e0 : x0 = L[i]!) (e1 : x1 = L[j]!) (e2 : x2 = L[k]!) (e3 : x3 = L[m]!) (hq : (p, q, r, t) = mg7 x0 x1 x2 x3 x y) :
    Mx w q1 q2 q3 (bg7 L i j k m x y) M s ((((u.setCell ⟨w.heap.size, i, none⟩ (.int .u32 p)).setCell ⟨w.heap.size, j, none⟩ (.int .u32 q)).setCell ⟨w.heap.size, k, none⟩ (.int .u32 r)).setCell ⟨w.heap.size, m, none⟩ (.int .u32 t)) :=
  ⟨ar_bg h.v i j k m hi hj hk hm e0 e1 e2 e3 hq, (((h.m.else _ _ (by omega) _).else _ _ (by omega) _).else _ _ (by omega) _).else _ _ (by omega) _, (((h.s.else _ _ (by omega) _).else _ _ (by omega) _).else _ _ (by omega) _).else _ _ (by omega) _, there_set (there_set (there_set (there_set h.res _ _ _) _ _ _) _ _ _) _ _ _,
   (((h.bel.setCell (p := ⟨w.heap.size, i, none⟩) (Nat.le_refl _) _).setCell (p := ⟨w.heap.size, j, none⟩) (Nat.le_refl _) _).setCell (p := ⟨w.heap.size, k, none⟩) (Nat.le_refl _) _).setCell (p := ⟨w.heap.size, m, none⟩) (Nat.le_refl _) _⟩

def codeAt : Nat → Code → Code
  | n + 1, .seq _ b => codeAt n b
  | _, c => c
def bodyAt (n : Nat) : Option Code → Code
  | some c => codeAt n c
  | none => .region 0 #[] false
theorem cast_code {P : Program} {c c' : Code} {Q : Exit → Act → World → Prop} {a : Act} {w : World} (h : c = c') (H : Code.wp P c Q a w) : Code.wp P c' Q a w := h ▸ H

def headOf : Code → Code
  | .seq a _ => a
  | c => c
def mixAt (b : Option Code) (n : Nat) : Code := headOf (bodyAt n b)
def mixT (b : Option Code) : List (Code × Nat × Nat × Nat × Nat × Nat × Nat × Nat) := [(mixAt b 1, 7, 0, 4, 8, 12, 0, 1), (mixAt b 2, 33, 1, 5, 9, 13, 2, 3), (mixAt b 3, 59, 2, 6, 10, 14, 4, 5), (mixAt b 4, 85, 3, 7, 11, 15, 6, 7), (mixAt b 5, 111, 0, 5, 10, 15, 8, 9), (mixAt b 6, 137, 1, 6, 11, 12, 10, 11), (mixAt b 7, 163, 2, 7, 8, 13, 12, 13), (mixAt b 8, 189, 3, 4, 9, 14, 14, 15)]
set_option maxHeartbeats 16000000 in
theorem mix_reg (r : Nat) {c : Code} {B i j k m e f : Nat} (ht : (mixT Tryz.f167.body)[r]? = some (c, B, i, j, k, m, e, f)) {L M : List Int} {s : List Nat} {w wc : World} {q1 q2 q3 : Nat} {a : Act} {Q : Exit → Act → World → Prop} (HWM : Hid (Wn 16 M)) (HSO : Hid (So s)) (k1 : w.heap.size < q1) (k2 : w.heap.size < q2) (k3 : w.heap.size < q3)
    (HW : Hid (Wn 16 L)) (HM : Hid (Mx w q1 q2 q3 L M s wc)) (hz : a.tmps.size = 216) (e3 : a.eval (.tmp 3) = .pointer (some ⟨w.heap.size, 0, none⟩)) (e4 : a.eval (.tmp 4) = .pointer (some ⟨q1, 0, none⟩)) (e5 : a.eval (.tmp 5) = .pointer (some ⟨q2, 0, none⟩))
    (h : ∀ (wx : World) (L' : List Int) (z0 z1 z2 z3 z4 z5 z6 z7 z8 z9 z10 z11 z12 z13 z14 z15 z16 z17 z18 z19 z20 z21 z22 z23 z24 z25 : Value), Hid (L' = bg7 L i j k m M[s[e]!]! M[s[f]!]!) → Hid (Wn 16 L') → Hid (Mx w q1 q2 q3 L' M s wx) → Q .normal ((((((((((((((((((((((((((a.put (some (B + 1)) z0).put (some (B + 2)) z1).put (some (B + 3)) z2).put (some (B + 4)) z3).put (some (B + 5)) z4).put (some (B + 6)) z5).put (some (B + 7)) z6).put (some (B + 8)) z7).put (some (B + 9)) z8).put (some (B + 10)) z9).put (some (B + 11)) z10).put (some (B + 12)) z11).put (some (B + 13)) z12).put (some (B + 14)) z13).put (some (B + 15)) z14).put (some (B + 16)) z15).put (some (B + 17)) z16).put (some B) z17).put (some (B + 18)) z18).put (some (B + 19)) z19).put (some (B + 20)) z20).put (some (B + 21)) z21).put (some (B + 22)) z22).put (some (B + 23)) z23).put (some (B + 24)) z24).put (some (B + 25)) z25) wx) :
    c.wp Tryz.prog Q a wc := by
  have g3 : ∀ h : 3 < a.tmps.size, a.tmps[3] = .pointer (some ⟨w.heap.size, 0, none⟩) := fun h => by rw [← e3]; simp [Act.eval, h]
  have g4 : ∀ h : 4 < a.tmps.size, a.tmps[4] = .pointer (some ⟨q1, 0, none⟩) := fun h => by rw [← e4]; simp [Act.eval, h]
  have g5 : ∀ h : 5 < a.tmps.size, a.tmps[5] = .pointer (some ⟨q2, 0, none⟩) := fun h => by rw [← e5]; simp [Act.eval, h]
  have gs : ∀ (t : Array Value) (v : Value) (i j : Nat) (h : j < (t.setIfInBounds i v).size), (t.setIfInBounds i v)[j] = if i = j then v else t[j]'(by simpa using h) := fun t v i j h => Array.getElem_setIfInBounds ..
  clear e3 e4 e5
  have hr : r < 8 := by
    have := (List.getElem?_eq_some_iff.1 ht).1
    simpa [mixT] using this
  simp only [Act.put] at h
  obtain rfl | rfl | rfl | rfl | rfl | rfl | rfl | rfl : r = 0 ∨ r = 1 ∨ r = 2 ∨ r = 3 ∨ r = 4 ∨ r = 5 ∨ r = 6 ∨ r = 7 := by omega
  all_goals
    simp only [mixT, List.getElem?_cons_zero, List.getElem?_cons_succ, Option.some.injEq, Prod.mk.injEq] at ht
    obtain ⟨rfl, hB, hi, hj, hk, hm, he, hf⟩ := ht
    obtain ⟨x0, c0, f0, r0, HX0⟩ := wn_word HM.out.v HW.out i (by omega)
    obtain ⟨x1, c1, f1, r1, HX1⟩ := wn_word HM.out.v HW.out j (by omega)
    obtain ⟨x2, c2, f2, r2, HX2⟩ := wn_word HM.out.v HW.out k (by omega)
    obtain ⟨x3, c3, f3, r3, HX3⟩ := wn_word HM.out.v HW.out m (by omega)
    have t0 := so_cell HM.out.s HSO.out e (by omega)
    have t1 := so_cell HM.out.s HSO.out f (by omega)
    have l0 := HSO.out.lt e
    have l1 := HSO.out.lt f
    obtain ⟨n0, hn0⟩ : ∃ n : Nat, n = s[e]! := ⟨_, rfl⟩
    rw [← hn0] at t0 l0
    have HN0 : Hid (n0 = s[e]!) := hn0
    clear hn0
    obtain ⟨y0, d0, -, ry0, HY0⟩ := wn_word HM.out.m HWM.out n0 l0
    have g0 : (n0 : Int) < 16 := by omega
    obtain ⟨n1, hn1⟩ : ∃ n : Nat, n = s[f]! := ⟨_, rfl⟩
    rw [← hn1] at t1 l1
    have HN1 : Hid (n1 = s[f]!) := hn1
    clear hn1
    obtain ⟨y1, d1, -, ry1, HY1⟩ := wn_word HM.out.m HWM.out n1 l1
    have g1 : (n1 : Int) < 16 := by omega
    have xc0 : ∀ u, Ext wc u → u.cell? ⟨w.heap.size, i, none⟩ = some (.int .u32 x0) := fun u hu => hu.cell c0
    have xc1 : ∀ u, Ext wc u → u.cell? ⟨w.heap.size, j, none⟩ = some (.int .u32 x1) := fun u hu => hu.cell c1
    have xc2 : ∀ u, Ext wc u → u.cell? ⟨w.heap.size, k, none⟩ = some (.int .u32 x2) := fun u hu => hu.cell c2
    have xc3 : ∀ u, Ext wc u → u.cell? ⟨w.heap.size, m, none⟩ = some (.int .u32 x3) := fun u hu => hu.cell c3
    have xt0 : ∀ u, Ext wc u → u.cell? ⟨q2, e, none⟩ = some (.int .u8 n0) := fun u hu => hu.cell t0
    have xt1 : ∀ u, Ext wc u → u.cell? ⟨q2, f, none⟩ = some (.int .u8 n1) := fun u hu => hu.cell t1
    have xd0 : ∀ u, Ext wc u → u.cell? ⟨q1, n0, none⟩ = some (.int .u32 y0) := fun u hu => hu.cell d0
    have xd1 : ∀ u, Ext wc u → u.cell? ⟨q1, n1, none⟩ = some (.int .u32 y1) := fun u hu => hu.cell d1
    have hlt := HM.out.v.lt (by decide)
    clear t0 t1 d0 d1
    subst hB hi hj hk hm he hf
    delta mixAt Tryz.f167
    dsimp only [headOf, bodyAt, codeAt]
    refine wp_region_noPanic ?_
    refine wp_region_two (k := 23) (Ext wc) (ExtB w.heap.size wc) (by kernel_rfl) (Ext.refl _).drew (fun hH => ?_)
    change wpAnyK _ _ _ _ _ _ _ _ #[false, false, false, false, false, false, false, false, false, false, false, false, false, false, false, false, false, false, false, false, false, false, false, false, false, false, false, false, false, false] _ _
    refine tna 0 ?_
    refine tna 1 ?_ (hy := by (intro u hu; (have hx := xc0 u hu; go_simp) <;> with_reducible rfl))
    refine tna 2 ?_
    refine tna 3 ?_ (hy := by (intro u hu; (have hx := xc1 u hu; go_simp) <;> with_reducible rfl))
    refine tna 4 ?_
    refine tna 5 ?_ (hy := by (intro u hu; (have hx := xc2 u hu; go_simp) <;> with_reducible rfl))
    refine tna 6 ?_
    refine tna 7 ?_ (hy := by (intro u hu; (have hx := xc3 u hu; go_simp) <;> with_reducible rfl))
    refine tna 8 ?_
    refine tna 9 ?_ (hy := by (intro u hu; (have hx := xt0 u hu; go_simp) <;> with_reducible rfl))
    refine tna 10 ?_
    refine tna 11 ?_ (hy := by (intro u hu; (have hx := xd0 u hu; go_simp) <;> with_reducible rfl))
    refine tna 12 ?_
    refine tna 13 ?_ (hy := by (intro u hu; (have hx := xt1 u hu; go_simp) <;> with_reducible rfl))
    refine tna 14 ?_
    refine tna 15 ?_ (hy := by (intro u hu; (have hx := xd1 u hu; go_simp) <;> with_reducible rfl))
    clear xc0 xc1 xc2 xc3 xt0 xt1 xd0 xd1
    refine rdk 16 (fun K hK => ?_)
    go_simp
    refine (quarter7_c x0 x1 x2 x3 y0 y1 r0 r1 r2 r3 ry0 ry1 _).mono ?_
    rintro e V ⟨p, q, r, t, rfl, HQ, -, -, -, -, hb⟩
    refine ko1 hK (hH.trans hb) fun hH => ?_; clear hK K
    refine tna 17 ?_
    refine tna 18 ?_
    refine tnk 19 (fun _ h => h.extB _) ?_
    refine tnk 20 (fun _ h => h.extB _) ?_
    refine tnk 21 (fun _ h => h.extB _) ?_
    refine tna 22 ?_
    replace HM := HM.out.later hH
    replace c0 := cell_later hH c0
    replace f0 := froz_later hH hlt f0
    replace c1 := cell_later hH c1
    replace f1 := froz_later hH hlt f1
    replace c2 := cell_later hH c2
    replace f2 := froz_later hH hlt f2
    replace c3 := cell_later hH c3
    replace f3 := froz_later hH hlt f3
    clear hb
    refine rdl 23 (fun K hK => ?_)
    go_simp
    refine ko hK ((hH.extB _).set _ _) fun hH => ?_; clear hK K
    refine tn 24 ?_
    refine rdy 25 (fun K hK => ?_)
    go_simp
    refine ko hK (hH.set _ _) fun hH => ?_; clear hK K
    refine tn 26 ?_
    refine rdy 27 (fun K hK => ?_)
    go_simp
    refine ko hK (hH.set _ _) fun hH => ?_; clear hK K
    refine tn 28 ?_
    refine rdy 29 (fun K hK => ?_)
    go_simp
    refine ko hK (hH.set _ _) fun hH => ?_; clear hK K
    refine wpAnyH_done (by kernel_rfl) ?_ _
    refine NoPanic.normal ?_
    exact h _ _ _ _ _ _ _ _ _ _ _ _ _ _ _ _ _ _ _ _ _ _ _ _ _ _ _ _ (by unfold Hid; rw [HY0.out, HY1.out, HN0.out, HN1.out]) (bg7_w HW.out _ _ _ _ _ _) (HM.mixed k1 k2 k3 _ _ _ _ (by decide) (by decide) (by decide) (by decide) HX0.out HX1.out HX2.out HX3.out HQ.out)
set_option maxHeartbeats 8000000 in
theorem mixed_c (L M : List Int) (s : List Nat) (hL : Wn 16 L) (hM : Wn 16 M) (hs : So s) (w : World) :
    Calls Tryz.prog 167 #[(.agg (List.map (Value.int .u32) L).toArray), (.agg (List.map (Value.int .u32) M).toArray), .agg (List.map nb8 s).toArray] w fun e w' => ∃ L', e = .returned (.agg (List.map (Value.int .u32) L').toArray) ∧ Hid (L' = gs7 M s L 8) ∧ Wn 16 L' ∧ Below w.heap.size w w' := by
  have HW : Hid (Wn 16 L) := hL
  have HWM : Hid (Wn 16 M) := hM
  have HSO : Hid (So s) := hs
  clear hL hM hs
  go_enter Tryz.func167, Tryz.ntmps167
  go_upto_region 1 with fail
  obtain ⟨wc, hwc⟩ : ∃ W, W = (((w.alloc (.cells (List.map (Value.int .u32) L).toArray 199)).alloc (.cells (List.map (Value.int .u32) M).toArray 199)).alloc (.cells (List.map nb8 s).toArray 122)).alloc (.cells zw16 199) := ⟨_, rfl⟩
  obtain ⟨q1, hq1⟩ : ∃ q, q = w.heap.size + 1 := ⟨_, rfl⟩
  obtain ⟨q2, hq2⟩ : ∃ q, q = w.heap.size + 1 + 1 := ⟨_, rfl⟩
  obtain ⟨q3, hq3⟩ : ∃ q, q = w.heap.size + 1 + 1 + 1 := ⟨_, rfl⟩
  rw [← hq3, ← hq2, ← hq1, ← hwc]
  have HM : Hid (Mx w q1 q2 q3 L M s wc) := by
    unfold Hid
    rw [hwc, hq1, hq2, hq3]
    refine ⟨(ar_box w _ 16 HW.out.map_len _).later (bel3 _ _ _ _), ?_, ?_, ?_, bel4' _ _ _ _ _⟩
    · have := (ar_box (w.alloc (.cells (List.map (Value.int .u32) L).toArray 199)) _ 16 HWM.out.map_len 199).later (bel2 _ (.cells (List.map nb8 s).toArray 122) (.cells zw16 199)); simpa using this
    · have := (ar_box ((w.alloc (.cells (List.map (Value.int .u32) L).toArray 199)).alloc (.cells (List.map (Value.int .u32) M).toArray 199)) (List.map nb8 s) 16 (by rw [List.length_map, HSO.out.len]) 122).later (bel1 _ (.cells zw16 199)); simpa using this
    · have := there_new (((w.alloc (.cells (List.map (Value.int .u32) L).toArray 199)).alloc (.cells (List.map (Value.int .u32) M).toArray 199)).alloc (.cells (List.map nb8 s).toArray 122)) 16 zw16 rfl 199; simpa using this
  have k1 : w.heap.size < q1 := by omega
  have k2 : w.heap.size < q2 := by omega
  have k3 : w.heap.size < q3 := by omega
  have k0 : w.heap.size ≠ q2 := by omega
  clear hwc hq1 hq2 hq3
  have HL : Hid (L = gs7 M s L 0) := rfl
  go_upto_region 1 with fail
  go_cut [] from 7 (fun wx => ∃ L1 : List Int, Hid (L1 = gs7 M s L 1) ∧ Hid (Wn 16 L1) ∧ Hid (Mx w q1 q2 q3 L1 M s wx))
  case first =>
   as_aux_lemma =>
    refine mix_reg 0 (B := 7) (i := 0) (j := 4) (k := 8) (m := 12) (e := 0) (f := 1) (by kernel_rfl) HWM HSO k1 k2 k3 HW HM rfl rfl rfl rfl (fun wx L' z0 z1 z2 z3 z4 z5 z6 z7 z8 z9 z10 z11 z12 z13 z14 z15 z16 z17 z18 z19 z20 z21 z22 z23 z24 z25 HL' HW' HM' => ?_)
    simp only [Act.put, List.setIfInBounds_toArray, List.set_cons_zero, List.set_cons_succ]
    go_wp2_with fail
    go_meet
    case rel => exact ⟨L', by unfold Hid; rw [HL'.out, HL.out]; rfl, HW', HM'⟩
  case rest =>
  obtain ⟨L1, HL, HW, HM⟩ := hcut
  go_upto_region 2 with fail
  go_cut [] from 7 (fun wx => ∃ L2 : List Int, Hid (L2 = gs7 M s L 2) ∧ Hid (Wn 16 L2) ∧ Hid (Mx w q1 q2 q3 L2 M s wx))
  case first =>
   as_aux_lemma =>
    refine mix_reg 1 (B := 33) (i := 1) (j := 5) (k := 9) (m := 13) (e := 2) (f := 3) (by kernel_rfl) HWM HSO k1 k2 k3 HW HM rfl rfl rfl rfl (fun wx L' z0 z1 z2 z3 z4 z5 z6 z7 z8 z9 z10 z11 z12 z13 z14 z15 z16 z17 z18 z19 z20 z21 z22 z23 z24 z25 HL' HW' HM' => ?_)
    simp only [Act.put, List.setIfInBounds_toArray, List.set_cons_zero, List.set_cons_succ]
    go_wp2_with fail
    go_meet
    case rel => exact ⟨L', by unfold Hid; rw [HL'.out, HL.out]; rfl, HW', HM'⟩
  case rest =>
  obtain ⟨L2, HL, HW, HM⟩ := hcut
  go_upto_region 3 with fail
  go_cut [] from 7 (fun wx => ∃ L3 : List Int, Hid (L3 = gs7 M s L 3) ∧ Hid (Wn 16 L3) ∧ Hid (Mx w q1 q2 q3 L3 M s wx))
  case first =>
   as_aux_lemma =>
    refine mix_reg 2 (B := 59) (i := 2) (j := 6) (k := 10) (m := 14) (e := 4) (f := 5) (by kernel_rfl) HWM HSO k1 k2 k3 HW HM rfl rfl rfl rfl (fun wx L' z0 z1 z2 z3 z4 z5 z6 z7 z8 z9 z10 z11 z12 z13 z14 z15 z16 z17 z18 z19 z20 z21 z22 z23 z24 z25 HL' HW' HM' => ?_)
    simp only [Act.put, List.setIfInBounds_toArray, List.set_cons_zero, List.set_cons_succ]
    go_wp2_with fail
    go_meet
    case rel => exact ⟨L', by unfold Hid; rw [HL'.out, HL.out]; rfl, HW', HM'⟩
  case rest =>
  obtain ⟨L3, HL, HW, HM⟩ := hcut
  go_upto_region 4 with fail
  go_cut [] from 7 (fun wx => ∃ L4 : List Int, Hid (L4 = gs7 M s L 4) ∧ Hid (Wn 16 L4) ∧ Hid (Mx w q1 q2 q3 L4 M s wx))
  case first =>
   as_aux_lemma =>
    refine mix_reg 3 (B := 85) (i := 3) (j := 7) (k := 11) (m := 15) (e := 6) (f := 7) (by kernel_rfl) HWM HSO k1 k2 k3 HW HM rfl rfl rfl rfl (fun wx L' z0 z1 z2 z3 z4 z5 z6 z7 z8 z9 z10 z11 z12 z13 z14 z15 z16 z17 z18 z19 z20 z21 z22 z23 z24 z25 HL' HW' HM' => ?_)
    simp only [Act.put, List.setIfInBounds_toArray, List.set_cons_zero, List.set_cons_succ]
    go_wp2_with fail
    go_meet
    case rel => exact ⟨L', by unfold Hid; rw [HL'.out, HL.out]; rfl, HW', HM'⟩
  case rest =>
  obtain ⟨L4, HL, HW, HM⟩ := hcut
  go_upto_region 5 with fail
  go_cut [] from 7 (fun wx => ∃ L5 : List Int, Hid (L5 = gs7 M s L 5) ∧ Hid (Wn 16 L5) ∧ Hid (Mx w q1 q2 q3 L5 M s wx))
  case first =>
   as_aux_lemma =>
    refine mix_reg 4 (B := 111) (i := 0) (j := 5) (k := 10) (m := 15) (e := 8) (f := 9) (by kernel_rfl) HWM HSO k1 k2 k3 HW HM rfl rfl rfl rfl (fun wx L' z0 z1 z2 z3 z4 z5 z6 z7 z8 z9 z10 z11 z12 z13 z14 z15 z16 z17 z18 z19 z20 z21 z22 z23 z24 z25 HL' HW' HM' => ?_)
    simp only [Act.put, List.setIfInBounds_toArray, List.set_cons_zero, List.set_cons_succ]
    go_wp2_with fail
    go_meet
    case rel => exact ⟨L', by unfold Hid; rw [HL'.out, HL.out]; rfl, HW', HM'⟩
  case rest =>
  obtain ⟨L5, HL, HW, HM⟩ := hcut
  go_upto_region 6 with fail
  go_cut [] from 7 (fun wx => ∃ L6 : List Int, Hid (L6 = gs7 M s L 6) ∧ Hid (Wn 16 L6) ∧ Hid (Mx w q1 q2 q3 L6 M s wx))
  case first =>
   as_aux_lemma =>
    refine mix_reg 5 (B := 137) (i := 1) (j := 6) (k := 11) (m := 12) (e := 10) (f := 11) (by kernel_rfl) HWM HSO k1 k2 k3 HW HM rfl rfl rfl rfl (fun wx L' z0 z1 z2 z3 z4 z5 z6 z7 z8 z9 z10 z11 z12 z13 z14 z15 z16 z17 z18 z19 z20 z21 z22 z23 z24 z25 HL' HW' HM' => ?_)
    simp only [Act.put, List.setIfInBounds_toArray, List.set_cons_zero, List.set_cons_succ]
    go_wp2_with fail
    go_meet
    case rel => exact ⟨L', by unfold Hid; rw [HL'.out, HL.out]; rfl, HW', HM'⟩
  case rest =>
  obtain ⟨L6, HL, HW, HM⟩ := hcut
  go_upto_region 7 with fail
  go_cut [] from 7 (fun wx => ∃ L7 : List Int, Hid (L7 = gs7 M s L 7) ∧ Hid (Wn 16 L7) ∧ Hid (Mx w q1 q2 q3 L7 M s wx))
  case first =>
   as_aux_lemma =>
    refine mix_reg 6 (B := 163) (i := 2) (j := 7) (k := 8) (m := 13) (e := 12) (f := 13) (by kernel_rfl) HWM HSO k1 k2 k3 HW HM rfl rfl rfl rfl (fun wx L' z0 z1 z2 z3 z4 z5 z6 z7 z8 z9 z10 z11 z12 z13 z14 z15 z16 z17 z18 z19 z20 z21 z22 z23 z24 z25 HL' HW' HM' => ?_)
    simp only [Act.put, List.setIfInBounds_toArray, List.set_cons_zero, List.set_cons_succ]
    go_wp2_with fail
    go_meet
    case rel => exact ⟨L', by unfold Hid; rw [HL'.out, HL.out]; rfl, HW', HM'⟩
  case rest =>
  obtain ⟨L7, HL, HW, HM⟩ := hcut
  go_upto_region 8 with fail
  go_cut [] from 7 (fun wx => ∃ L8 : List Int, Hid (L8 = gs7 M s L 8) ∧ Hid (Wn 16 L8) ∧ Hid (Mx w q1 q2 q3 L8 M s wx))
  case first =>
   as_aux_lemma =>
    refine mix_reg 7 (B := 189) (i := 3) (j := 4) (k := 9) (m := 14) (e := 14) (f := 15) (by kernel_rfl) HWM HSO k1 k2 k3 HW HM rfl rfl rfl rfl (fun wx L' z0 z1 z2 z3 z4 z5 z6 z7 z8 z9 z10 z11 z12 z13 z14 z15 z16 z17 z18 z19 z20 z21 z22 z23 z24 z25 HL' HW' HM' => ?_)
    simp only [Act.put, List.setIfInBounds_toArray, List.set_cons_zero, List.set_cons_succ]
    go_wp2_with fail
    go_meet
    case rel => exact ⟨L', by unfold Hid; rw [HL'.out, HL.out]; rfl, HW', HM'⟩
  case rest =>
  obtain ⟨L8, HL, HW, HM⟩ := hcut
  obtain ⟨hlen, hone, hi⟩ := ws_cells HW.out
  obtain ⟨cs, hcs⟩ : ∃ cs, cs = (List.map (Value.int .u32) L8) := ⟨_, rfl⟩
  have HC : Hid (cs = (List.map (Value.int .u32) L8)) := hcs
  rw [← hcs] at hlen hone hi
  clear hcs
  have hrg : wc.rangeAt w.heap.size 0 cs := by rw [HC.out]; exact HM.out.v.rng
  have hth := HM.out.res
  go_wp2_with (first
    | (refine wpList_load_mid rfl 199 (.tmp 3) rfl w.heap.size 0 rfl cs _ hrg Tryz.underlying199 rfl hi ?_)
    | (refine wpList_store_mid rfl 199 (.tmp 6) (.tmp 215) rfl q3 0 cs.toArray rfl rfl (by simpa [hlen] using hth) (by simpa using hi) (all_oneCell_toArray hone) ?_))
  have HR2 : Hid ((wc.setCells q3 0 cs).rangeAt q3 0 cs) := World.rangeAt_setCells_same _ _ _ _ (by rw [hlen]; exact hth)
  have hld := run_loadVar_mid (P := Tryz.prog) _ _ 0 199 _ _ HR2.out Tryz.underlying199 rfl hi
  exact bodyPost_ret (v := .agg cs.toArray) (by simp [results]; exact hld) rfl ⟨L8, by rw [HC.out], HL, HW.out, below_setCells _ (by omega) _ _ _ HM.out.bel⟩
end Go.Proofs.YtlnbjehimabaiaaGreatDoor
