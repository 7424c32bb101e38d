/-
  What blake's mixed does: one round over sixteen words. No statement of the seat is proved here.
-/
import Derived.Test.YtmibjgkakolhiaaGreatDoorPk4
namespace Go.Proofs.YtmibjgkakolhiaaGreatDoor
open Go.RowKit

set_option maxRecDepth 8000 in
theorem ws_cells {L : List Int} (h : Wn 16 L) : (List.map (Value.int .u32) L).length = 16 ∧ (∀ v ∈ (List.map (Value.int .u32) L), v.oneCell' = true) ∧ (Tryz.prog.info? 102).map (·.size) = some (List.map (Value.int .u32) L).length := by
  have e := h.map_len
  exact ⟨e, ints_oneCell _ _, by rw [e]; kernel_rfl⟩
structure Mx (w : World) (q1 q2 q3 : Nat) (L M : List Int) (s : List Nat) (u : World) : Prop where
  v : Ar u w.heap.size 16 (List.map (Value.int .u32) L)
  m : Ar u q1 16 (List.map (Value.int .u32) M)
  s : Ar u q2 16 (List.map nb8 s)
  res : u.there q3 0 16
  bel : Below w.heap.size w u
set_option maxRecDepth 8000 in
theorem Mx.later {w : World} {q1 q2 q3 : Nat} {L M : List Int} {s : List Nat} {u v : World} (h : Mx w q1 q2 q3 L M s u) (hb : Below u.heap.size u v) : Mx w q1 q2 q3 L M s v := ⟨h.v.later hb, h.m.later hb, h.s.later hb, there_later hb h.res, h.bel.trans (hb.mono h.bel.size)⟩
set_option maxRecDepth 8000 in
theorem Mx.mixed {w : World} {q1 q2 q3 : Nat} {L M : List Int} {s : List Nat} {u : World} (h : Mx w q1 q2 q3 L M s u) (h1 : w.heap.size < q1) (h2 : w.heap.size < q2) (_h3 : w.heap.size < q3) (i j k m : Nat) (hi : i < 16) (hj : j < 16) (hk : k < 16) (hm : m < 16) {x0 x1 x2 x3 x y p q r t : Int} (e0 : x0 = L[i]!) (e1 : x1 = L[j]!) (e2 : x2 = L[k]!) (e3 : x3 = L[m]!) (hq : (p, q, r, t) = mg7 x0 x1 x2 x3 x y) :
    Mx w q1 q2 q3 (bg7 L i j k m x y) M s ((((u.setCell ⟨w.heap.size, i, none⟩ (.int .u32 p)).setCell ⟨w.heap.size, j, none⟩ (.int .u32 q)).setCell ⟨w.heap.size, k, none⟩ (.int .u32 r)).setCell ⟨w.heap.size, m, none⟩ (.int .u32 t)) :=
  ⟨ar_bg h.v i j k m hi hj hk hm e0 e1 e2 e3 hq, (((h.m.else _ _ (by omega) _).else _ _ (by omega) _).else _ _ (by omega) _).else _ _ (by omega) _, (((h.s.else _ _ (by omega) _).else _ _ (by omega) _).else _ _ (by omega) _).else _ _ (by omega) _, there_set (there_set (there_set (there_set h.res _ _ _) _ _ _) _ _ _) _ _ _,
   (((h.bel.setCell (p := ⟨w.heap.size, i, none⟩) (Nat.le_refl _) _).setCell (p := ⟨w.heap.size, j, none⟩) (Nat.le_refl _) _).setCell (p := ⟨w.heap.size, k, none⟩) (Nat.le_refl _) _).setCell (p := ⟨w.heap.size, m, none⟩) (Nat.le_refl _) _⟩

def codeAt : Nat → Code → Code
  | n + 1, .seq _ b => codeAt n b
  | _, c => c
def bodyAt (n : Nat) : Option Code → Code
  | some c => codeAt n c
  | none => .region 0 #[] false
set_option maxRecDepth 8000 in
theorem cast_code {P : Program} {c c' : Code} {Q : Exit → Act → World → Prop} {a : Act} {w : World} (h : c = c') (H : Code.wp P c Q a w) : Code.wp P c' Q a w := h ▸ H

set_option maxRecDepth 8000 in
set_option maxHeartbeats 8000000 in
theorem mixed_t6 (L M : List Int) (s : List Nat) (HWM : Hid (Wn 16 M)) (HSO : Hid (So s)) (w : World) (q1 q2 q3 : Nat) (k1 : w.heap.size < q1) (k2 : w.heap.size < q2) (k3 : w.heap.size < q3) (wc : World) (L6 : List Int) (HL : Hid (L6 = gs7 M s L 6)) (HW : Hid (Wn 16 L6)) (HM : Hid (Mx w q1 q2 q3 L6 M s wc))
    (u7 u8 u9 u10 u11 u12 u13 u14 u15 u16 u17 u18 u19 u20 u21 u22 u23 u24 u25 u26 u27 u28 u29 u30 u31 u32 u33 u34 u35 u36 u37 u38 u39 u40 u41 u42 u43 u44 u45 u46 u47 u48 u49 u50 u51 u52 u53 u54 u55 u56 u57 u58 u59 u60 u61 u62 u63 u64 u65 u66 u67 u68 u69 u70 u71 u72 u73 u74 u75 u76 u77 u78 u79 u80 u81 u82 u83 u84 u85 u86 u87 u88 u89 u90 u91 u92 u93 u94 u95 u96 u97 u98 u99 u100 u101 u102 u103 u104 u105 u106 u107 u108 u109 u110 u111 u112 u113 u114 u115 u116 u117 u118 u119 u120 u121 u122 u123 u124 u125 u126 u127 u128 u129 u130 u131 u132 u133 u134 u135 u136 u137 u138 u139 u140 u141 u142 u143 u144 u145 u146 u147 u148 u149 u150 u151 u152 u153 u154 u155 u156 u157 u158 u159 u160 u161 u162 u163 u164 u165 u166 u167 u168 u169 u170 u171 u172 u173 u174 u175 u176 u177 u178 u179 u180 u181 u182 u183 u184 u185 u186 u187 u188 u189 u190 u191 u192 u193 u194 u195 u196 u197 u198 u199 u200 u201 u202 u203 u204 u205 u206 u207 u208 u209 u210 u211 u212 u213 u214 u215 : Value) :
    Code.wp Tryz.prog (bodyAt 7 Tryz.f68.body) (bodyPost Tryz.prog Tryz.f68 (fun e w' => ∃ L', e = .returned (.agg (List.map (Value.int .u32) L').toArray) ∧ Hid (L' = gs7 M s L 8) ∧ Wn 16 L' ∧ Below w.heap.size w w')) { tmps := #[(.agg (List.map (Value.int .u32) L).toArray), (.agg (List.map (Value.int .u32) M).toArray), .agg (List.map nb8 s).toArray, .pointer (some ⟨w.heap.size, 0, none⟩), .pointer (some ⟨q1, 0, none⟩), .pointer (some ⟨q2, 0, none⟩), .pointer (some ⟨q3, 0, none⟩), u7, u8, u9, u10, u11, u12, u13, u14, u15, u16, u17, u18, u19, u20, u21, u22, u23, u24, u25, u26, u27, u28, u29, u30, u31, u32, u33, u34, u35, u36, u37, u38, u39, u40, u41, u42, u43, u44, u45, u46, u47, u48, u49, u50, u51, u52, u53, u54, u55, u56, u57, u58, u59, u60, u61, u62, u63, u64, u65, u66, u67, u68, u69, u70, u71, u72, u73, u74, u75, u76, u77, u78, u79, u80, u81, u82, u83, u84, u85, u86, u87, u88, u89, u90, u91, u92, u93, u94, u95, u96, u97, u98, u99, u100, u101, u102, u103, u104, u105, u106, u107, u108, u109, u110, u111, u112, u113, u114, u115, u116, u117, u118, u119, u120, u121, u122, u123, u124, u125, u126, u127, u128, u129, u130, u131, u132, u133, u134, u135, u136, u137, u138, u139, u140, u141, u142, u143, u144, u145, u146, u147, u148, u149, u150, u151, u152, u153, u154, u155, u156, u157, u158, u159, u160, u161, u162, u163, u164, u165, u166, u167, u168, u169, u170, u171, u172, u173, u174, u175, u176, u177, u178, u179, u180, u181, u182, u183, u184, u185, u186, u187, u188, u189, u190, u191, u192, u193, u194, u195, u196, u197, u198, u199, u200, u201, u202, u203, u204, u205, u206, u207, u208, u209, u210, u211, u212, u213, u214, u215], defers := [] } wc := by
  delta Tryz.f68
  dsimp only [bodyAt, codeAt]
  go_upto_region 7 with fail
  go_cut [] from 7 (fun wx => ∃ L7 : List Int, Hid (L7 = gs7 M s L 7) ∧ Hid (Wn 16 L7) ∧ Hid (Mx w q1 q2 q3 L7 M s wx))
  case first =>
    obtain ⟨x0, c0, f0, r0, HX0⟩ := wn_word HM.out.v HW.out 2 (by decide)
    obtain ⟨x1, c1, f1, r1, HX1⟩ := wn_word HM.out.v HW.out 7 (by decide)
    obtain ⟨x2, c2, f2, r2, HX2⟩ := wn_word HM.out.v HW.out 8 (by decide)
    obtain ⟨x3, c3, f3, r3, HX3⟩ := wn_word HM.out.v HW.out 13 (by decide)
    have t0 := so_cell HM.out.s HSO.out 12 (by decide)
    have t1 := so_cell HM.out.s HSO.out 13 (by decide)
    have l0 := HSO.out.lt 12
    have l1 := HSO.out.lt 13
    obtain ⟨n0, hn0⟩ : ∃ n : Nat, n = s[12]! := ⟨_, rfl⟩
    obtain ⟨n1, hn1⟩ : ∃ n : Nat, n = s[13]! := ⟨_, rfl⟩
    rw [← hn0] at t0 l0
    rw [← hn1] at t1 l1
    have HN0 : Hid (n0 = s[12]!) := hn0
    have HN1 : Hid (n1 = s[13]!) := hn1
    clear hn0 hn1
    obtain ⟨y0, d0, -, ry0, HY0⟩ := wn_word HM.out.m HWM.out n0 l0
    obtain ⟨y1, d1, -, ry1, HY1⟩ := wn_word HM.out.m HWM.out n1 l1
    have g0 : (n0 : Int) < 16 := by omega
    have g1 : (n1 : Int) < 16 := by omega
    have xc0 : ∀ u, Ext wc u → u.cell? ⟨w.heap.size, 2, none⟩ = some (.int .u32 x0) := fun u hu => hu.cell c0
    have xc1 : ∀ u, Ext wc u → u.cell? ⟨w.heap.size, 7, none⟩ = some (.int .u32 x1) := fun u hu => hu.cell c1
    have xc2 : ∀ u, Ext wc u → u.cell? ⟨w.heap.size, 8, none⟩ = some (.int .u32 x2) := fun u hu => hu.cell c2
    have xc3 : ∀ u, Ext wc u → u.cell? ⟨w.heap.size, 13, none⟩ = some (.int .u32 x3) := fun u hu => hu.cell c3
    have xt0 : ∀ u, Ext wc u → u.cell? ⟨q2, 12, none⟩ = some (.int .u8 n0) := fun u hu => hu.cell t0
    have xt1 : ∀ u, Ext wc u → u.cell? ⟨q2, 13, none⟩ = some (.int .u8 n1) := fun u hu => hu.cell t1
    have xd0 : ∀ u, Ext wc u → u.cell? ⟨q1, n0, none⟩ = some (.int .u32 y0) := fun u hu => hu.cell d0
    have xd1 : ∀ u, Ext wc u → u.cell? ⟨q1, n1, none⟩ = some (.int .u32 y1) := fun u hu => hu.cell d1
    have hlt := HM.out.v.lt (by decide)
    clear t0 t1 d0 d1
    refine wp_region_noPanic ?_
    refine wp_region_two (k := 23) (Ext wc) (ExtB w.heap.size wc) (by kernel_rfl) (Ext.refl _).drew (fun hH => ?_)
    change wpAnyK _ _ _ _ _ _ _ _ #[false, false, false, false, false, false, false, false, false, false, false, false, false, false, false, false, false, false, false, false, false, false, false, false, false, false, false, false, false, false] _ _
    refine tka 0 ?_
    try simp only [Act.put, List.setIfInBounds_toArray, List.set_cons_zero, List.set_cons_succ]
    refine tka 1 ?_ (hy := by (intro u hu; (have hx := xc0 u hu; go_simp) <;> with_reducible rfl))
    try simp only [Act.put, List.setIfInBounds_toArray, List.set_cons_zero, List.set_cons_succ]
    refine tka 2 ?_
    try simp only [Act.put, List.setIfInBounds_toArray, List.set_cons_zero, List.set_cons_succ]
    refine tka 3 ?_ (hy := by (intro u hu; (have hx := xc1 u hu; go_simp) <;> with_reducible rfl))
    try simp only [Act.put, List.setIfInBounds_toArray, List.set_cons_zero, List.set_cons_succ]
    refine tka 4 ?_
    try simp only [Act.put, List.setIfInBounds_toArray, List.set_cons_zero, List.set_cons_succ]
    refine tka 5 ?_ (hy := by (intro u hu; (have hx := xc2 u hu; go_simp) <;> with_reducible rfl))
    try simp only [Act.put, List.setIfInBounds_toArray, List.set_cons_zero, List.set_cons_succ]
    refine tka 6 ?_
    try simp only [Act.put, List.setIfInBounds_toArray, List.set_cons_zero, List.set_cons_succ]
    refine tka 7 ?_ (hy := by (intro u hu; (have hx := xc3 u hu; go_simp) <;> with_reducible rfl))
    try simp only [Act.put, List.setIfInBounds_toArray, List.set_cons_zero, List.set_cons_succ]
    refine tka 8 ?_
    try simp only [Act.put, List.setIfInBounds_toArray, List.set_cons_zero, List.set_cons_succ]
    refine tka 9 ?_ (hy := by (intro u hu; (have hx := xt0 u hu; go_simp) <;> with_reducible rfl))
    try simp only [Act.put, List.setIfInBounds_toArray, List.set_cons_zero, List.set_cons_succ]
    refine tka 10 ?_
    try simp only [Act.put, List.setIfInBounds_toArray, List.set_cons_zero, List.set_cons_succ]
    refine tka 11 ?_ (hy := by (intro u hu; (have hx := xd0 u hu; go_simp) <;> with_reducible rfl))
    try simp only [Act.put, List.setIfInBounds_toArray, List.set_cons_zero, List.set_cons_succ]
    refine tka 12 ?_
    try simp only [Act.put, List.setIfInBounds_toArray, List.set_cons_zero, List.set_cons_succ]
    refine tka 13 ?_ (hy := by (intro u hu; (have hx := xt1 u hu; go_simp) <;> with_reducible rfl))
    try simp only [Act.put, List.setIfInBounds_toArray, List.set_cons_zero, List.set_cons_succ]
    refine tka 14 ?_
    try simp only [Act.put, List.setIfInBounds_toArray, List.set_cons_zero, List.set_cons_succ]
    refine tka 15 ?_ (hy := by (intro u hu; (have hx := xd1 u hu; go_simp) <;> with_reducible rfl))
    try simp only [Act.put, List.setIfInBounds_toArray, List.set_cons_zero, List.set_cons_succ]
    clear xc0 xc1 xc2 xc3 xt0 xt1 xd0 xd1
    refine wpAnyK_one (i := 16) (o := ?o16m6_) ?h16m6_ (by decide) (by kernel_rfl) (fun K hK => ?_)
    case h16m6_ => simp only [List.getElem?_toArray]; rfl
    go_simp
    refine (quarter7_c x0 x1 x2 x3 y0 y1 r0 r1 r2 r3 ry0 ry1 _).mono ?_
    rintro e V ⟨p, q, r, t, rfl, HQ, -, -, -, -, hb⟩
    refine hK.out _ _ (hH.trans hb) (fun hH' => ?_)
    clear hK K hH; have hH := hH'; clear hH'; try simp only [List.setIfInBounds_toArray, List.set]
    refine tka 17 ?_
    try simp only [Act.put, List.setIfInBounds_toArray, List.set_cons_zero, List.set_cons_succ]
    refine tka 18 ?_
    try simp only [Act.put, List.setIfInBounds_toArray, List.set_cons_zero, List.set_cons_succ]
    refine tkk 19 (fun _ h => h.extB _) ?_
    try simp only [Act.put, List.setIfInBounds_toArray, List.set_cons_zero, List.set_cons_succ]
    refine tkk 20 (fun _ h => h.extB _) ?_
    try simp only [Act.put, List.setIfInBounds_toArray, List.set_cons_zero, List.set_cons_succ]
    refine tkk 21 (fun _ h => h.extB _) ?_
    try simp only [Act.put, List.setIfInBounds_toArray, List.set_cons_zero, List.set_cons_succ]
    refine tka 22 ?_
    try simp only [Act.put, List.setIfInBounds_toArray, List.set_cons_zero, List.set_cons_succ]
    replace HM := HM.out.later hH
    replace c0 := cell_later hH c0
    replace f0 := froz_later hH hlt f0
    replace c1 := cell_later hH c1
    replace f1 := froz_later hH hlt f1
    replace c2 := cell_later hH c2
    replace f2 := froz_later hH hlt f2
    replace c3 := cell_later hH c3
    replace f3 := froz_later hH hlt f3
    clear hb
    refine wpAnyK_last (k := 23) (o := ?o23m6_) ?h23m6_ (by kernel_rfl) (fun K hK => ?_)
    case h23m6_ => simp only [List.getElem?_toArray]; rfl
    go_simp
    refine hK.out _ _ ((hH.extB _).set 2 _) (fun hH' => ?_)
    clear hK K hH; have hH := hH'; clear hH'; try simp only [List.setIfInBounds_toArray, List.set]
    refine tk 24 ?_
    try simp only [Act.put, List.setIfInBounds_toArray, List.set_cons_zero, List.set_cons_succ]
    refine rdy 25 (fun K hK => ?_)
    go_simp
    refine hK.out _ _ (hH.set 7 _) (fun hH' => ?_)
    clear hK K hH; have hH := hH'; clear hH'; try simp only [List.setIfInBounds_toArray, List.set]
    refine tk 26 ?_
    try simp only [Act.put, List.setIfInBounds_toArray, List.set_cons_zero, List.set_cons_succ]
    refine rdy 27 (fun K hK => ?_)
    go_simp
    refine hK.out _ _ (hH.set 8 _) (fun hH' => ?_)
    clear hK K hH; have hH := hH'; clear hH'; try simp only [List.setIfInBounds_toArray, List.set]
    refine tk 28 ?_
    try simp only [Act.put, List.setIfInBounds_toArray, List.set_cons_zero, List.set_cons_succ]
    refine rdy 29 (fun K hK => ?_)
    go_simp
    refine hK.out _ _ (hH.set 13 _) (fun hH' => ?_)
    clear hK K hH; have hH := hH'; clear hH'; try simp only [List.setIfInBounds_toArray, List.set]
    refine wpAnyH_done (by kernel_rfl) ?_ _
    refine NoPanic.normal ?_
    have HM' := HM.mixed k1 k2 k3 2 7 8 13 (by decide) (by decide) (by decide) (by decide) HX0.out HX1.out HX2.out HX3.out HQ.out
    go_wp2_with fail
    go_meet
    case rel => exact ⟨bg7 L6 2 7 8 13 y0 y1, by unfold Hid; rw [HY0.out, HY1.out, HN0.out, HN1.out, HL.out]; rfl, bg7_w HW.out _ _ _ _ _ _, HM'⟩
  case rest =>
  obtain ⟨L7, HL, HW, HM⟩ := hcut
  go_upto_region 8 with fail
  go_cut [] from 7 (fun wx => ∃ L8 : List Int, Hid (L8 = gs7 M s L 8) ∧ Hid (Wn 16 L8) ∧ Hid (Mx w q1 q2 q3 L8 M s wx))
  case first =>
    obtain ⟨x0, c0, f0, r0, HX0⟩ := wn_word HM.out.v HW.out 3 (by decide)
    obtain ⟨x1, c1, f1, r1, HX1⟩ := wn_word HM.out.v HW.out 4 (by decide)
    obtain ⟨x2, c2, f2, r2, HX2⟩ := wn_word HM.out.v HW.out 9 (by decide)
    obtain ⟨x3, c3, f3, r3, HX3⟩ := wn_word HM.out.v HW.out 14 (by decide)
    have t0 := so_cell HM.out.s HSO.out 14 (by decide)
    have t1 := so_cell HM.out.s HSO.out 15 (by decide)
    have l0 := HSO.out.lt 14
    have l1 := HSO.out.lt 15
    obtain ⟨n0, hn0⟩ : ∃ n : Nat, n = s[14]! := ⟨_, rfl⟩
    obtain ⟨n1, hn1⟩ : ∃ n : Nat, n = s[15]! := ⟨_, rfl⟩
    rw [← hn0] at t0 l0
    rw [← hn1] at t1 l1
    have HN0 : Hid (n0 = s[14]!) := hn0
    have HN1 : Hid (n1 = s[15]!) := hn1
    clear hn0 hn1
    obtain ⟨y0, d0, -, ry0, HY0⟩ := wn_word HM.out.m HWM.out n0 l0
    obtain ⟨y1, d1, -, ry1, HY1⟩ := wn_word HM.out.m HWM.out n1 l1
    have g0 : (n0 : Int) < 16 := by omega
    have g1 : (n1 : Int) < 16 := by omega
    have xc0 : ∀ u, Ext wc u → u.cell? ⟨w.heap.size, 3, none⟩ = some (.int .u32 x0) := fun u hu => hu.cell c0
    have xc1 : ∀ u, Ext wc u → u.cell? ⟨w.heap.size, 4, none⟩ = some (.int .u32 x1) := fun u hu => hu.cell c1
    have xc2 : ∀ u, Ext wc u → u.cell? ⟨w.heap.size, 9, none⟩ = some (.int .u32 x2) := fun u hu => hu.cell c2
    have xc3 : ∀ u, Ext wc u → u.cell? ⟨w.heap.size, 14, none⟩ = some (.int .u32 x3) := fun u hu => hu.cell c3
    have xt0 : ∀ u, Ext wc u → u.cell? ⟨q2, 14, none⟩ = some (.int .u8 n0) := fun u hu => hu.cell t0
    have xt1 : ∀ u, Ext wc u → u.cell? ⟨q2, 15, none⟩ = some (.int .u8 n1) := fun u hu => hu.cell t1
    have xd0 : ∀ u, Ext wc u → u.cell? ⟨q1, n0, none⟩ = some (.int .u32 y0) := fun u hu => hu.cell d0
    have xd1 : ∀ u, Ext wc u → u.cell? ⟨q1, n1, none⟩ = some (.int .u32 y1) := fun u hu => hu.cell d1
    have hlt := HM.out.v.lt (by decide)
    clear t0 t1 d0 d1
    refine wp_region_noPanic ?_
    refine wp_region_two (k := 23) (Ext wc) (ExtB w.heap.size wc) (by kernel_rfl) (Ext.refl _).drew (fun hH => ?_)
    change wpAnyK _ _ _ _ _ _ _ _ #[false, false, false, false, false, false, false, false, false, false, false, false, false, false, false, false, false, false, false, false, false, false, false, false, false, false, false, false, false, false] _ _
    refine tka 0 ?_
    try simp only [Act.put, List.setIfInBounds_toArray, List.set_cons_zero, List.set_cons_succ]
    refine tka 1 ?_ (hy := by (intro u hu; (have hx := xc0 u hu; go_simp) <;> with_reducible rfl))
    try simp only [Act.put, List.setIfInBounds_toArray, List.set_cons_zero, List.set_cons_succ]
    refine tka 2 ?_
    try simp only [Act.put, List.setIfInBounds_toArray, List.set_cons_zero, List.set_cons_succ]
    refine tka 3 ?_ (hy := by (intro u hu; (have hx := xc1 u hu; go_simp) <;> with_reducible rfl))
    try simp only [Act.put, List.setIfInBounds_toArray, List.set_cons_zero, List.set_cons_succ]
    refine tka 4 ?_
    try simp only [Act.put, List.setIfInBounds_toArray, List.set_cons_zero, List.set_cons_succ]
    refine tka 5 ?_ (hy := by (intro u hu; (have hx := xc2 u hu; go_simp) <;> with_reducible rfl))
    try simp only [Act.put, List.setIfInBounds_toArray, List.set_cons_zero, List.set_cons_succ]
    refine tka 6 ?_
    try simp only [Act.put, List.setIfInBounds_toArray, List.set_cons_zero, List.set_cons_succ]
    refine tka 7 ?_ (hy := by (intro u hu; (have hx := xc3 u hu; go_simp) <;> with_reducible rfl))
    try simp only [Act.put, List.setIfInBounds_toArray, List.set_cons_zero, List.set_cons_succ]
    refine tka 8 ?_
    try simp only [Act.put, List.setIfInBounds_toArray, List.set_cons_zero, List.set_cons_succ]
    refine tka 9 ?_ (hy := by (intro u hu; (have hx := xt0 u hu; go_simp) <;> with_reducible rfl))
    try simp only [Act.put, List.setIfInBounds_toArray, List.set_cons_zero, List.set_cons_succ]
    refine tka 10 ?_
    try simp only [Act.put, List.setIfInBounds_toArray, List.set_cons_zero, List.set_cons_succ]
    refine tka 11 ?_ (hy := by (intro u hu; (have hx := xd0 u hu; go_simp) <;> with_reducible rfl))
    try simp only [Act.put, List.setIfInBounds_toArray, List.set_cons_zero, List.set_cons_succ]
    refine tka 12 ?_
    try simp only [Act.put, List.setIfInBounds_toArray, List.set_cons_zero, List.set_cons_succ]
    refine tka 13 ?_ (hy := by (intro u hu; (have hx := xt1 u hu; go_simp) <;> with_reducible rfl))
    try simp only [Act.put, List.setIfInBounds_toArray, List.set_cons_zero, List.set_cons_succ]
    refine tka 14 ?_
    try simp only [Act.put, List.setIfInBounds_toArray, List.set_cons_zero, List.set_cons_succ]
    refine tka 15 ?_ (hy := by (intro u hu; (have hx := xd1 u hu; go_simp) <;> with_reducible rfl))
    try simp only [Act.put, List.setIfInBounds_toArray, List.set_cons_zero, List.set_cons_succ]
    clear xc0 xc1 xc2 xc3 xt0 xt1 xd0 xd1
    refine wpAnyK_one (i := 16) (o := ?o16m7_) ?h16m7_ (by decide) (by kernel_rfl) (fun K hK => ?_)
    case h16m7_ => simp only [List.getElem?_toArray]; rfl
    go_simp
    refine (quarter7_c x0 x1 x2 x3 y0 y1 r0 r1 r2 r3 ry0 ry1 _).mono ?_
    rintro e V ⟨p, q, r, t, rfl, HQ, -, -, -, -, hb⟩
    refine hK.out _ _ (hH.trans hb) (fun hH' => ?_)
    clear hK K hH; have hH := hH'; clear hH'; try simp only [List.setIfInBounds_toArray, List.set]
    refine tka 17 ?_
    try simp only [Act.put, List.setIfInBounds_toArray, List.set_cons_zero, List.set_cons_succ]
    refine tka 18 ?_
    try simp only [Act.put, List.setIfInBounds_toArray, List.set_cons_zero, List.set_cons_succ]
    refine tkk 19 (fun _ h => h.extB _) ?_
    try simp only [Act.put, List.setIfInBounds_toArray, List.set_cons_zero, List.set_cons_succ]
    refine tkk 20 (fun _ h => h.extB _) ?_
    try simp only [Act.put, List.setIfInBounds_toArray, List.set_cons_zero, List.set_cons_succ]
    refine tkk 21 (fun _ h => h.extB _) ?_
    try simp only [Act.put, List.setIfInBounds_toArray, List.set_cons_zero, List.set_cons_succ]
    refine tka 22 ?_
    try simp only [Act.put, List.setIfInBounds_toArray, List.set_cons_zero, List.set_cons_succ]
    replace HM := HM.out.later hH
    replace c0 := cell_later hH c0
    replace f0 := froz_later hH hlt f0
    replace c1 := cell_later hH c1
    replace f1 := froz_later hH hlt f1
    replace c2 := cell_later hH c2
    replace f2 := froz_later hH hlt f2
    replace c3 := cell_later hH c3
    replace f3 := froz_later hH hlt f3
    clear hb
    refine wpAnyK_last (k := 23) (o := ?o23m7_) ?h23m7_ (by kernel_rfl) (fun K hK => ?_)
    case h23m7_ => simp only [List.getElem?_toArray]; rfl
    go_simp
    refine hK.out _ _ ((hH.extB _).set 3 _) (fun hH' => ?_)
    clear hK K hH; have hH := hH'; clear hH'; try simp only [List.setIfInBounds_toArray, List.set]
    refine tk 24 ?_
    try simp only [Act.put, List.setIfInBounds_toArray, List.set_cons_zero, List.set_cons_succ]
    refine rdy 25 (fun K hK => ?_)
    go_simp
    refine hK.out _ _ (hH.set 4 _) (fun hH' => ?_)
    clear hK K hH; have hH := hH'; clear hH'; try simp only [List.setIfInBounds_toArray, List.set]
    refine tk 26 ?_
    try simp only [Act.put, List.setIfInBounds_toArray, List.set_cons_zero, List.set_cons_succ]
    refine rdy 27 (fun K hK => ?_)
    go_simp
    refine hK.out _ _ (hH.set 9 _) (fun hH' => ?_)
    clear hK K hH; have hH := hH'; clear hH'; try simp only [List.setIfInBounds_toArray, List.set]
    refine tk 28 ?_
    try simp only [Act.put, List.setIfInBounds_toArray, List.set_cons_zero, List.set_cons_succ]
    refine rdy 29 (fun K hK => ?_)
    go_simp
    refine hK.out _ _ (hH.set 14 _) (fun hH' => ?_)
    clear hK K hH; have hH := hH'; clear hH'; try simp only [List.setIfInBounds_toArray, List.set]
    refine wpAnyH_done (by kernel_rfl) ?_ _
    refine NoPanic.normal ?_
    have HM' := HM.mixed k1 k2 k3 3 4 9 14 (by decide) (by decide) (by decide) (by decide) HX0.out HX1.out HX2.out HX3.out HQ.out
    go_wp2_with fail
    go_meet
    case rel => exact ⟨bg7 L7 3 4 9 14 y0 y1, by unfold Hid; rw [HY0.out, HY1.out, HN0.out, HN1.out, HL.out]; rfl, bg7_w HW.out _ _ _ _ _ _, HM'⟩
  case rest =>
  obtain ⟨L8, HL, HW, HM⟩ := hcut
  obtain ⟨hlen, hone, hi⟩ := ws_cells HW.out
  obtain ⟨cs, hcs⟩ : ∃ cs, cs = (List.map (Value.int .u32) L8) := ⟨_, rfl⟩
  have HC : Hid (cs = (List.map (Value.int .u32) L8)) := hcs
  rw [← hcs] at hlen hone hi
  clear hcs
  have hrg : wc.rangeAt w.heap.size 0 cs := by rw [HC.out]; exact HM.out.v.rng
  have hth := HM.out.res
  go_wp2_with (first
    | (refine wpList_load_mid rfl 102 (.tmp 3) rfl w.heap.size 0 rfl cs _ hrg Tryz.underlying102 rfl hi ?_)
    | (refine wpList_store_mid rfl 102 (.tmp 6) (.tmp 215) rfl q3 0 cs.toArray rfl rfl (by simpa [hlen] using hth) (by simpa using hi) (all_oneCell_toArray hone) ?_))
  have HR2 : Hid ((wc.setCells q3 0 cs).rangeAt q3 0 cs) := World.rangeAt_setCells_same _ _ _ _ (by rw [hlen]; exact hth)
  have hld := run_loadVar_mid (P := Tryz.prog) _ _ 0 102 _ _ HR2.out Tryz.underlying102 rfl hi
  exact bodyPost_ret (v := .agg cs.toArray) (by simp [results]; exact hld) rfl ⟨L8, by rw [HC.out], HL, HW.out, below_setCells _ (by omega) _ _ _ HM.out.bel⟩

set_option maxRecDepth 8000 in
set_option maxHeartbeats 8000000 in
theorem mixed_t4 (L M : List Int) (s : List Nat) (HWM : Hid (Wn 16 M)) (HSO : Hid (So s)) (w : World) (q1 q2 q3 : Nat) (k1 : w.heap.size < q1) (k2 : w.heap.size < q2) (k3 : w.heap.size < q3) (wc : World) (L4 : List Int) (HL : Hid (L4 = gs7 M s L 4)) (HW : Hid (Wn 16 L4)) (HM : Hid (Mx w q1 q2 q3 L4 M s wc))
    (u7 u8 u9 u10 u11 u12 u13 u14 u15 u16 u17 u18 u19 u20 u21 u22 u23 u24 u25 u26 u27 u28 u29 u30 u31 u32 u33 u34 u35 u36 u37 u38 u39 u40 u41 u42 u43 u44 u45 u46 u47 u48 u49 u50 u51 u52 u53 u54 u55 u56 u57 u58 u59 u60 u61 u62 u63 u64 u65 u66 u67 u68 u69 u70 u71 u72 u73 u74 u75 u76 u77 u78 u79 u80 u81 u82 u83 u84 u85 u86 u87 u88 u89 u90 u91 u92 u93 u94 u95 u96 u97 u98 u99 u100 u101 u102 u103 u104 u105 u106 u107 u108 u109 u110 u111 u112 u113 u114 u115 u116 u117 u118 u119 u120 u121 u122 u123 u124 u125 u126 u127 u128 u129 u130 u131 u132 u133 u134 u135 u136 u137 u138 u139 u140 u141 u142 u143 u144 u145 u146 u147 u148 u149 u150 u151 u152 u153 u154 u155 u156 u157 u158 u159 u160 u161 u162 u163 u164 u165 u166 u167 u168 u169 u170 u171 u172 u173 u174 u175 u176 u177 u178 u179 u180 u181 u182 u183 u184 u185 u186 u187 u188 u189 u190 u191 u192 u193 u194 u195 u196 u197 u198 u199 u200 u201 u202 u203 u204 u205 u206 u207 u208 u209 u210 u211 u212 u213 u214 u215 : Value) :
    Code.wp Tryz.prog (bodyAt 5 Tryz.f68.body) (bodyPost Tryz.prog Tryz.f68 (fun e w' => ∃ L', e = .returned (.agg (List.map (Value.int .u32) L').toArray) ∧ Hid (L' = gs7 M s L 8) ∧ Wn 16 L' ∧ Below w.heap.size w w')) { tmps := #[(.agg (List.map (Value.int .u32) L).toArray), (.agg (List.map (Value.int .u32) M).toArray), .agg (List.map nb8 s).toArray, .pointer (some ⟨w.heap.size, 0, none⟩), .pointer (some ⟨q1, 0, none⟩), .pointer (some ⟨q2, 0, none⟩), .pointer (some ⟨q3, 0, none⟩), u7, u8, u9, u10, u11, u12, u13, u14, u15, u16, u17, u18, u19, u20, u21, u22, u23, u24, u25, u26, u27, u28, u29, u30, u31, u32, u33, u34, u35, u36, u37, u38, u39, u40, u41, u42, u43, u44, u45, u46, u47, u48, u49, u50, u51, u52, u53, u54, u55, u56, u57, u58, u59, u60, u61, u62, u63, u64, u65, u66, u67, u68, u69, u70, u71, u72, u73, u74, u75, u76, u77, u78, u79, u80, u81, u82, u83, u84, u85, u86, u87, u88, u89, u90, u91, u92, u93, u94, u95, u96, u97, u98, u99, u100, u101, u102, u103, u104, u105, u106, u107, u108, u109, u110, u111, u112, u113, u114, u115, u116, u117, u118, u119, u120, u121, u122, u123, u124, u125, u126, u127, u128, u129, u130, u131, u132, u133, u134, u135, u136, u137, u138, u139, u140, u141, u142, u143, u144, u145, u146, u147, u148, u149, u150, u151, u152, u153, u154, u155, u156, u157, u158, u159, u160, u161, u162, u163, u164, u165, u166, u167, u168, u169, u170, u171, u172, u173, u174, u175, u176, u177, u178, u179, u180, u181, u182, u183, u184, u185, u186, u187, u188, u189, u190, u191, u192, u193, u194, u195, u196, u197, u198, u199, u200, u201, u202, u203, u204, u205, u206, u207, u208, u209, u210, u211, u212, u213, u214, u215], defers := [] } wc := by
  delta Tryz.f68
  dsimp only [bodyAt, codeAt]
  go_upto_region 5 with fail
  go_cut [] from 7 (fun wx => ∃ L5 : List Int, Hid (L5 = gs7 M s L 5) ∧ Hid (Wn 16 L5) ∧ Hid (Mx w q1 q2 q3 L5 M s wx))
  case first =>
    obtain ⟨x0, c0, f0, r0, HX0⟩ := wn_word HM.out.v HW.out 0 (by decide)
    obtain ⟨x1, c1, f1, r1, HX1⟩ := wn_word HM.out.v HW.out 5 (by decide)
    obtain ⟨x2, c2, f2, r2, HX2⟩ := wn_word HM.out.v HW.out 10 (by decide)
    obtain ⟨x3, c3, f3, r3, HX3⟩ := wn_word HM.out.v HW.out 15 (by decide)
    have t0 := so_cell HM.out.s HSO.out 8 (by decide)
    have t1 := so_cell HM.out.s HSO.out 9 (by decide)
    have l0 := HSO.out.lt 8
    have l1 := HSO.out.lt 9
    obtain ⟨n0, hn0⟩ : ∃ n : Nat, n = s[8]! := ⟨_, rfl⟩
    obtain ⟨n1, hn1⟩ : ∃ n : Nat, n = s[9]! := ⟨_, rfl⟩
    rw [← hn0] at t0 l0
    rw [← hn1] at t1 l1
    have HN0 : Hid (n0 = s[8]!) := hn0
    have HN1 : Hid (n1 = s[9]!) := hn1
    clear hn0 hn1
    obtain ⟨y0, d0, -, ry0, HY0⟩ := wn_word HM.out.m HWM.out n0 l0
    obtain ⟨y1, d1, -, ry1, HY1⟩ := wn_word HM.out.m HWM.out n1 l1
    have g0 : (n0 : Int) < 16 := by omega
    have g1 : (n1 : Int) < 16 := by omega
    have xc0 : ∀ u, Ext wc u → u.cell? ⟨w.heap.size, 0, none⟩ = some (.int .u32 x0) := fun u hu => hu.cell c0
    have xc1 : ∀ u, Ext wc u → u.cell? ⟨w.heap.size, 5, none⟩ = some (.int .u32 x1) := fun u hu => hu.cell c1
    have xc2 : ∀ u, Ext wc u → u.cell? ⟨w.heap.size, 10, none⟩ = some (.int .u32 x2) := fun u hu => hu.cell c2
    have xc3 : ∀ u, Ext wc u → u.cell? ⟨w.heap.size, 15, none⟩ = some (.int .u32 x3) := fun u hu => hu.cell c3
    have xt0 : ∀ u, Ext wc u → u.cell? ⟨q2, 8, none⟩ = some (.int .u8 n0) := fun u hu => hu.cell t0
    have xt1 : ∀ u, Ext wc u → u.cell? ⟨q2, 9, none⟩ = some (.int .u8 n1) := fun u hu => hu.cell t1
    have xd0 : ∀ u, Ext wc u → u.cell? ⟨q1, n0, none⟩ = some (.int .u32 y0) := fun u hu => hu.cell d0
    have xd1 : ∀ u, Ext wc u → u.cell? ⟨q1, n1, none⟩ = some (.int .u32 y1) := fun u hu => hu.cell d1
    have hlt := HM.out.v.lt (by decide)
    clear t0 t1 d0 d1
    refine wp_region_noPanic ?_
    refine wp_region_two (k := 23) (Ext wc) (ExtB w.heap.size wc) (by kernel_rfl) (Ext.refl _).drew (fun hH => ?_)
    change wpAnyK _ _ _ _ _ _ _ _ #[false, false, false, false, false, false, false, false, false, false, false, false, false, false, false, false, false, false, false, false, false, false, false, false, false, false, false, false, false, false] _ _
    refine tka 0 ?_
    try simp only [Act.put, List.setIfInBounds_toArray, List.set_cons_zero, List.set_cons_succ]
    refine tka 1 ?_ (hy := by (intro u hu; (have hx := xc0 u hu; go_simp) <;> with_reducible rfl))
    try simp only [Act.put, List.setIfInBounds_toArray, List.set_cons_zero, List.set_cons_succ]
    refine tka 2 ?_
    try simp only [Act.put, List.setIfInBounds_toArray, List.set_cons_zero, List.set_cons_succ]
    refine tka 3 ?_ (hy := by (intro u hu; (have hx := xc1 u hu; go_simp) <;> with_reducible rfl))
    try simp only [Act.put, List.setIfInBounds_toArray, List.set_cons_zero, List.set_cons_succ]
    refine tka 4 ?_
    try simp only [Act.put, List.setIfInBounds_toArray, List.set_cons_zero, List.set_cons_succ]
    refine tka 5 ?_ (hy := by (intro u hu; (have hx := xc2 u hu; go_simp) <;> with_reducible rfl))
    try simp only [Act.put, List.setIfInBounds_toArray, List.set_cons_zero, List.set_cons_succ]
    refine tka 6 ?_
    try simp only [Act.put, List.setIfInBounds_toArray, List.set_cons_zero, List.set_cons_succ]
    refine tka 7 ?_ (hy := by (intro u hu; (have hx := xc3 u hu; go_simp) <;> with_reducible rfl))
    try simp only [Act.put, List.setIfInBounds_toArray, List.set_cons_zero, List.set_cons_succ]
    refine tka 8 ?_
    try simp only [Act.put, List.setIfInBounds_toArray, List.set_cons_zero, List.set_cons_succ]
    refine tka 9 ?_ (hy := by (intro u hu; (have hx := xt0 u hu; go_simp) <;> with_reducible rfl))
    try simp only [Act.put, List.setIfInBounds_toArray, List.set_cons_zero, List.set_cons_succ]
    refine tka 10 ?_
    try simp only [Act.put, List.setIfInBounds_toArray, List.set_cons_zero, List.set_cons_succ]
    refine tka 11 ?_ (hy := by (intro u hu; (have hx := xd0 u hu; go_simp) <;> with_reducible rfl))
    try simp only [Act.put, List.setIfInBounds_toArray, List.set_cons_zero, List.set_cons_succ]
    refine tka 12 ?_
    try simp only [Act.put, List.setIfInBounds_toArray, List.set_cons_zero, List.set_cons_succ]
    refine tka 13 ?_ (hy := by (intro u hu; (have hx := xt1 u hu; go_simp) <;> with_reducible rfl))
    try simp only [Act.put, List.setIfInBounds_toArray, List.set_cons_zero, List.set_cons_succ]
    refine tka 14 ?_
    try simp only [Act.put, List.setIfInBounds_toArray, List.set_cons_zero, List.set_cons_succ]
    refine tka 15 ?_ (hy := by (intro u hu; (have hx := xd1 u hu; go_simp) <;> with_reducible rfl))
    try simp only [Act.put, List.setIfInBounds_toArray, List.set_cons_zero, List.set_cons_succ]
    clear xc0 xc1 xc2 xc3 xt0 xt1 xd0 xd1
    refine wpAnyK_one (i := 16) (o := ?o16m4_) ?h16m4_ (by decide) (by kernel_rfl) (fun K hK => ?_)
    case h16m4_ => simp only [List.getElem?_toArray]; rfl
    go_simp
    refine (quarter7_c x0 x1 x2 x3 y0 y1 r0 r1 r2 r3 ry0 ry1 _).mono ?_
    rintro e V ⟨p, q, r, t, rfl, HQ, -, -, -, -, hb⟩
    refine hK.out _ _ (hH.trans hb) (fun hH' => ?_)
    clear hK K hH; have hH := hH'; clear hH'; try simp only [List.setIfInBounds_toArray, List.set]
    refine tka 17 ?_
    try simp only [Act.put, List.setIfInBounds_toArray, List.set_cons_zero, List.set_cons_succ]
    refine tka 18 ?_
    try simp only [Act.put, List.setIfInBounds_toArray, List.set_cons_zero, List.set_cons_succ]
    refine tkk 19 (fun _ h => h.extB _) ?_
    try simp only [Act.put, List.setIfInBounds_toArray, List.set_cons_zero, List.set_cons_succ]
    refine tkk 20 (fun _ h => h.extB _) ?_
    try simp only [Act.put, List.setIfInBounds_toArray, List.set_cons_zero, List.set_cons_succ]
    refine tkk 21 (fun _ h => h.extB _) ?_
    try simp only [Act.put, List.setIfInBounds_toArray, List.set_cons_zero, List.set_cons_succ]
    refine tka 22 ?_
    try simp only [Act.put, List.setIfInBounds_toArray, List.set_cons_zero, List.set_cons_succ]
    replace HM := HM.out.later hH
    replace c0 := cell_later hH c0
    replace f0 := froz_later hH hlt f0
    replace c1 := cell_later hH c1
    replace f1 := froz_later hH hlt f1
    replace c2 := cell_later hH c2
    replace f2 := froz_later hH hlt f2
    replace c3 := cell_later hH c3
    replace f3 := froz_later hH hlt f3
    clear hb
    refine wpAnyK_last (k := 23) (o := ?o23m4_) ?h23m4_ (by kernel_rfl) (fun K hK => ?_)
    case h23m4_ => simp only [List.getElem?_toArray]; rfl
    go_simp
    refine hK.out _ _ ((hH.extB _).set 0 _) (fun hH' => ?_)
    clear hK K hH; have hH := hH'; clear hH'; try simp only [List.setIfInBounds_toArray, List.set]
    refine tk 24 ?_
    try simp only [Act.put, List.setIfInBounds_toArray, List.set_cons_zero, List.set_cons_succ]
    refine rdy 25 (fun K hK => ?_)
    go_simp
    refine hK.out _ _ (hH.set 5 _) (fun hH' => ?_)
    clear hK K hH; have hH := hH'; clear hH'; try simp only [List.setIfInBounds_toArray, List.set]
    refine tk 26 ?_
    try simp only [Act.put, List.setIfInBounds_toArray, List.set_cons_zero, List.set_cons_succ]
    refine rdy 27 (fun K hK => ?_)
    go_simp
    refine hK.out _ _ (hH.set 10 _) (fun hH' => ?_)
    clear hK K hH; have hH := hH'; clear hH'; try simp only [List.setIfInBounds_toArray, List.set]
    refine tk 28 ?_
    try simp only [Act.put, List.setIfInBounds_toArray, List.set_cons_zero, List.set_cons_succ]
    refine rdy 29 (fun K hK => ?_)
    go_simp
    refine hK.out _ _ (hH.set 15 _) (fun hH' => ?_)
    clear hK K hH; have hH := hH'; clear hH'; try simp only [List.setIfInBounds_toArray, List.set]
    refine wpAnyH_done (by kernel_rfl) ?_ _
    refine NoPanic.normal ?_
    have HM' := HM.mixed k1 k2 k3 0 5 10 15 (by decide) (by decide) (by decide) (by decide) HX0.out HX1.out HX2.out HX3.out HQ.out
    go_wp2_with fail
    go_meet
    case rel => exact ⟨bg7 L4 0 5 10 15 y0 y1, by unfold Hid; rw [HY0.out, HY1.out, HN0.out, HN1.out, HL.out]; rfl, bg7_w HW.out _ _ _ _ _ _, HM'⟩
  case rest =>
  obtain ⟨L5, HL, HW, HM⟩ := hcut
  go_upto_region 6 with fail
  go_cut [] from 7 (fun wx => ∃ L6 : List Int, Hid (L6 = gs7 M s L 6) ∧ Hid (Wn 16 L6) ∧ Hid (Mx w q1 q2 q3 L6 M s wx))
  case first =>
    obtain ⟨x0, c0, f0, r0, HX0⟩ := wn_word HM.out.v HW.out 1 (by decide)
    obtain ⟨x1, c1, f1, r1, HX1⟩ := wn_word HM.out.v HW.out 6 (by decide)
    obtain ⟨x2, c2, f2, r2, HX2⟩ := wn_word HM.out.v HW.out 11 (by decide)
    obtain ⟨x3, c3, f3, r3, HX3⟩ := wn_word HM.out.v HW.out 12 (by decide)
    have t0 := so_cell HM.out.s HSO.out 10 (by decide)
    have t1 := so_cell HM.out.s HSO.out 11 (by decide)
    have l0 := HSO.out.lt 10
    have l1 := HSO.out.lt 11
    obtain ⟨n0, hn0⟩ : ∃ n : Nat, n = s[10]! := ⟨_, rfl⟩
    obtain ⟨n1, hn1⟩ : ∃ n : Nat, n = s[11]! := ⟨_, rfl⟩
    rw [← hn0] at t0 l0
    rw [← hn1] at t1 l1
    have HN0 : Hid (n0 = s[10]!) := hn0
    have HN1 : Hid (n1 = s[11]!) := hn1
    clear hn0 hn1
    obtain ⟨y0, d0, -, ry0, HY0⟩ := wn_word HM.out.m HWM.out n0 l0
    obtain ⟨y1, d1, -, ry1, HY1⟩ := wn_word HM.out.m HWM.out n1 l1
    have g0 : (n0 : Int) < 16 := by omega
    have g1 : (n1 : Int) < 16 := by omega
    have xc0 : ∀ u, Ext wc u → u.cell? ⟨w.heap.size, 1, none⟩ = some (.int .u32 x0) := fun u hu => hu.cell c0
    have xc1 : ∀ u, Ext wc u → u.cell? ⟨w.heap.size, 6, none⟩ = some (.int .u32 x1) := fun u hu => hu.cell c1
    have xc2 : ∀ u, Ext wc u → u.cell? ⟨w.heap.size, 11, none⟩ = some (.int .u32 x2) := fun u hu => hu.cell c2
    have xc3 : ∀ u, Ext wc u → u.cell? ⟨w.heap.size, 12, none⟩ = some (.int .u32 x3) := fun u hu => hu.cell c3
    have xt0 : ∀ u, Ext wc u → u.cell? ⟨q2, 10, none⟩ = some (.int .u8 n0) := fun u hu => hu.cell t0
    have xt1 : ∀ u, Ext wc u → u.cell? ⟨q2, 11, none⟩ = some (.int .u8 n1) := fun u hu => hu.cell t1
    have xd0 : ∀ u, Ext wc u → u.cell? ⟨q1, n0, none⟩ = some (.int .u32 y0) := fun u hu => hu.cell d0
    have xd1 : ∀ u, Ext wc u → u.cell? ⟨q1, n1, none⟩ = some (.int .u32 y1) := fun u hu => hu.cell d1
    have hlt := HM.out.v.lt (by decide)
    clear t0 t1 d0 d1
    refine wp_region_noPanic ?_
    refine wp_region_two (k := 23) (Ext wc) (ExtB w.heap.size wc) (by kernel_rfl) (Ext.refl _).drew (fun hH => ?_)
    change wpAnyK _ _ _ _ _ _ _ _ #[false, false, false, false, false, false, false, false, false, false, false, false, false, false, false, false, false, false, false, false, false, false, false, false, false, false, false, false, false, false] _ _
    refine tka 0 ?_
    try simp only [Act.put, List.setIfInBounds_toArray, List.set_cons_zero, List.set_cons_succ]
    refine tka 1 ?_ (hy := by (intro u hu; (have hx := xc0 u hu; go_simp) <;> with_reducible rfl))
    try simp only [Act.put, List.setIfInBounds_toArray, List.set_cons_zero, List.set_cons_succ]
    refine tka 2 ?_
    try simp only [Act.put, List.setIfInBounds_toArray, List.set_cons_zero, List.set_cons_succ]
    refine tka 3 ?_ (hy := by (intro u hu; (have hx := xc1 u hu; go_simp) <;> with_reducible rfl))
    try simp only [Act.put, List.setIfInBounds_toArray, List.set_cons_zero, List.set_cons_succ]
    refine tka 4 ?_
    try simp only [Act.put, List.setIfInBounds_toArray, List.set_cons_zero, List.set_cons_succ]
    refine tka 5 ?_ (hy := by (intro u hu; (have hx := xc2 u hu; go_simp) <;> with_reducible rfl))
    try simp only [Act.put, List.setIfInBounds_toArray, List.set_cons_zero, List.set_cons_succ]
    refine tka 6 ?_
    try simp only [Act.put, List.setIfInBounds_toArray, List.set_cons_zero, List.set_cons_succ]
    refine tka 7 ?_ (hy := by (intro u hu; (have hx := xc3 u hu; go_simp) <;> with_reducible rfl))
    try simp only [Act.put, List.setIfInBounds_toArray, List.set_cons_zero, List.set_cons_succ]
    refine tka 8 ?_
    try simp only [Act.put, List.setIfInBounds_toArray, List.set_cons_zero, List.set_cons_succ]
    refine tka 9 ?_ (hy := by (intro u hu; (have hx := xt0 u hu; go_simp) <;> with_reducible rfl))
    try simp only [Act.put, List.setIfInBounds_toArray, List.set_cons_zero, List.set_cons_succ]
    refine tka 10 ?_
    try simp only [Act.put, List.setIfInBounds_toArray, List.set_cons_zero, List.set_cons_succ]
    refine tka 11 ?_ (hy := by (intro u hu; (have hx := xd0 u hu; go_simp) <;> with_reducible rfl))
    try simp only [Act.put, List.setIfInBounds_toArray, List.set_cons_zero, List.set_cons_succ]
    refine tka 12 ?_
    try simp only [Act.put, List.setIfInBounds_toArray, List.set_cons_zero, List.set_cons_succ]
    refine tka 13 ?_ (hy := by (intro u hu; (have hx := xt1 u hu; go_simp) <;> with_reducible rfl))
    try simp only [Act.put, List.setIfInBounds_toArray, List.set_cons_zero, List.set_cons_succ]
    refine tka 14 ?_
    try simp only [Act.put, List.setIfInBounds_toArray, List.set_cons_zero, List.set_cons_succ]
    refine tka 15 ?_ (hy := by (intro u hu; (have hx := xd1 u hu; go_simp) <;> with_reducible rfl))
    try simp only [Act.put, List.setIfInBounds_toArray, List.set_cons_zero, List.set_cons_succ]
    clear xc0 xc1 xc2 xc3 xt0 xt1 xd0 xd1
    refine wpAnyK_one (i := 16) (o := ?o16m5_) ?h16m5_ (by decide) (by kernel_rfl) (fun K hK => ?_)
    case h16m5_ => simp only [List.getElem?_toArray]; rfl
    go_simp
    refine (quarter7_c x0 x1 x2 x3 y0 y1 r0 r1 r2 r3 ry0 ry1 _).mono ?_
    rintro e V ⟨p, q, r, t, rfl, HQ, -, -, -, -, hb⟩
    refine hK.out _ _ (hH.trans hb) (fun hH' => ?_)
    clear hK K hH; have hH := hH'; clear hH'; try simp only [List.setIfInBounds_toArray, List.set]
    refine tka 17 ?_
    try simp only [Act.put, List.setIfInBounds_toArray, List.set_cons_zero, List.set_cons_succ]
    refine tka 18 ?_
    try simp only [Act.put, List.setIfInBounds_toArray, List.set_cons_zero, List.set_cons_succ]
    refine tkk 19 (fun _ h => h.extB _) ?_
    try simp only [Act.put, List.setIfInBounds_toArray, List.set_cons_zero, List.set_cons_succ]
    refine tkk 20 (fun _ h => h.extB _) ?_
    try simp only [Act.put, List.setIfInBounds_toArray, List.set_cons_zero, List.set_cons_succ]
    refine tkk 21 (fun _ h => h.extB _) ?_
    try simp only [Act.put, List.setIfInBounds_toArray, List.set_cons_zero, List.set_cons_succ]
    refine tka 22 ?_
    try simp only [Act.put, List.setIfInBounds_toArray, List.set_cons_zero, List.set_cons_succ]
    replace HM := HM.out.later hH
    replace c0 := cell_later hH c0
    replace f0 := froz_later hH hlt f0
    replace c1 := cell_later hH c1
    replace f1 := froz_later hH hlt f1
    replace c2 := cell_later hH c2
    replace f2 := froz_later hH hlt f2
    replace c3 := cell_later hH c3
    replace f3 := froz_later hH hlt f3
    clear hb
    refine wpAnyK_last (k := 23) (o := ?o23m5_) ?h23m5_ (by kernel_rfl) (fun K hK => ?_)
    case h23m5_ => simp only [List.getElem?_toArray]; rfl
    go_simp
    refine hK.out _ _ ((hH.extB _).set 1 _) (fun hH' => ?_)
    clear hK K hH; have hH := hH'; clear hH'; try simp only [List.setIfInBounds_toArray, List.set]
    refine tk 24 ?_
    try simp only [Act.put, List.setIfInBounds_toArray, List.set_cons_zero, List.set_cons_succ]
    refine rdy 25 (fun K hK => ?_)
    go_simp
    refine hK.out _ _ (hH.set 6 _) (fun hH' => ?_)
    clear hK K hH; have hH := hH'; clear hH'; try simp only [List.setIfInBounds_toArray, List.set]
    refine tk 26 ?_
    try simp only [Act.put, List.setIfInBounds_toArray, List.set_cons_zero, List.set_cons_succ]
    refine rdy 27 (fun K hK => ?_)
    go_simp
    refine hK.out _ _ (hH.set 11 _) (fun hH' => ?_)
    clear hK K hH; have hH := hH'; clear hH'; try simp only [List.setIfInBounds_toArray, List.set]
    refine tk 28 ?_
    try simp only [Act.put, List.setIfInBounds_toArray, List.set_cons_zero, List.set_cons_succ]
    refine rdy 29 (fun K hK => ?_)
    go_simp
    refine hK.out _ _ (hH.set 12 _) (fun hH' => ?_)
    clear hK K hH; have hH := hH'; clear hH'; try simp only [List.setIfInBounds_toArray, List.set]
    refine wpAnyH_done (by kernel_rfl) ?_ _
    refine NoPanic.normal ?_
    have HM' := HM.mixed k1 k2 k3 1 6 11 12 (by decide) (by decide) (by decide) (by decide) HX0.out HX1.out HX2.out HX3.out HQ.out
    go_wp2_with fail
    go_meet
    case rel => exact ⟨bg7 L5 1 6 11 12 y0 y1, by unfold Hid; rw [HY0.out, HY1.out, HN0.out, HN1.out, HL.out]; rfl, bg7_w HW.out _ _ _ _ _ _, HM'⟩
  case rest =>
  obtain ⟨L6, HL, HW, HM⟩ := hcut
  refine (‹∀ (a : Act) (w : World), Code.wp Tryz.prog _ _ a w → _› _ _ ?_)
  refine cast_code (c := bodyAt 7 Tryz.f68.body) (by kernel_rfl) ?_
  exact mixed_t6 L M s HWM HSO w q1 q2 q3 k1 k2 k3 wc L6 HL HW HM u7 u8 u9 u10 u11 u12 u13 u14 u15 u16 u17 u18 u19 u20 u21 u22 u23 u24 u25 u26 u27 u28 u29 u30 u31 u32 u33 u34 u35 u36 u37 u38 u39 u40 u41 u42 u43 u44 u45 u46 u47 u48 u49 u50 u51 u52 u53 u54 u55 u56 u57 u58 u59 u60 u61 u62 u63 u64 u65 u66 u67 u68 u69 u70 u71 u72 u73 u74 u75 u76 u77 u78 u79 u80 u81 u82 u83 u84 u85 u86 u87 u88 u89 u90 u91 u92 u93 u94 u95 u96 u97 u98 u99 u100 u101 u102 u103 u104 u105 u106 u107 u108 u109 u110 u111 u112 u113 u114 u115 u116 u117 u118 u119 u120 u121 u122 u123 u124 u125 u126 u127 u128 u129 u130 u131 u132 u133 u134 u135 u136 u137 u138 u139 u140 u141 u142 u143 u144 u145 u146 u147 u148 u149 u150 u151 u152 u153 u154 u155 u156 u157 u158 u159 u160 u161 u162 u163 u164 u165 u166 u167 u168 u169 u170 u171 u172 u173 u174 u175 u176 u177 u178 u179 u180 u181 u182 u183 u184 u185 u186 u187 u188 u189 u190 u191 u192 u193 u194 u195 u196 u197 u198 u199 u200 u201 u202 u203 u204 u205 u206 u207 u208 u209 u210 u211 u212 u213 u214 u215

set_option maxRecDepth 8000 in
set_option maxHeartbeats 8000000 in
theorem mixed_t2 (L M : List Int) (s : List Nat) (HWM : Hid (Wn 16 M)) (HSO : Hid (So s)) (w : World) (q1 q2 q3 : Nat) (k1 : w.heap.size < q1) (k2 : w.heap.size < q2) (k3 : w.heap.size < q3) (wc : World) (L2 : List Int) (HL : Hid (L2 = gs7 M s L 2)) (HW : Hid (Wn 16 L2)) (HM : Hid (Mx w q1 q2 q3 L2 M s wc))
    (u7 u8 u9 u10 u11 u12 u13 u14 u15 u16 u17 u18 u19 u20 u21 u22 u23 u24 u25 u26 u27 u28 u29 u30 u31 u32 u33 u34 u35 u36 u37 u38 u39 u40 u41 u42 u43 u44 u45 u46 u47 u48 u49 u50 u51 u52 u53 u54 u55 u56 u57 u58 u59 u60 u61 u62 u63 u64 u65 u66 u67 u68 u69 u70 u71 u72 u73 u74 u75 u76 u77 u78 u79 u80 u81 u82 u83 u84 u85 u86 u87 u88 u89 u90 u91 u92 u93 u94 u95 u96 u97 u98 u99 u100 u101 u102 u103 u104 u105 u106 u107 u108 u109 u110 u111 u112 u113 u114 u115 u116 u117 u118 u119 u120 u121 u122 u123 u124 u125 u126 u127 u128 u129 u130 u131 u132 u133 u134 u135 u136 u137 u138 u139 u140 u141 u142 u143 u144 u145 u146 u147 u148 u149 u150 u151 u152 u153 u154 u155 u156 u157 u158 u159 u160 u161 u162 u163 u164 u165 u166 u167 u168 u169 u170 u171 u172 u173 u174 u175 u176 u177 u178 u179 u180 u181 u182 u183 u184 u185 u186 u187 u188 u189 u190 u191 u192 u193 u194 u195 u196 u197 u198 u199 u200 u201 u202 u203 u204 u205 u206 u207 u208 u209 u210 u211 u212 u213 u214 u215 : Value) :
    Code.wp Tryz.prog (bodyAt 3 Tryz.f68.body) (bodyPost Tryz.prog Tryz.f68 (fun e w' => ∃ L', e = .returned (.agg (List.map (Value.int .u32) L').toArray) ∧ Hid (L' = gs7 M s L 8) ∧ Wn 16 L' ∧ Below w.heap.size w w')) { tmps := #[(.agg (List.map (Value.int .u32) L).toArray), (.agg (List.map (Value.int .u32) M).toArray), .agg (List.map nb8 s).toArray, .pointer (some ⟨w.heap.size, 0, none⟩), .pointer (some ⟨q1, 0, none⟩), .pointer (some ⟨q2, 0, none⟩), .pointer (some ⟨q3, 0, none⟩), u7, u8, u9, u10, u11, u12, u13, u14, u15, u16, u17, u18, u19, u20, u21, u22, u23, u24, u25, u26, u27, u28, u29, u30, u31, u32, u33, u34, u35, u36, u37, u38, u39, u40, u41, u42, u43, u44, u45, u46, u47, u48, u49, u50, u51, u52, u53, u54, u55, u56, u57, u58, u59, u60, u61, u62, u63, u64, u65, u66, u67, u68, u69, u70, u71, u72, u73, u74, u75, u76, u77, u78, u79, u80, u81, u82, u83, u84, u85, u86, u87, u88, u89, u90, u91, u92, u93, u94, u95, u96, u97, u98, u99, u100, u101, u102, u103, u104, u105, u106, u107, u108, u109, u110, u111, u112, u113, u114, u115, u116, u117, u118, u119, u120, u121, u122, u123, u124, u125, u126, u127, u128, u129, u130, u131, u132, u133, u134, u135, u136, u137, u138, u139, u140, u141, u142, u143, u144, u145, u146, u147, u148, u149, u150, u151, u152, u153, u154, u155, u156, u157, u158, u159, u160, u161, u162, u163, u164, u165, u166, u167, u168, u169, u170, u171, u172, u173, u174, u175, u176, u177, u178, u179, u180, u181, u182, u183, u184, u185, u186, u187, u188, u189, u190, u191, u192, u193, u194, u195, u196, u197, u198, u199, u200, u201, u202, u203, u204, u205, u206, u207, u208, u209, u210, u211, u212, u213, u214, u215], defers := [] } wc := by
  delta Tryz.f68
  dsimp only [bodyAt, codeAt]
  go_upto_region 3 with fail
  go_cut [] from 7 (fun wx => ∃ L3 : List Int, Hid (L3 = gs7 M s L 3) ∧ Hid (Wn 16 L3) ∧ Hid (Mx w q1 q2 q3 L3 M s wx))
  case first =>
    obtain ⟨x0, c0, f0, r0, HX0⟩ := wn_word HM.out.v HW.out 2 (by decide)
    obtain ⟨x1, c1, f1, r1, HX1⟩ := wn_word HM.out.v HW.out 6 (by decide)
    obtain ⟨x2, c2, f2, r2, HX2⟩ := wn_word HM.out.v HW.out 10 (by decide)
    obtain ⟨x3, c3, f3, r3, HX3⟩ := wn_word HM.out.v HW.out 14 (by decide)
    have t0 := so_cell HM.out.s HSO.out 4 (by decide)
    have t1 := so_cell HM.out.s HSO.out 5 (by decide)
    have l0 := HSO.out.lt 4
    have l1 := HSO.out.lt 5
    obtain ⟨n0, hn0⟩ : ∃ n : Nat, n = s[4]! := ⟨_, rfl⟩
    obtain ⟨n1, hn1⟩ : ∃ n : Nat, n = s[5]! := ⟨_, rfl⟩
    rw [← hn0] at t0 l0
    rw [← hn1] at t1 l1
    have HN0 : Hid (n0 = s[4]!) := hn0
    have HN1 : Hid (n1 = s[5]!) := hn1
    clear hn0 hn1
    obtain ⟨y0, d0, -, ry0, HY0⟩ := wn_word HM.out.m HWM.out n0 l0
    obtain ⟨y1, d1, -, ry1, HY1⟩ := wn_word HM.out.m HWM.out n1 l1
    have g0 : (n0 : Int) < 16 := by omega
    have g1 : (n1 : Int) < 16 := by omega
    have xc0 : ∀ u, Ext wc u → u.cell? ⟨w.heap.size, 2, none⟩ = some (.int .u32 x0) := fun u hu => hu.cell c0
    have xc1 : ∀ u, Ext wc u → u.cell? ⟨w.heap.size, 6, none⟩ = some (.int .u32 x1) := fun u hu => hu.cell c1
    have xc2 : ∀ u, Ext wc u → u.cell? ⟨w.heap.size, 10, none⟩ = some (.int .u32 x2) := fun u hu => hu.cell c2
    have xc3 : ∀ u, Ext wc u → u.cell? ⟨w.heap.size, 14, none⟩ = some (.int .u32 x3) := fun u hu => hu.cell c3
    have xt0 : ∀ u, Ext wc u → u.cell? ⟨q2, 4, none⟩ = some (.int .u8 n0) := fun u hu => hu.cell t0
    have xt1 : ∀ u, Ext wc u → u.cell? ⟨q2, 5, none⟩ = some (.int .u8 n1) := fun u hu => hu.cell t1
    have xd0 : ∀ u, Ext wc u → u.cell? ⟨q1, n0, none⟩ = some (.int .u32 y0) := fun u hu => hu.cell d0
    have xd1 : ∀ u, Ext wc u → u.cell? ⟨q1, n1, none⟩ = some (.int .u32 y1) := fun u hu => hu.cell d1
    have hlt := HM.out.v.lt (by decide)
    clear t0 t1 d0 d1
    refine wp_region_noPanic ?_
    refine wp_region_two (k := 23) (Ext wc) (ExtB w.heap.size wc) (by kernel_rfl) (Ext.refl _).drew (fun hH => ?_)
    change wpAnyK _ _ _ _ _ _ _ _ #[false, false, false, false, false, false, false, false, false, false, false, false, false, false, false, false, false, false, false, false, false, false, false, false, false, false, false, false, false, false] _ _
    refine tka 0 ?_
    try simp only [Act.put, List.setIfInBounds_toArray, List.set_cons_zero, List.set_cons_succ]
    refine tka 1 ?_ (hy := by (intro u hu; (have hx := xc0 u hu; go_simp) <;> with_reducible rfl))
    try simp only [Act.put, List.setIfInBounds_toArray, List.set_cons_zero, List.set_cons_succ]
    refine tka 2 ?_
    try simp only [Act.put, List.setIfInBounds_toArray, List.set_cons_zero, List.set_cons_succ]
    refine tka 3 ?_ (hy := by (intro u hu; (have hx := xc1 u hu; go_simp) <;> with_reducible rfl))
    try simp only [Act.put, List.setIfInBounds_toArray, List.set_cons_zero, List.set_cons_succ]
    refine tka 4 ?_
    try simp only [Act.put, List.setIfInBounds_toArray, List.set_cons_zero, List.set_cons_succ]
    refine tka 5 ?_ (hy := by (intro u hu; (have hx := xc2 u hu; go_simp) <;> with_reducible rfl))
    try simp only [Act.put, List.setIfInBounds_toArray, List.set_cons_zero, List.set_cons_succ]
    refine tka 6 ?_
    try simp only [Act.put, List.setIfInBounds_toArray, List.set_cons_zero, List.set_cons_succ]
    refine tka 7 ?_ (hy := by (intro u hu; (have hx := xc3 u hu; go_simp) <;> with_reducible rfl))
    try simp only [Act.put, List.setIfInBounds_toArray, List.set_cons_zero, List.set_cons_succ]
    refine tka 8 ?_
    try simp only [Act.put, List.setIfInBounds_toArray, List.set_cons_zero, List.set_cons_succ]
    refine tka 9 ?_ (hy := by (intro u hu; (have hx := xt0 u hu; go_simp) <;> with_reducible rfl))
    try simp only [Act.put, List.setIfInBounds_toArray, List.set_cons_zero, List.set_cons_succ]
    refine tka 10 ?_
    try simp only [Act.put, List.setIfInBounds_toArray, List.set_cons_zero, List.set_cons_succ]
    refine tka 11 ?_ (hy := by (intro u hu; (have hx := xd0 u hu; go_simp) <;> with_reducible rfl))
    try simp only [Act.put, List.setIfInBounds_toArray, List.set_cons_zero, List.set_cons_succ]
    refine tka 12 ?_
    try simp only [Act.put, List.setIfInBounds_toArray, List.set_cons_zero, List.set_cons_succ]
    refine tka 13 ?_ (hy := by (intro u hu; (have hx := xt1 u hu; go_simp) <;> with_reducible rfl))
    try simp only [Act.put, List.setIfInBounds_toArray, List.set_cons_zero, List.set_cons_succ]
    refine tka 14 ?_
    try simp only [Act.put, List.setIfInBounds_toArray, List.set_cons_zero, List.set_cons_succ]
    refine tka 15 ?_ (hy := by (intro u hu; (have hx := xd1 u hu; go_simp) <;> with_reducible rfl))
    try simp only [Act.put, List.setIfInBounds_toArray, List.set_cons_zero, List.set_cons_succ]
    clear xc0 xc1 xc2 xc3 xt0 xt1 xd0 xd1
    refine wpAnyK_one (i := 16) (o := ?o16m2_) ?h16m2_ (by decide) (by kernel_rfl) (fun K hK => ?_)
    case h16m2_ => simp only [List.getElem?_toArray]; rfl
    go_simp
    refine (quarter7_c x0 x1 x2 x3 y0 y1 r0 r1 r2 r3 ry0 ry1 _).mono ?_
    rintro e V ⟨p, q, r, t, rfl, HQ, -, -, -, -, hb⟩
    refine hK.out _ _ (hH.trans hb) (fun hH' => ?_)
    clear hK K hH; have hH := hH'; clear hH'; try simp only [List.setIfInBounds_toArray, List.set]
    refine tka 17 ?_
    try simp only [Act.put, List.setIfInBounds_toArray, List.set_cons_zero, List.set_cons_succ]
    refine tka 18 ?_
    try simp only [Act.put, List.setIfInBounds_toArray, List.set_cons_zero, List.set_cons_succ]
    refine tkk 19 (fun _ h => h.extB _) ?_
    try simp only [Act.put, List.setIfInBounds_toArray, List.set_cons_zero, List.set_cons_succ]
    refine tkk 20 (fun _ h => h.extB _) ?_
    try simp only [Act.put, List.setIfInBounds_toArray, List.set_cons_zero, List.set_cons_succ]
    refine tkk 21 (fun _ h => h.extB _) ?_
    try simp only [Act.put, List.setIfInBounds_toArray, List.set_cons_zero, List.set_cons_succ]
    refine tka 22 ?_
    try simp only [Act.put, List.setIfInBounds_toArray, List.set_cons_zero, List.set_cons_succ]
    replace HM := HM.out.later hH
    replace c0 := cell_later hH c0
    replace f0 := froz_later hH hlt f0
    replace c1 := cell_later hH c1
    replace f1 := froz_later hH hlt f1
    replace c2 := cell_later hH c2
    replace f2 := froz_later hH hlt f2
    replace c3 := cell_later hH c3
    replace f3 := froz_later hH hlt f3
    clear hb
    refine wpAnyK_last (k := 23) (o := ?o23m2_) ?h23m2_ (by kernel_rfl) (fun K hK => ?_)
    case h23m2_ => simp only [List.getElem?_toArray]; rfl
    go_simp
    refine hK.out _ _ ((hH.extB _).set 2 _) (fun hH' => ?_)
    clear hK K hH; have hH := hH'; clear hH'; try simp only [List.setIfInBounds_toArray, List.set]
    refine tk 24 ?_
    try simp only [Act.put, List.setIfInBounds_toArray, List.set_cons_zero, List.set_cons_succ]
    refine rdy 25 (fun K hK => ?_)
    go_simp
    refine hK.out _ _ (hH.set 6 _) (fun hH' => ?_)
    clear hK K hH; have hH := hH'; clear hH'; try simp only [List.setIfInBounds_toArray, List.set]
    refine tk 26 ?_
    try simp only [Act.put, List.setIfInBounds_toArray, List.set_cons_zero, List.set_cons_succ]
    refine rdy 27 (fun K hK => ?_)
    go_simp
    refine hK.out _ _ (hH.set 10 _) (fun hH' => ?_)
    clear hK K hH; have hH := hH'; clear hH'; try simp only [List.setIfInBounds_toArray, List.set]
    refine tk 28 ?_
    try simp only [Act.put, List.setIfInBounds_toArray, List.set_cons_zero, List.set_cons_succ]
    refine rdy 29 (fun K hK => ?_)
    go_simp
    refine hK.out _ _ (hH.set 14 _) (fun hH' => ?_)
    clear hK K hH; have hH := hH'; clear hH'; try simp only [List.setIfInBounds_toArray, List.set]
    refine wpAnyH_done (by kernel_rfl) ?_ _
    refine NoPanic.normal ?_
    have HM' := HM.mixed k1 k2 k3 2 6 10 14 (by decide) (by decide) (by decide) (by decide) HX0.out HX1.out HX2.out HX3.out HQ.out
    go_wp2_with fail
    go_meet
    case rel => exact ⟨bg7 L2 2 6 10 14 y0 y1, by unfold Hid; rw [HY0.out, HY1.out, HN0.out, HN1.out, HL.out]; rfl, bg7_w HW.out _ _ _ _ _ _, HM'⟩
  case rest =>
  obtain ⟨L3, HL, HW, HM⟩ := hcut
  go_upto_region 4 with fail
  go_cut [] from 7 (fun wx => ∃ L4 : List Int, Hid (L4 = gs7 M s L 4) ∧ Hid (Wn 16 L4) ∧ Hid (Mx w q1 q2 q3 L4 M s wx))
  case first =>
    obtain ⟨x0, c0, f0, r0, HX0⟩ := wn_word HM.out.v HW.out 3 (by decide)
    obtain ⟨x1, c1, f1, r1, HX1⟩ := wn_word HM.out.v HW.out 7 (by decide)
    obtain ⟨x2, c2, f2, r2, HX2⟩ := wn_word HM.out.v HW.out 11 (by decide)
    obtain ⟨x3, c3, f3, r3, HX3⟩ := wn_word HM.out.v HW.out 15 (by decide)
    have t0 := so_cell HM.out.s HSO.out 6 (by decide)
    have t1 := so_cell HM.out.s HSO.out 7 (by decide)
    have l0 := HSO.out.lt 6
    have l1 := HSO.out.lt 7
    obtain ⟨n0, hn0⟩ : ∃ n : Nat, n = s[6]! := ⟨_, rfl⟩
    obtain ⟨n1, hn1⟩ : ∃ n : Nat, n = s[7]! := ⟨_, rfl⟩
    rw [← hn0] at t0 l0
    rw [← hn1] at t1 l1
    have HN0 : Hid (n0 = s[6]!) := hn0
    have HN1 : Hid (n1 = s[7]!) := hn1
    clear hn0 hn1
    obtain ⟨y0, d0, -, ry0, HY0⟩ := wn_word HM.out.m HWM.out n0 l0
    obtain ⟨y1, d1, -, ry1, HY1⟩ := wn_word HM.out.m HWM.out n1 l1
    have g0 : (n0 : Int) < 16 := by omega
    have g1 : (n1 : Int) < 16 := by omega
    have xc0 : ∀ u, Ext wc u → u.cell? ⟨w.heap.size, 3, none⟩ = some (.int .u32 x0) := fun u hu => hu.cell c0
    have xc1 : ∀ u, Ext wc u → u.cell? ⟨w.heap.size, 7, none⟩ = some (.int .u32 x1) := fun u hu => hu.cell c1
    have xc2 : ∀ u, Ext wc u → u.cell? ⟨w.heap.size, 11, none⟩ = some (.int .u32 x2) := fun u hu => hu.cell c2
    have xc3 : ∀ u, Ext wc u → u.cell? ⟨w.heap.size, 15, none⟩ = some (.int .u32 x3) := fun u hu => hu.cell c3
    have xt0 : ∀ u, Ext wc u → u.cell? ⟨q2, 6, none⟩ = some (.int .u8 n0) := fun u hu => hu.cell t0
    have xt1 : ∀ u, Ext wc u → u.cell? ⟨q2, 7, none⟩ = some (.int .u8 n1) := fun u hu => hu.cell t1
    have xd0 : ∀ u, Ext wc u → u.cell? ⟨q1, n0, none⟩ = some (.int .u32 y0) := fun u hu => hu.cell d0
    have xd1 : ∀ u, Ext wc u → u.cell? ⟨q1, n1, none⟩ = some (.int .u32 y1) := fun u hu => hu.cell d1
    have hlt := HM.out.v.lt (by decide)
    clear t0 t1 d0 d1
    refine wp_region_noPanic ?_
    refine wp_region_two (k := 23) (Ext wc) (ExtB w.heap.size wc) (by kernel_rfl) (Ext.refl _).drew (fun hH => ?_)
    change wpAnyK _ _ _ _ _ _ _ _ #[false, false, false, false, false, false, false, false, false, false, false, false, false, false, false, false, false, false, false, false, false, false, false, false, false, false, false, false, false, false] _ _
    refine tka 0 ?_
    try simp only [Act.put, List.setIfInBounds_toArray, List.set_cons_zero, List.set_cons_succ]
    refine tka 1 ?_ (hy := by (intro u hu; (have hx := xc0 u hu; go_simp) <;> with_reducible rfl))
    try simp only [Act.put, List.setIfInBounds_toArray, List.set_cons_zero, List.set_cons_succ]
    refine tka 2 ?_
    try simp only [Act.put, List.setIfInBounds_toArray, List.set_cons_zero, List.set_cons_succ]
    refine tka 3 ?_ (hy := by (intro u hu; (have hx := xc1 u hu; go_simp) <;> with_reducible rfl))
    try simp only [Act.put, List.setIfInBounds_toArray, List.set_cons_zero, List.set_cons_succ]
    refine tka 4 ?_
    try simp only [Act.put, List.setIfInBounds_toArray, List.set_cons_zero, List.set_cons_succ]
    refine tka 5 ?_ (hy := by (intro u hu; (have hx := xc2 u hu; go_simp) <;> with_reducible rfl))
    try simp only [Act.put, List.setIfInBounds_toArray, List.set_cons_zero, List.set_cons_succ]
    refine tka 6 ?_
    try simp only [Act.put, List.setIfInBounds_toArray, List.set_cons_zero, List.set_cons_succ]
    refine tka 7 ?_ (hy := by (intro u hu; (have hx := xc3 u hu; go_simp) <;> with_reducible rfl))
    try simp only [Act.put, List.setIfInBounds_toArray, List.set_cons_zero, List.set_cons_succ]
    refine tka 8 ?_
    try simp only [Act.put, List.setIfInBounds_toArray, List.set_cons_zero, List.set_cons_succ]
    refine tka 9 ?_ (hy := by (intro u hu; (have hx := xt0 u hu; go_simp) <;> with_reducible rfl))
    try simp only [Act.put, List.setIfInBounds_toArray, List.set_cons_zero, List.set_cons_succ]
    refine tka 10 ?_
    try simp only [Act.put, List.setIfInBounds_toArray, List.set_cons_zero, List.set_cons_succ]
    refine tka 11 ?_ (hy := by (intro u hu; (have hx := xd0 u hu; go_simp) <;> with_reducible rfl))
    try simp only [Act.put, List.setIfInBounds_toArray, List.set_cons_zero, List.set_cons_succ]
    refine tka 12 ?_
    try simp only [Act.put, List.setIfInBounds_toArray, List.set_cons_zero, List.set_cons_succ]
    refine tka 13 ?_ (hy := by (intro u hu; (have hx := xt1 u hu; go_simp) <;> with_reducible rfl))
    try simp only [Act.put, List.setIfInBounds_toArray, List.set_cons_zero, List.set_cons_succ]
    refine tka 14 ?_
    try simp only [Act.put, List.setIfInBounds_toArray, List.set_cons_zero, List.set_cons_succ]
    refine tka 15 ?_ (hy := by (intro u hu; (have hx := xd1 u hu; go_simp) <;> with_reducible rfl))
    try simp only [Act.put, List.setIfInBounds_toArray, List.set_cons_zero, List.set_cons_succ]
    clear xc0 xc1 xc2 xc3 xt0 xt1 xd0 xd1
    refine wpAnyK_one (i := 16) (o := ?o16m3_) ?h16m3_ (by decide) (by kernel_rfl) (fun K hK => ?_)
    case h16m3_ => simp only [List.getElem?_toArray]; rfl
    go_simp
    refine (quarter7_c x0 x1 x2 x3 y0 y1 r0 r1 r2 r3 ry0 ry1 _).mono ?_
    rintro e V ⟨p, q, r, t, rfl, HQ, -, -, -, -, hb⟩
    refine hK.out _ _ (hH.trans hb) (fun hH' => ?_)
    clear hK K hH; have hH := hH'; clear hH'; try simp only [List.setIfInBounds_toArray, List.set]
    refine tka 17 ?_
    try simp only [Act.put, List.setIfInBounds_toArray, List.set_cons_zero, List.set_cons_succ]
    refine tka 18 ?_
    try simp only [Act.put, List.setIfInBounds_toArray, List.set_cons_zero, List.set_cons_succ]
    refine tkk 19 (fun _ h => h.extB _) ?_
    try simp only [Act.put, List.setIfInBounds_toArray, List.set_cons_zero, List.set_cons_succ]
    refine tkk 20 (fun _ h => h.extB _) ?_
    try simp only [Act.put, List.setIfInBounds_toArray, List.set_cons_zero, List.set_cons_succ]
    refine tkk 21 (fun _ h => h.extB _) ?_
    try simp only [Act.put, List.setIfInBounds_toArray, List.set_cons_zero, List.set_cons_succ]
    refine tka 22 ?_
    try simp only [Act.put, List.setIfInBounds_toArray, List.set_cons_zero, List.set_cons_succ]
    replace HM := HM.out.later hH
    replace c0 := cell_later hH c0
    replace f0 := froz_later hH hlt f0
    replace c1 := cell_later hH c1
    replace f1 := froz_later hH hlt f1
    replace c2 := cell_later hH c2
    replace f2 := froz_later hH hlt f2
    replace c3 := cell_later hH c3
    replace f3 := froz_later hH hlt f3
    clear hb
    refine wpAnyK_last (k := 23) (o := ?o23m3_) ?h23m3_ (by kernel_rfl) (fun K hK => ?_)
    case h23m3_ => simp only [List.getElem?_toArray]; rfl
    go_simp
    refine hK.out _ _ ((hH.extB _).set 3 _) (fun hH' => ?_)
    clear hK K hH; have hH := hH'; clear hH'; try simp only [List.setIfInBounds_toArray, List.set]
    refine tk 24 ?_
    try simp only [Act.put, List.setIfInBounds_toArray, List.set_cons_zero, List.set_cons_succ]
    refine rdy 25 (fun K hK => ?_)
    go_simp
    refine hK.out _ _ (hH.set 7 _) (fun hH' => ?_)
    clear hK K hH; have hH := hH'; clear hH'; try simp only [List.setIfInBounds_toArray, List.set]
    refine tk 26 ?_
    try simp only [Act.put, List.setIfInBounds_toArray, List.set_cons_zero, List.set_cons_succ]
    refine rdy 27 (fun K hK => ?_)
    go_simp
    refine hK.out _ _ (hH.set 11 _) (fun hH' => ?_)
    clear hK K hH; have hH := hH'; clear hH'; try simp only [List.setIfInBounds_toArray, List.set]
    refine tk 28 ?_
    try simp only [Act.put, List.setIfInBounds_toArray, List.set_cons_zero, List.set_cons_succ]
    refine rdy 29 (fun K hK => ?_)
    go_simp
    refine hK.out _ _ (hH.set 15 _) (fun hH' => ?_)
    clear hK K hH; have hH := hH'; clear hH'; try simp only [List.setIfInBounds_toArray, List.set]
    refine wpAnyH_done (by kernel_rfl) ?_ _
    refine NoPanic.normal ?_
    have HM' := HM.mixed k1 k2 k3 3 7 11 15 (by decide) (by decide) (by decide) (by decide) HX0.out HX1.out HX2.out HX3.out HQ.out
    go_wp2_with fail
    go_meet
    case rel => exact ⟨bg7 L3 3 7 11 15 y0 y1, by unfold Hid; rw [HY0.out, HY1.out, HN0.out, HN1.out, HL.out]; rfl, bg7_w HW.out _ _ _ _ _ _, HM'⟩
  case rest =>
  obtain ⟨L4, HL, HW, HM⟩ := hcut
  refine (‹∀ (a : Act) (w : World), Code.wp Tryz.prog _ _ a w → _› _ _ ?_)
  refine cast_code (c := bodyAt 5 Tryz.f68.body) (by kernel_rfl) ?_
  exact mixed_t4 L M s HWM HSO w q1 q2 q3 k1 k2 k3 wc L4 HL HW HM u7 u8 u9 u10 u11 u12 u13 u14 u15 u16 u17 u18 u19 u20 u21 u22 u23 u24 u25 u26 u27 u28 u29 u30 u31 u32 u33 u34 u35 u36 u37 u38 u39 u40 u41 u42 u43 u44 u45 u46 u47 u48 u49 u50 u51 u52 u53 u54 u55 u56 u57 u58 u59 u60 u61 u62 u63 u64 u65 u66 u67 u68 u69 u70 u71 u72 u73 u74 u75 u76 u77 u78 u79 u80 u81 u82 u83 u84 u85 u86 u87 u88 u89 u90 u91 u92 u93 u94 u95 u96 u97 u98 u99 u100 u101 u102 u103 u104 u105 u106 u107 u108 u109 u110 u111 u112 u113 u114 u115 u116 u117 u118 u119 u120 u121 u122 u123 u124 u125 u126 u127 u128 u129 u130 u131 u132 u133 u134 u135 u136 u137 u138 u139 u140 u141 u142 u143 u144 u145 u146 u147 u148 u149 u150 u151 u152 u153 u154 u155 u156 u157 u158 u159 u160 u161 u162 u163 u164 u165 u166 u167 u168 u169 u170 u171 u172 u173 u174 u175 u176 u177 u178 u179 u180 u181 u182 u183 u184 u185 u186 u187 u188 u189 u190 u191 u192 u193 u194 u195 u196 u197 u198 u199 u200 u201 u202 u203 u204 u205 u206 u207 u208 u209 u210 u211 u212 u213 u214 u215

set_option maxRecDepth 8000 in
set_option maxHeartbeats 8000000 in
theorem mixed_c (L M : List Int) (s : List Nat) (hL : Wn 16 L) (hM : Wn 16 M) (hs : So s) (w : World) :
    Calls Tryz.prog 68 #[(.agg (List.map (Value.int .u32) L).toArray), (.agg (List.map (Value.int .u32) M).toArray), .agg (List.map nb8 s).toArray] w fun e w' => ∃ L', e = .returned (.agg (List.map (Value.int .u32) L').toArray) ∧ Hid (L' = gs7 M s L 8) ∧ Wn 16 L' ∧ Below w.heap.size w w' := by
  have HW : Hid (Wn 16 L) := hL
  have HWM : Hid (Wn 16 M) := hM
  have HSO : Hid (So s) := hs
  clear hL hM hs
  go_enter Tryz.func68, Tryz.ntmps68
  go_upto_region 1 with fail
  obtain ⟨wc, hwc⟩ : ∃ W, W = (((w.alloc (.cells (List.map (Value.int .u32) L).toArray 102)).alloc (.cells (List.map (Value.int .u32) M).toArray 102)).alloc (.cells (List.map nb8 s).toArray 99)).alloc (.cells zw16 102) := ⟨_, rfl⟩
  obtain ⟨q1, hq1⟩ : ∃ q, q = w.heap.size + 1 := ⟨_, rfl⟩
  obtain ⟨q2, hq2⟩ : ∃ q, q = w.heap.size + 1 + 1 := ⟨_, rfl⟩
  obtain ⟨q3, hq3⟩ : ∃ q, q = w.heap.size + 1 + 1 + 1 := ⟨_, rfl⟩
  rw [← hq3, ← hq2, ← hq1, ← hwc]
  have HM : Hid (Mx w q1 q2 q3 L M s wc) := by
    unfold Hid
    rw [hwc, hq1, hq2, hq3]
    refine ⟨(ar_box w _ 16 HW.out.map_len _).later (bel3 _ _ _ _), ?_, ?_, ?_, bel4' _ _ _ _ _⟩
    · have := (ar_box (w.alloc (.cells (List.map (Value.int .u32) L).toArray 102)) _ 16 HWM.out.map_len 102).later (bel2 _ (.cells (List.map nb8 s).toArray 99) (.cells zw16 102)); simpa using this
    · have := (ar_box ((w.alloc (.cells (List.map (Value.int .u32) L).toArray 102)).alloc (.cells (List.map (Value.int .u32) M).toArray 102)) (List.map nb8 s) 16 (by rw [List.length_map, HSO.out.len]) 99).later (bel1 _ (.cells zw16 102)); simpa using this
    · have := there_new (((w.alloc (.cells (List.map (Value.int .u32) L).toArray 102)).alloc (.cells (List.map (Value.int .u32) M).toArray 102)).alloc (.cells (List.map nb8 s).toArray 99)) 16 zw16 rfl 102; simpa using this
  have k1 : w.heap.size < q1 := by omega
  have k2 : w.heap.size < q2 := by omega
  have k3 : w.heap.size < q3 := by omega
  have k0 : w.heap.size ≠ q2 := by omega
  clear hwc hq1 hq2 hq3
  have HL : Hid (L = gs7 M s L 0) := rfl
  go_upto_region 1 with fail
  go_cut [] from 7 (fun wx => ∃ L1 : List Int, Hid (L1 = gs7 M s L 1) ∧ Hid (Wn 16 L1) ∧ Hid (Mx w q1 q2 q3 L1 M s wx))
  case first =>
    obtain ⟨x0, c0, f0, r0, HX0⟩ := wn_word HM.out.v HW.out 0 (by decide)
    obtain ⟨x1, c1, f1, r1, HX1⟩ := wn_word HM.out.v HW.out 4 (by decide)
    obtain ⟨x2, c2, f2, r2, HX2⟩ := wn_word HM.out.v HW.out 8 (by decide)
    obtain ⟨x3, c3, f3, r3, HX3⟩ := wn_word HM.out.v HW.out 12 (by decide)
    have t0 := so_cell HM.out.s HSO.out 0 (by decide)
    have t1 := so_cell HM.out.s HSO.out 1 (by decide)
    have l0 := HSO.out.lt 0
    have l1 := HSO.out.lt 1
    obtain ⟨n0, hn0⟩ : ∃ n : Nat, n = s[0]! := ⟨_, rfl⟩
    obtain ⟨n1, hn1⟩ : ∃ n : Nat, n = s[1]! := ⟨_, rfl⟩
    rw [← hn0] at t0 l0
    rw [← hn1] at t1 l1
    have HN0 : Hid (n0 = s[0]!) := hn0
    have HN1 : Hid (n1 = s[1]!) := hn1
    clear hn0 hn1
    obtain ⟨y0, d0, -, ry0, HY0⟩ := wn_word HM.out.m HWM.out n0 l0
    obtain ⟨y1, d1, -, ry1, HY1⟩ := wn_word HM.out.m HWM.out n1 l1
    have g0 : (n0 : Int) < 16 := by omega
    have g1 : (n1 : Int) < 16 := by omega
    have xc0 : ∀ u, Ext wc u → u.cell? ⟨w.heap.size, 0, none⟩ = some (.int .u32 x0) := fun u hu => hu.cell c0
    have xc1 : ∀ u, Ext wc u → u.cell? ⟨w.heap.size, 4, none⟩ = some (.int .u32 x1) := fun u hu => hu.cell c1
    have xc2 : ∀ u, Ext wc u → u.cell? ⟨w.heap.size, 8, none⟩ = some (.int .u32 x2) := fun u hu => hu.cell c2
    have xc3 : ∀ u, Ext wc u → u.cell? ⟨w.heap.size, 12, none⟩ = some (.int .u32 x3) := fun u hu => hu.cell c3
    have xt0 : ∀ u, Ext wc u → u.cell? ⟨q2, 0, none⟩ = some (.int .u8 n0) := fun u hu => hu.cell t0
    have xt1 : ∀ u, Ext wc u → u.cell? ⟨q2, 1, none⟩ = some (.int .u8 n1) := fun u hu => hu.cell t1
    have xd0 : ∀ u, Ext wc u → u.cell? ⟨q1, n0, none⟩ = some (.int .u32 y0) := fun u hu => hu.cell d0
    have xd1 : ∀ u, Ext wc u → u.cell? ⟨q1, n1, none⟩ = some (.int .u32 y1) := fun u hu => hu.cell d1
    have hlt := HM.out.v.lt (by decide)
    clear t0 t1 d0 d1
    refine wp_region_noPanic ?_
    refine wp_region_two (k := 23) (Ext wc) (ExtB w.heap.size wc) (by kernel_rfl) (Ext.refl _).drew (fun hH => ?_)
    change wpAnyK _ _ _ _ _ _ _ _ #[false, false, false, false, false, false, false, false, false, false, false, false, false, false, false, false, false, false, false, false, false, false, false, false, false, false, false, false, false, false] _ _
    refine tka 0 ?_
    try simp only [Act.put, List.setIfInBounds_toArray, List.set_cons_zero, List.set_cons_succ]
    refine tka 1 ?_ (hy := by (intro u hu; (have hx := xc0 u hu; go_simp) <;> with_reducible rfl))
    try simp only [Act.put, List.setIfInBounds_toArray, List.set_cons_zero, List.set_cons_succ]
    refine tka 2 ?_
    try simp only [Act.put, List.setIfInBounds_toArray, List.set_cons_zero, List.set_cons_succ]
    refine tka 3 ?_ (hy := by (intro u hu; (have hx := xc1 u hu; go_simp) <;> with_reducible rfl))
    try simp only [Act.put, List.setIfInBounds_toArray, List.set_cons_zero, List.set_cons_succ]
    refine tka 4 ?_
    try simp only [Act.put, List.setIfInBounds_toArray, List.set_cons_zero, List.set_cons_succ]
    refine tka 5 ?_ (hy := by (intro u hu; (have hx := xc2 u hu; go_simp) <;> with_reducible rfl))
    try simp only [Act.put, List.setIfInBounds_toArray, List.set_cons_zero, List.set_cons_succ]
    refine tka 6 ?_
    try simp only [Act.put, List.setIfInBounds_toArray, List.set_cons_zero, List.set_cons_succ]
    refine tka 7 ?_ (hy := by (intro u hu; (have hx := xc3 u hu; go_simp) <;> with_reducible rfl))
    try simp only [Act.put, List.setIfInBounds_toArray, List.set_cons_zero, List.set_cons_succ]
    refine tka 8 ?_
    try simp only [Act.put, List.setIfInBounds_toArray, List.set_cons_zero, List.set_cons_succ]
    refine tka 9 ?_ (hy := by (intro u hu; (have hx := xt0 u hu; go_simp) <;> with_reducible rfl))
    try simp only [Act.put, List.setIfInBounds_toArray, List.set_cons_zero, List.set_cons_succ]
    refine tka 10 ?_
    try simp only [Act.put, List.setIfInBounds_toArray, List.set_cons_zero, List.set_cons_succ]
    refine tka 11 ?_ (hy := by (intro u hu; (have hx := xd0 u hu; go_simp) <;> with_reducible rfl))
    try simp only [Act.put, List.setIfInBounds_toArray, List.set_cons_zero, List.set_cons_succ]
    refine tka 12 ?_
    try simp only [Act.put, List.setIfInBounds_toArray, List.set_cons_zero, List.set_cons_succ]
    refine tka 13 ?_ (hy := by (intro u hu; (have hx := xt1 u hu; go_simp) <;> with_reducible rfl))
    try simp only [Act.put, List.setIfInBounds_toArray, List.set_cons_zero, List.set_cons_succ]
    refine tka 14 ?_
    try simp only [Act.put, List.setIfInBounds_toArray, List.set_cons_zero, List.set_cons_succ]
    refine tka 15 ?_ (hy := by (intro u hu; (have hx := xd1 u hu; go_simp) <;> with_reducible rfl))
    try simp only [Act.put, List.setIfInBounds_toArray, List.set_cons_zero, List.set_cons_succ]
    clear xc0 xc1 xc2 xc3 xt0 xt1 xd0 xd1
    refine wpAnyK_one (i := 16) (o := ?o16m0_) ?h16m0_ (by decide) (by kernel_rfl) (fun K hK => ?_)
    case h16m0_ => simp only [List.getElem?_toArray]; rfl
    go_simp
    refine (quarter7_c x0 x1 x2 x3 y0 y1 r0 r1 r2 r3 ry0 ry1 _).mono ?_
    rintro e V ⟨p, q, r, t, rfl, HQ, -, -, -, -, hb⟩
    refine hK.out _ _ (hH.trans hb) (fun hH' => ?_)
    clear hK K hH; have hH := hH'; clear hH'; try simp only [List.setIfInBounds_toArray, List.set]
    refine tka 17 ?_
    try simp only [Act.put, List.setIfInBounds_toArray, List.set_cons_zero, List.set_cons_succ]
    refine tka 18 ?_
    try simp only [Act.put, List.setIfInBounds_toArray, List.set_cons_zero, List.set_cons_succ]
    refine tkk 19 (fun _ h => h.extB _) ?_
    try simp only [Act.put, List.setIfInBounds_toArray, List.set_cons_zero, List.set_cons_succ]
    refine tkk 20 (fun _ h => h.extB _) ?_
    try simp only [Act.put, List.setIfInBounds_toArray, List.set_cons_zero, List.set_cons_succ]
    refine tkk 21 (fun _ h => h.extB _) ?_
    try simp only [Act.put, List.setIfInBounds_toArray, List.set_cons_zero, List.set_cons_succ]
    refine tka 22 ?_
    try simp only [Act.put, List.setIfInBounds_toArray, List.set_cons_zero, List.set_cons_succ]
    replace HM := HM.out.later hH
    replace c0 := cell_later hH c0
    replace f0 := froz_later hH hlt f0
    replace c1 := cell_later hH c1
    replace f1 := froz_later hH hlt f1
    replace c2 := cell_later hH c2
    replace f2 := froz_later hH hlt f2
    replace c3 := cell_later hH c3
    replace f3 := froz_later hH hlt f3
    clear hb
    refine wpAnyK_last (k := 23) (o := ?o23m0_) ?h23m0_ (by kernel_rfl) (fun K hK => ?_)
    case h23m0_ => simp only [List.getElem?_toArray]; rfl
    go_simp
    refine hK.out _ _ ((hH.extB _).set 0 _) (fun hH' => ?_)
    clear hK K hH; have hH := hH'; clear hH'; try simp only [List.setIfInBounds_toArray, List.set]
    refine tk 24 ?_
    try simp only [Act.put, List.setIfInBounds_toArray, List.set_cons_zero, List.set_cons_succ]
    refine rdy 25 (fun K hK => ?_)
    go_simp
    refine hK.out _ _ (hH.set 4 _) (fun hH' => ?_)
    clear hK K hH; have hH := hH'; clear hH'; try simp only [List.setIfInBounds_toArray, List.set]
    refine tk 26 ?_
    try simp only [Act.put, List.setIfInBounds_toArray, List.set_cons_zero, List.set_cons_succ]
    refine rdy 27 (fun K hK => ?_)
    go_simp
    refine hK.out _ _ (hH.set 8 _) (fun hH' => ?_)
    clear hK K hH; have hH := hH'; clear hH'; try simp only [List.setIfInBounds_toArray, List.set]
    refine tk 28 ?_
    try simp only [Act.put, List.setIfInBounds_toArray, List.set_cons_zero, List.set_cons_succ]
    refine rdy 29 (fun K hK => ?_)
    go_simp
    refine hK.out _ _ (hH.set 12 _) (fun hH' => ?_)
    clear hK K hH; have hH := hH'; clear hH'; try simp only [List.setIfInBounds_toArray, List.set]
    refine wpAnyH_done (by kernel_rfl) ?_ _
    refine NoPanic.normal ?_
    have HM' := HM.mixed k1 k2 k3 0 4 8 12 (by decide) (by decide) (by decide) (by decide) HX0.out HX1.out HX2.out HX3.out HQ.out
    go_wp2_with fail
    go_meet
    case rel => exact ⟨bg7 L 0 4 8 12 y0 y1, by unfold Hid; rw [HY0.out, HY1.out, HN0.out, HN1.out, HL.out]; rfl, bg7_w HW.out _ _ _ _ _ _, HM'⟩
  case rest =>
  obtain ⟨L1, HL, HW, HM⟩ := hcut
  go_upto_region 2 with fail
  go_cut [] from 7 (fun wx => ∃ L2 : List Int, Hid (L2 = gs7 M s L 2) ∧ Hid (Wn 16 L2) ∧ Hid (Mx w q1 q2 q3 L2 M s wx))
  case first =>
    obtain ⟨x0, c0, f0, r0, HX0⟩ := wn_word HM.out.v HW.out 1 (by decide)
    obtain ⟨x1, c1, f1, r1, HX1⟩ := wn_word HM.out.v HW.out 5 (by decide)
    obtain ⟨x2, c2, f2, r2, HX2⟩ := wn_word HM.out.v HW.out 9 (by decide)
    obtain ⟨x3, c3, f3, r3, HX3⟩ := wn_word HM.out.v HW.out 13 (by decide)
    have t0 := so_cell HM.out.s HSO.out 2 (by decide)
    have t1 := so_cell HM.out.s HSO.out 3 (by decide)
    have l0 := HSO.out.lt 2
    have l1 := HSO.out.lt 3
    obtain ⟨n0, hn0⟩ : ∃ n : Nat, n = s[2]! := ⟨_, rfl⟩
    obtain ⟨n1, hn1⟩ : ∃ n : Nat, n = s[3]! := ⟨_, rfl⟩
    rw [← hn0] at t0 l0
    rw [← hn1] at t1 l1
    have HN0 : Hid (n0 = s[2]!) := hn0
    have HN1 : Hid (n1 = s[3]!) := hn1
    clear hn0 hn1
    obtain ⟨y0, d0, -, ry0, HY0⟩ := wn_word HM.out.m HWM.out n0 l0
    obtain ⟨y1, d1, -, ry1, HY1⟩ := wn_word HM.out.m HWM.out n1 l1
    have g0 : (n0 : Int) < 16 := by omega
    have g1 : (n1 : Int) < 16 := by omega
    have xc0 : ∀ u, Ext wc u → u.cell? ⟨w.heap.size, 1, none⟩ = some (.int .u32 x0) := fun u hu => hu.cell c0
    have xc1 : ∀ u, Ext wc u → u.cell? ⟨w.heap.size, 5, none⟩ = some (.int .u32 x1) := fun u hu => hu.cell c1
    have xc2 : ∀ u, Ext wc u → u.cell? ⟨w.heap.size, 9, none⟩ = some (.int .u32 x2) := fun u hu => hu.cell c2
    have xc3 : ∀ u, Ext wc u → u.cell? ⟨w.heap.size, 13, none⟩ = some (.int .u32 x3) := fun u hu => hu.cell c3
    have xt0 : ∀ u, Ext wc u → u.cell? ⟨q2, 2, none⟩ = some (.int .u8 n0) := fun u hu => hu.cell t0
    have xt1 : ∀ u, Ext wc u → u.cell? ⟨q2, 3, none⟩ = some (.int .u8 n1) := fun u hu => hu.cell t1
    have xd0 : ∀ u, Ext wc u → u.cell? ⟨q1, n0, none⟩ = some (.int .u32 y0) := fun u hu => hu.cell d0
    have xd1 : ∀ u, Ext wc u → u.cell? ⟨q1, n1, none⟩ = some (.int .u32 y1) := fun u hu => hu.cell d1
    have hlt := HM.out.v.lt (by decide)
    clear t0 t1 d0 d1
    refine wp_region_noPanic ?_
    refine wp_region_two (k := 23) (Ext wc) (ExtB w.heap.size wc) (by kernel_rfl) (Ext.refl _).drew (fun hH => ?_)
    change wpAnyK _ _ _ _ _ _ _ _ #[false, false, false, false, false, false, false, false, false, false, false, false, false, false, false, false, false, false, false, false, false, false, false, false, false, false, false, false, false, false] _ _
    refine tka 0 ?_
    try simp only [Act.put, List.setIfInBounds_toArray, List.set_cons_zero, List.set_cons_succ]
    refine tka 1 ?_ (hy := by (intro u hu; (have hx := xc0 u hu; go_simp) <;> with_reducible rfl))
    try simp only [Act.put, List.setIfInBounds_toArray, List.set_cons_zero, List.set_cons_succ]
    refine tka 2 ?_
    try simp only [Act.put, List.setIfInBounds_toArray, List.set_cons_zero, List.set_cons_succ]
    refine tka 3 ?_ (hy := by (intro u hu; (have hx := xc1 u hu; go_simp) <;> with_reducible rfl))
    try simp only [Act.put, List.setIfInBounds_toArray, List.set_cons_zero, List.set_cons_succ]
    refine tka 4 ?_
    try simp only [Act.put, List.setIfInBounds_toArray, List.set_cons_zero, List.set_cons_succ]
    refine tka 5 ?_ (hy := by (intro u hu; (have hx := xc2 u hu; go_simp) <;> with_reducible rfl))
    try simp only [Act.put, List.setIfInBounds_toArray, List.set_cons_zero, List.set_cons_succ]
    refine tka 6 ?_
    try simp only [Act.put, List.setIfInBounds_toArray, List.set_cons_zero, List.set_cons_succ]
    refine tka 7 ?_ (hy := by (intro u hu; (have hx := xc3 u hu; go_simp) <;> with_reducible rfl))
    try simp only [Act.put, List.setIfInBounds_toArray, List.set_cons_zero, List.set_cons_succ]
    refine tka 8 ?_
    try simp only [Act.put, List.setIfInBounds_toArray, List.set_cons_zero, List.set_cons_succ]
    refine tka 9 ?_ (hy := by (intro u hu; (have hx := xt0 u hu; go_simp) <;> with_reducible rfl))
    try simp only [Act.put, List.setIfInBounds_toArray, List.set_cons_zero, List.set_cons_succ]
    refine tka 10 ?_
    try simp only [Act.put, List.setIfInBounds_toArray, List.set_cons_zero, List.set_cons_succ]
    refine tka 11 ?_ (hy := by (intro u hu; (have hx := xd0 u hu; go_simp) <;> with_reducible rfl))
    try simp only [Act.put, List.setIfInBounds_toArray, List.set_cons_zero, List.set_cons_succ]
    refine tka 12 ?_
    try simp only [Act.put, List.setIfInBounds_toArray, List.set_cons_zero, List.set_cons_succ]
    refine tka 13 ?_ (hy := by (intro u hu; (have hx := xt1 u hu; go_simp) <;> with_reducible rfl))
    try simp only [Act.put, List.setIfInBounds_toArray, List.set_cons_zero, List.set_cons_succ]
    refine tka 14 ?_
    try simp only [Act.put, List.setIfInBounds_toArray, List.set_cons_zero, List.set_cons_succ]
    refine tka 15 ?_ (hy := by (intro u hu; (have hx := xd1 u hu; go_simp) <;> with_reducible rfl))
    try simp only [Act.put, List.setIfInBounds_toArray, List.set_cons_zero, List.set_cons_succ]
    clear xc0 xc1 xc2 xc3 xt0 xt1 xd0 xd1
    refine wpAnyK_one (i := 16) (o := ?o16m1_) ?h16m1_ (by decide) (by kernel_rfl) (fun K hK => ?_)
    case h16m1_ => simp only [List.getElem?_toArray]; rfl
    go_simp
    refine (quarter7_c x0 x1 x2 x3 y0 y1 r0 r1 r2 r3 ry0 ry1 _).mono ?_
    rintro e V ⟨p, q, r, t, rfl, HQ, -, -, -, -, hb⟩
    refine hK.out _ _ (hH.trans hb) (fun hH' => ?_)
    clear hK K hH; have hH := hH'; clear hH'; try simp only [List.setIfInBounds_toArray, List.set]
    refine tka 17 ?_
    try simp only [Act.put, List.setIfInBounds_toArray, List.set_cons_zero, List.set_cons_succ]
    refine tka 18 ?_
    try simp only [Act.put, List.setIfInBounds_toArray, List.set_cons_zero, List.set_cons_succ]
    refine tkk 19 (fun _ h => h.extB _) ?_
    try simp only [Act.put, List.setIfInBounds_toArray, List.set_cons_zero, List.set_cons_succ]
    refine tkk 20 (fun _ h => h.extB _) ?_
    try simp only [Act.put, List.setIfInBounds_toArray, List.set_cons_zero, List.set_cons_succ]
    refine tkk 21 (fun _ h => h.extB _) ?_
    try simp only [Act.put, List.setIfInBounds_toArray, List.set_cons_zero, List.set_cons_succ]
    refine tka 22 ?_
    try simp only [Act.put, List.setIfInBounds_toArray, List.set_cons_zero, List.set_cons_succ]
    replace HM := HM.out.later hH
    replace c0 := cell_later hH c0
    replace f0 := froz_later hH hlt f0
    replace c1 := cell_later hH c1
    replace f1 := froz_later hH hlt f1
    replace c2 := cell_later hH c2
    replace f2 := froz_later hH hlt f2
    replace c3 := cell_later hH c3
    replace f3 := froz_later hH hlt f3
    clear hb
    refine wpAnyK_last (k := 23) (o := ?o23m1_) ?h23m1_ (by kernel_rfl) (fun K hK => ?_)
    case h23m1_ => simp only [List.getElem?_toArray]; rfl
    go_simp
    refine hK.out _ _ ((hH.extB _).set 1 _) (fun hH' => ?_)
    clear hK K hH; have hH := hH'; clear hH'; try simp only [List.setIfInBounds_toArray, List.set]
    refine tk 24 ?_
    try simp only [Act.put, List.setIfInBounds_toArray, List.set_cons_zero, List.set_cons_succ]
    refine rdy 25 (fun K hK => ?_)
    go_simp
    refine hK.out _ _ (hH.set 5 _) (fun hH' => ?_)
    clear hK K hH; have hH := hH'; clear hH'; try simp only [List.setIfInBounds_toArray, List.set]
    refine tk 26 ?_
    try simp only [Act.put, List.setIfInBounds_toArray, List.set_cons_zero, List.set_cons_succ]
    refine rdy 27 (fun K hK => ?_)
    go_simp
    refine hK.out _ _ (hH.set 9 _) (fun hH' => ?_)
    clear hK K hH; have hH := hH'; clear hH'; try simp only [List.setIfInBounds_toArray, List.set]
    refine tk 28 ?_
    try simp only [Act.put, List.setIfInBounds_toArray, List.set_cons_zero, List.set_cons_succ]
    refine rdy 29 (fun K hK => ?_)
    go_simp
    refine hK.out _ _ (hH.set 13 _) (fun hH' => ?_)
    clear hK K hH; have hH := hH'; clear hH'; try simp only [List.setIfInBounds_toArray, List.set]
    refine wpAnyH_done (by kernel_rfl) ?_ _
    refine NoPanic.normal ?_
    have HM' := HM.mixed k1 k2 k3 1 5 9 13 (by decide) (by decide) (by decide) (by decide) HX0.out HX1.out HX2.out HX3.out HQ.out
    go_wp2_with fail
    go_meet
    case rel => exact ⟨bg7 L1 1 5 9 13 y0 y1, by unfold Hid; rw [HY0.out, HY1.out, HN0.out, HN1.out, HL.out]; rfl, bg7_w HW.out _ _ _ _ _ _, HM'⟩
  case rest =>
  obtain ⟨L2, HL, HW, HM⟩ := hcut
  refine (‹∀ (a : Act) (w : World), Code.wp Tryz.prog _ _ a w → _› _ _ ?_)
  refine cast_code (c := bodyAt 3 Tryz.f68.body) (by kernel_rfl) ?_
  exact mixed_t2 L M s HWM HSO w q1 q2 q3 k1 k2 k3 wc L2 HL HW HM u7 u8 u9 u10 u11 u12 u13 u14 u15 u16 u17 u18 u19 u20 u21 u22 u23 u24 u25 u26 u27 u28 u29 u30 u31 u32 u33 u34 u35 u36 u37 u38 u39 u40 u41 u42 u43 u44 u45 u46 u47 u48 u49 u50 u51 u52 u53 u54 u55 u56 u57 u58 u59 u60 u61 u62 u63 u64 u65 u66 u67 u68 u69 u70 u71 u72 u73 u74 u75 u76 u77 u78 u79 u80 u81 u82 u83 u84 u85 u86 u87 u88 u89 u90 u91 u92 u93 u94 u95 u96 u97 u98 u99 u100 u101 u102 u103 u104 u105 u106 u107 u108 u109 u110 u111 u112 u113 u114 u115 u116 u117 u118 u119 u120 u121 u122 u123 u124 u125 u126 u127 u128 u129 u130 u131 u132 u133 u134 u135 u136 u137 u138 u139 u140 u141 u142 u143 u144 u145 u146 u147 u148 u149 u150 u151 u152 u153 u154 u155 u156 u157 u158 u159 u160 u161 u162 u163 u164 u165 u166 u167 u168 u169 u170 u171 u172 u173 u174 u175 u176 u177 u178 u179 u180 u181 u182 u183 u184 u185 u186 u187 u188 u189 u190 u191 u192 u193 u194 u195 u196 u197 u198 u199 u200 u201 u202 u203 u204 u205 u206 u207 u208 u209 u210 u211 u212 u213 u214 u215
end Go.Proofs.YtmibjgkakolhiaaGreatDoor
