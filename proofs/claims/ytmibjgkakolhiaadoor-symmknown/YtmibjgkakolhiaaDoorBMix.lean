/-
  What blake's mixed does: one round over sixteen words. No statement of the seat is proved here.
-/
import Derived.Test.YtmibjgkakolhiaaDoorBList
namespace Go.Proofs.YtmibjgkakolhiaaDoor
open Go.RowKit

set_option maxRecDepth 8000 in
theorem ws_cells {L : List Int} (h : Wn 16 L) : (List.map (Value.int .u32) L).length = 16 ∧ (∀ v ∈ (List.map (Value.int .u32) L), v.oneCell' = true) ∧ (Tryd.prog.info? 100).map (·.size) = some (List.map (Value.int .u32) L).length := by
  have e := h.map_len
  exact ⟨e, ints_oneCell _ _, by rw [e]; kernel_rfl⟩
structure Mx (w : World) (q1 q2 q3 : Nat) (L M : List Int) (s : List Nat) (u : World) : Prop where
  v : Ar u w.heap.size 16 (List.map (Value.int .u32) L)
  m : Ar u q1 16 (List.map (Value.int .u32) M)
  s : Ar u q2 16 (List.map nb8 s)
  res : u.there q3 0 16
  bel : Below w.heap.size w u
set_option maxRecDepth 8000 in
theorem Mx.later {w : World} {q1 q2 q3 : Nat} {L M : List Int} {s : List Nat} {u v : World} (h : Mx w q1 q2 q3 L M s u) (hb : Below u.heap.size u v) : Mx w q1 q2 q3 L M s v := ⟨h.v.later hb, h.m.later hb, h.s.later hb, there_later hb h.res, h.bel.trans (hb.mono h.bel.size)⟩
set_option maxRecDepth 8000 in
theorem Mx.mixed {w : World} {q1 q2 q3 : Nat} {L M : List Int} {s : List Nat} {u : World} (h : Mx w q1 q2 q3 L M s u) (h1 : w.heap.size < q1) (h2 : w.heap.size < q2) (_h3 : w.heap.size < q3) (i j k m : Nat) (hi : i < 16) (hj : j < 16) (hk : k < 16) (hm : m < 16) {x0 x1 x2 x3 x y p q r t : Int} (e0 : x0 = L[i]!) (e1 : x1 = L[j]!) (e2 : x2 = L[k]!) (e3 : x3 = L[m]!) (hq : (p, q, r, t) = mg7 x0 x1 x2 x3 x y) :
    Mx w q1 q2 q3 (bg7 L i j k m x y) M s ((((u.setCell ⟨w.heap.size, i, none⟩ (.int .u32 p)).setCell ⟨w.heap.size, j, none⟩ (.int .u32 q)).setCell ⟨w.heap.size, k, none⟩ (.int .u32 r)).setCell ⟨w.heap.size, m, none⟩ (.int .u32 t)) :=
  ⟨ar_bg h.v i j k m hi hj hk hm e0 e1 e2 e3 hq, (((h.m.else _ _ (by omega) _).else _ _ (by omega) _).else _ _ (by omega) _).else _ _ (by omega) _, (((h.s.else _ _ (by omega) _).else _ _ (by omega) _).else _ _ (by omega) _).else _ _ (by omega) _, there_set (there_set (there_set (there_set h.res _ _ _) _ _ _) _ _ _) _ _ _,
   (((h.bel.setCell (p := ⟨w.heap.size, i, none⟩) (Nat.le_refl _) _).setCell (p := ⟨w.heap.size, j, none⟩) (Nat.le_refl _) _).setCell (p := ⟨w.heap.size, k, none⟩) (Nat.le_refl _) _).setCell (p := ⟨w.heap.size, m, none⟩) (Nat.le_refl _) _⟩

def codeAt : Nat → Code → Code
  | n + 1, .seq _ b => codeAt n b
  | _, c => c
def bodyAt (n : Nat) : Option Code → Code
  | some c => codeAt n c
  | none => .region 0 #[] false
set_option maxRecDepth 8000 in
theorem cast_code {P : Program} {c c' : Code} {Q : Exit → Act → World → Prop} {a : Act} {w : World} (h : c = c') (H : Code.wp P c Q a w) : Code.wp P c' Q a w := h ▸ H

set_option maxRecDepth 8000 in
set_option maxHeartbeats 8000000 in
theorem mixed_t6 (L M : List Int) (s : List Nat) (HWM : Hid (Wn 16 M)) (HSO : Hid (So s)) (w : World) (q1 q2 q3 : Nat) (k1 : w.heap.size < q1) (k2 : w.heap.size < q2) (k3 : w.heap.size < q3) (wc : World) (L6 : List Int) (HL : Hid (L6 = gs7 M s L 6)) (HW : Hid (Wn 16 L6)) (HM : Hid (Mx w q1 q2 q3 L6 M s wc))
    (u7 u8 u9 u10 u11 u12 u13 u14 u15 u16 u17 u18 u19 u20 u21 u22 u23 u24 u25 u26 u27 u28 u29 u30 u31 u32 u33 u34 u35 u36 u37 u38 u39 u40 u41 u42 u43 u44 u45 u46 u47 u48 u49 u50 u51 u52 u53 u54 u55 u56 u57 u58 u59 u60 u61 u62 u63 u64 u65 u66 u67 u68 u69 u70 u71 u72 u73 u74 u75 u76 u77 u78 u79 u80 u81 u82 u83 u84 u85 u86 u87 u88 u89 u90 u91 u92 u93 u94 u95 u96 u97 u98 u99 u100 u101 u102 u103 u104 u105 u106 u107 u108 u109 u110 u111 u112 u113 u114 u115 u116 u117 u118 u119 u120 u121 u122 u123 u124 u125 u126 u127 u128 u129 u130 u131 u132 u133 u134 u135 u136 u137 u138 u139 u140 u141 u142 u143 u144 u145 u146 u147 u148 u149 u150 u151 u152 u153 u154 u155 u156 u157 u158 u159 u160 u161 u162 u163 u164 u165 u166 u167 u168 u169 u170 u171 u172 u173 u174 u175 u176 u177 u178 u179 u180 u181 u182 u183 u184 u185 u186 u187 u188 u189 u190 u191 u192 u193 u194 u195 u196 u197 u198 u199 u200 u201 u202 u203 u204 u205 u206 u207 u208 u209 u210 u211 u212 u213 u214 u215 : Value) :
    Code.wp Tryd.prog (bodyAt 7 Tryd.f60.body) (bodyPost Tryd.prog Tryd.f60 (fun e w' => ∃ L', e = .returned (.agg (List.map (Value.int .u32) L').toArray) ∧ Hid (L' = gs7 M s L 8) ∧ Wn 16 L' ∧ Below w.heap.size w w')) { tmps := #[(.agg (List.map (Value.int .u32) L).toArray), (.agg (List.map (Value.int .u32) M).toArray), .agg (List.map nb8 s).toArray, .pointer (some ⟨w.heap.size, 0, none⟩), .pointer (some ⟨q1, 0, none⟩), .pointer (some ⟨q2, 0, none⟩), .pointer (some ⟨q3, 0, none⟩), u7, u8, u9, u10, u11, u12, u13, u14, u15, u16, u17, u18, u19, u20, u21, u22, u23, u24, u25, u26, u27, u28, u29, u30, u31, u32, u33, u34, u35, u36, u37, u38, u39, u40, u41, u42, u43, u44, u45, u46, u47, u48, u49, u50, u51, u52, u53, u54, u55, u56, u57, u58, u59, u60, u61, u62, u63, u64, u65, u66, u67, u68, u69, u70, u71, u72, u73, u74, u75, u76, u77, u78, u79, u80, u81, u82, u83, u84, u85, u86, u87, u88, u89, u90, u91, u92, u93, u94, u95, u96, u97, u98, u99, u100, u101, u102, u103, u104, u105, u106, u107, u108, u109, u110, u111, u112, u113, u114, u115, u116, u117, u118, u119, u120, u121, u122, u123, u124, u125, u126, u127, u128, u129, u130, u131, u132, u133, u134, u135, u136, u137, u138, u139, u140, u141, u142, u143, u144, u145, u146, u147, u148, u149, u150, u151, u152, u153, u154, u155, u156, u157, u158, u159, u160, u161, u162, u163, u164, u165, u166, u167, u168, u169, u170, u171, u172, u173, u174, u175, u176, u177, u178, u179, u180, u181, u182, u183, u184, u185, u186, u187, u188, u189, u190, u191, u192, u193, u194, u195, u196, u197, u198, u199, u200, u201, u202, u203, u204, u205, u206, u207, u208, u209, u210, u211, u212, u213, u214, u215], defers := [] } wc := by
  delta Tryd.f60
  dsimp only [bodyAt, codeAt]
  go_upto_region 7 with fail
  go_cut [] from 7 (fun wx => ∃ L7 : List Int, Hid (L7 = gs7 M s L 7) ∧ Hid (Wn 16 L7) ∧ Hid (Mx w q1 q2 q3 L7 M s wx))
  case first =>
    obtain ⟨x0, c0, f0, r0, HX0⟩ := wn_word HM.out.v HW.out 2 (by decide)
    obtain ⟨x1, c1, f1, r1, HX1⟩ := wn_word HM.out.v HW.out 7 (by decide)
    obtain ⟨x2, c2, f2, r2, HX2⟩ := wn_word HM.out.v HW.out 8 (by decide)
    obtain ⟨x3, c3, f3, r3, HX3⟩ := wn_word HM.out.v HW.out 13 (by decide)
    have t0 := so_cell HM.out.s HSO.out 12 (by decide)
    have t1 := so_cell HM.out.s HSO.out 13 (by decide)
    have l0 := HSO.out.lt 12
    have l1 := HSO.out.lt 13
    obtain ⟨n0, hn0⟩ : ∃ n : Nat, n = s[12]! := ⟨_, rfl⟩
    obtain ⟨n1, hn1⟩ : ∃ n : Nat, n = s[13]! := ⟨_, rfl⟩
    rw [← hn0] at t0 l0
    rw [← hn1] at t1 l1
    have HN0 : Hid (n0 = s[12]!) := hn0
    have HN1 : Hid (n1 = s[13]!) := hn1
    clear hn0 hn1
    obtain ⟨y0, d0, -, ry0, HY0⟩ := wn_word HM.out.m HWM.out n0 l0
    obtain ⟨y1, d1, -, ry1, HY1⟩ := wn_word HM.out.m HWM.out n1 l1
    have g0 : (n0 : Int) < 16 := by omega
    have g1 : (n1 : Int) < 16 := by omega
    have xc0 : ∀ u, Ext wc u → u.cell? ⟨w.heap.size, 2, none⟩ = some (.int .u32 x0) := fun u hu => hu.cell c0
    have xc1 : ∀ u, Ext wc u → u.cell? ⟨w.heap.size, 7, none⟩ = some (.int .u32 x1) := fun u hu => hu.cell c1
    have xc2 : ∀ u, Ext wc u → u.cell? ⟨w.heap.size, 8, none⟩ = some (.int .u32 x2) := fun u hu => hu.cell c2
    have xc3 : ∀ u, Ext wc u → u.cell? ⟨w.heap.size, 13, none⟩ = some (.int .u32 x3) := fun u hu => hu.cell c3
    have xt0 : ∀ u, Ext wc u → u.cell? ⟨q2, 12, none⟩ = some (.int .u8 n0) := fun u hu => hu.cell t0
    have xt1 : ∀ u, Ext wc u → u.cell? ⟨q2, 13, none⟩ = some (.int .u8 n1) := fun u hu => hu.cell t1
    have xd0 : ∀ u, Ext wc u → u.cell? ⟨q1, n0, none⟩ = some (.int .u32 y0) := fun u hu => hu.cell d0
    have xd1 : ∀ u, Ext wc u → u.cell? ⟨q1, n1, none⟩ = some (.int .u32 y1) := fun u hu => hu.cell d1
    have hlt := HM.out.v.lt (by decide)
    clear t0 t1 d0 d1
    refine wp_region_noPanic ?_
    refine wp_region_two (k := 23) (Ext wc) (ExtB w.heap.size wc) (by kernel_rfl) (Ext.refl _).drew (fun hH => ?_)
    change wpAnyK _ _ _ _ _ _ _ _ #[false, false, false, false, false, false, false, false, false, false, false, false, false, false, false, false, false, false, false, false, false, false, false, false, false, false, false, false, false, false] _ _
    refine wpAnyK_ahead (i := 0) (oi := ?o0m6_) (v := ?v0m6_) ?h0m6_ (by decide) (by kernel_rfl) (by kernel_rfl) ?f0m6_ ?r0m6_ (fun _ _ _ h => h) (Or.inl ⟨?w0m6_, ?y0m6_⟩) (by assumption) ?t0m6_
    case h0m6_ => simp only [List.getElem?_toArray]; rfl
    case f0m6_ => kernel_rfl
    case r0m6_ => kernel_rfl
    case w0m6_ => rfl
    case y0m6_ => (intro u hu; (go_simp) <;> with_reducible rfl)
    try simp only [Act.put, List.setIfInBounds_toArray, List.set_cons_zero, List.set_cons_succ]
    refine wpAnyK_ahead (i := 1) (oi := ?o1m6_) (v := ?v1m6_) ?h1m6_ (by decide) (by kernel_rfl) (by kernel_rfl) ?f1m6_ ?r1m6_ (fun _ _ _ h => h) (Or.inl ⟨?w1m6_, ?y1m6_⟩) (by assumption) ?t1m6_
    case h1m6_ => simp only [List.getElem?_toArray]; rfl
    case f1m6_ => kernel_rfl
    case r1m6_ => kernel_rfl
    case w1m6_ => rfl
    case y1m6_ => (intro u hu; (have hx := xc0 u hu; go_simp) <;> with_reducible rfl)
    try simp only [Act.put, List.setIfInBounds_toArray, List.set_cons_zero, List.set_cons_succ]
    refine wpAnyK_ahead (i := 2) (oi := ?o2m6_) (v := ?v2m6_) ?h2m6_ (by decide) (by kernel_rfl) (by kernel_rfl) ?f2m6_ ?r2m6_ (fun _ _ _ h => h) (Or.inl ⟨?w2m6_, ?y2m6_⟩) (by assumption) ?t2m6_
    case h2m6_ => simp only [List.getElem?_toArray]; rfl
    case f2m6_ => kernel_rfl
    case r2m6_ => kernel_rfl
    case w2m6_ => rfl
    case y2m6_ => (intro u hu; (go_simp) <;> with_reducible rfl)
    try simp only [Act.put, List.setIfInBounds_toArray, List.set_cons_zero, List.set_cons_succ]
    refine wpAnyK_ahead (i := 3) (oi := ?o3m6_) (v := ?v3m6_) ?h3m6_ (by decide) (by kernel_rfl) (by kernel_rfl) ?f3m6_ ?r3m6_ (fun _ _ _ h => h) (Or.inl ⟨?w3m6_, ?y3m6_⟩) (by assumption) ?t3m6_
    case h3m6_ => simp only [List.getElem?_toArray]; rfl
    case f3m6_ => kernel_rfl
    case r3m6_ => kernel_rfl
    case w3m6_ => rfl
    case y3m6_ => (intro u hu; (have hx := xc1 u hu; go_simp) <;> with_reducible rfl)
    try simp only [Act.put, List.setIfInBounds_toArray, List.set_cons_zero, List.set_cons_succ]
    refine wpAnyK_ahead (i := 4) (oi := ?o4m6_) (v := ?v4m6_) ?h4m6_ (by decide) (by kernel_rfl) (by kernel_rfl) ?f4m6_ ?r4m6_ (fun _ _ _ h => h) (Or.inl ⟨?w4m6_, ?y4m6_⟩) (by assumption) ?t4m6_
    case h4m6_ => simp only [List.getElem?_toArray]; rfl
    case f4m6_ => kernel_rfl
    case r4m6_ => kernel_rfl
    case w4m6_ => rfl
    case y4m6_ => (intro u hu; (go_simp) <;> with_reducible rfl)
    try simp only [Act.put, List.setIfInBounds_toArray, List.set_cons_zero, List.set_cons_succ]
    refine wpAnyK_ahead (i := 5) (oi := ?o5m6_) (v := ?v5m6_) ?h5m6_ (by decide) (by kernel_rfl) (by kernel_rfl) ?f5m6_ ?r5m6_ (fun _ _ _ h => h) (Or.inl ⟨?w5m6_, ?y5m6_⟩) (by assumption) ?t5m6_
    case h5m6_ => simp only [List.getElem?_toArray]; rfl
    case f5m6_ => kernel_rfl
    case r5m6_ => kernel_rfl
    case w5m6_ => rfl
    case y5m6_ => (intro u hu; (have hx := xc2 u hu; go_simp) <;> with_reducible rfl)
    try simp only [Act.put, List.setIfInBounds_toArray, List.set_cons_zero, List.set_cons_succ]
    refine wpAnyK_ahead (i := 6) (oi := ?o6m6_) (v := ?v6m6_) ?h6m6_ (by decide) (by kernel_rfl) (by kernel_rfl) ?f6m6_ ?r6m6_ (fun _ _ _ h => h) (Or.inl ⟨?w6m6_, ?y6m6_⟩) (by assumption) ?t6m6_
    case h6m6_ => simp only [List.getElem?_toArray]; rfl
    case f6m6_ => kernel_rfl
    case r6m6_ => kernel_rfl
    case w6m6_ => rfl
    case y6m6_ => (intro u hu; (go_simp) <;> with_reducible rfl)
    try simp only [Act.put, List.setIfInBounds_toArray, List.set_cons_zero, List.set_cons_succ]
    refine wpAnyK_ahead (i := 7) (oi := ?o7m6_) (v := ?v7m6_) ?h7m6_ (by decide) (by kernel_rfl) (by kernel_rfl) ?f7m6_ ?r7m6_ (fun _ _ _ h => h) (Or.inl ⟨?w7m6_, ?y7m6_⟩) (by assumption) ?t7m6_
    case h7m6_ => simp only [List.getElem?_toArray]; rfl
    case f7m6_ => kernel_rfl
    case r7m6_ => kernel_rfl
    case w7m6_ => rfl
    case y7m6_ => (intro u hu; (have hx := xc3 u hu; go_simp) <;> with_reducible rfl)
    try simp only [Act.put, List.setIfInBounds_toArray, List.set_cons_zero, List.set_cons_succ]
    refine wpAnyK_ahead (i := 8) (oi := ?o8m6_) (v := ?v8m6_) ?h8m6_ (by decide) (by kernel_rfl) (by kernel_rfl) ?f8m6_ ?r8m6_ (fun _ _ _ h => h) (Or.inl ⟨?w8m6_, ?y8m6_⟩) (by assumption) ?t8m6_
    case h8m6_ => simp only [List.getElem?_toArray]; rfl
    case f8m6_ => kernel_rfl
    case r8m6_ => kernel_rfl
    case w8m6_ => rfl
    case y8m6_ => (intro u hu; (go_simp) <;> with_reducible rfl)
    try simp only [Act.put, List.setIfInBounds_toArray, List.set_cons_zero, List.set_cons_succ]
    refine wpAnyK_ahead (i := 9) (oi := ?o9m6_) (v := ?v9m6_) ?h9m6_ (by decide) (by kernel_rfl) (by kernel_rfl) ?f9m6_ ?r9m6_ (fun _ _ _ h => h) (Or.inl ⟨?w9m6_, ?y9m6_⟩) (by assumption) ?t9m6_
    case h9m6_ => simp only [List.getElem?_toArray]; rfl
    case f9m6_ => kernel_rfl
    case r9m6_ => kernel_rfl
    case w9m6_ => rfl
    case y9m6_ => (intro u hu; (have hx := xt0 u hu; go_simp) <;> with_reducible rfl)
    try simp only [Act.put, List.setIfInBounds_toArray, List.set_cons_zero, List.set_cons_succ]
    refine wpAnyK_ahead (i := 10) (oi := ?o10m6_) (v := ?v10m6_) ?h10m6_ (by decide) (by kernel_rfl) (by kernel_rfl) ?f10m6_ ?r10m6_ (fun _ _ _ h => h) (Or.inl ⟨?w10m6_, ?y10m6_⟩) (by assumption) ?t10m6_
    case h10m6_ => simp only [List.getElem?_toArray]; rfl
    case f10m6_ => kernel_rfl
    case r10m6_ => kernel_rfl
    case w10m6_ => rfl
    case y10m6_ => (intro u hu; (go_simp) <;> with_reducible rfl)
    try simp only [Act.put, List.setIfInBounds_toArray, List.set_cons_zero, List.set_cons_succ]
    refine wpAnyK_ahead (i := 11) (oi := ?o11m6_) (v := ?v11m6_) ?h11m6_ (by decide) (by kernel_rfl) (by kernel_rfl) ?f11m6_ ?r11m6_ (fun _ _ _ h => h) (Or.inl ⟨?w11m6_, ?y11m6_⟩) (by assumption) ?t11m6_
    case h11m6_ => simp only [List.getElem?_toArray]; rfl
    case f11m6_ => kernel_rfl
    case r11m6_ => kernel_rfl
    case w11m6_ => rfl
    case y11m6_ => (intro u hu; (have hx := xd0 u hu; go_simp) <;> with_reducible rfl)
    try simp only [Act.put, List.setIfInBounds_toArray, List.set_cons_zero, List.set_cons_succ]
    refine wpAnyK_ahead (i := 12) (oi := ?o12m6_) (v := ?v12m6_) ?h12m6_ (by decide) (by kernel_rfl) (by kernel_rfl) ?f12m6_ ?r12m6_ (fun _ _ _ h => h) (Or.inl ⟨?w12m6_, ?y12m6_⟩) (by assumption) ?t12m6_
    case h12m6_ => simp only [List.getElem?_toArray]; rfl
    case f12m6_ => kernel_rfl
    case r12m6_ => kernel_rfl
    case w12m6_ => rfl
    case y12m6_ => (intro u hu; (go_simp) <;> with_reducible rfl)
    try simp only [Act.put, List.setIfInBounds_toArray, List.set_cons_zero, List.set_cons_succ]
    refine wpAnyK_ahead (i := 13) (oi := ?o13m6_) (v := ?v13m6_) ?h13m6_ (by decide) (by kernel_rfl) (by kernel_rfl) ?f13m6_ ?r13m6_ (fun _ _ _ h => h) (Or.inl ⟨?w13m6_, ?y13m6_⟩) (by assumption) ?t13m6_
    case h13m6_ => simp only [List.getElem?_toArray]; rfl
    case f13m6_ => kernel_rfl
    case r13m6_ => kernel_rfl
    case w13m6_ => rfl
    case y13m6_ => (intro u hu; (have hx := xt1 u hu; go_simp) <;> with_reducible rfl)
    try simp only [Act.put, List.setIfInBounds_toArray, List.set_cons_zero, List.set_cons_succ]
    refine wpAnyK_ahead (i := 14) (oi := ?o14m6_) (v := ?v14m6_) ?h14m6_ (by decide) (by kernel_rfl) (by kernel_rfl) ?f14m6_ ?r14m6_ (fun _ _ _ h => h) (Or.inl ⟨?w14m6_, ?y14m6_⟩) (by assumption) ?t14m6_
    case h14m6_ => simp only [List.getElem?_toArray]; rfl
    case f14m6_ => kernel_rfl
    case r14m6_ => kernel_rfl
    case w14m6_ => rfl
    case y14m6_ => (intro u hu; (go_simp) <;> with_reducible rfl)
    try simp only [Act.put, List.setIfInBounds_toArray, List.set_cons_zero, List.set_cons_succ]
    refine wpAnyK_ahead (i := 15) (oi := ?o15m6_) (v := ?v15m6_) ?h15m6_ (by decide) (by kernel_rfl) (by kernel_rfl) ?f15m6_ ?r15m6_ (fun _ _ _ h => h) (Or.inl ⟨?w15m6_, ?y15m6_⟩) (by assumption) ?t15m6_
    case h15m6_ => simp only [List.getElem?_toArray]; rfl
    case f15m6_ => kernel_rfl
    case r15m6_ => kernel_rfl
    case w15m6_ => rfl
    case y15m6_ => (intro u hu; (have hx := xd1 u hu; go_simp) <;> with_reducible rfl)
    try simp only [Act.put, List.setIfInBounds_toArray, List.set_cons_zero, List.set_cons_succ]
    clear xc0 xc1 xc2 xc3 xt0 xt1 xd0 xd1
    refine wpAnyK_one (i := 16) (o := ?o16m6_) ?h16m6_ (by decide) (by kernel_rfl) (fun K hK => ?_)
    case h16m6_ => simp only [List.getElem?_toArray]; rfl
    go_simp
    refine (quarter7_c x0 x1 x2 x3 y0 y1 r0 r1 r2 r3 ry0 ry1 _).mono ?_
    rintro e V ⟨p, q, r, t, rfl, HQ, -, -, -, -, hb⟩
    refine hK.out _ _ (hH.trans hb) (fun hH' => ?_)
    clear hK K hH
    have hH := hH'
    clear hH'
    try simp only [List.setIfInBounds_toArray, List.set]
    refine wpAnyK_ahead (i := 17) (oi := ?o17m6_) (v := ?v17m6_) ?h17m6_ (by decide) (by kernel_rfl) (by kernel_rfl) ?f17m6_ ?r17m6_ (fun _ _ _ h => h) (Or.inl ⟨?w17m6_, ?y17m6_⟩) (by assumption) ?t17m6_
    case h17m6_ => simp only [List.getElem?_toArray]; rfl
    case f17m6_ => kernel_rfl
    case r17m6_ => kernel_rfl
    case w17m6_ => rfl
    case y17m6_ => (intro u hu; (go_simp) <;> with_reducible rfl)
    try simp only [Act.put, List.setIfInBounds_toArray, List.set_cons_zero, List.set_cons_succ]
    refine wpAnyK_ahead (i := 18) (oi := ?o18m6_) (v := ?v18m6_) ?h18m6_ (by decide) (by kernel_rfl) (by kernel_rfl) ?f18m6_ ?r18m6_ (fun _ _ _ h => h) (Or.inl ⟨?w18m6_, ?y18m6_⟩) (by assumption) ?t18m6_
    case h18m6_ => simp only [List.getElem?_toArray]; rfl
    case f18m6_ => kernel_rfl
    case r18m6_ => kernel_rfl
    case w18m6_ => rfl
    case y18m6_ => (intro u hu; (go_simp) <;> with_reducible rfl)
    try simp only [Act.put, List.setIfInBounds_toArray, List.set_cons_zero, List.set_cons_succ]
    refine wpAnyK_take (i := 19) (oi := ?o19m6_) (v := ?v19m6_) ?h19m6_ (by decide) (by kernel_rfl) ?f19m6_ ?r19m6_ (fun _ _ _ h => h) (fun _ h => h.extB _) (Or.inl ⟨?w19m6_, ?y19m6_⟩) (by assumption) ?t19m6_
    case h19m6_ => simp only [List.getElem?_toArray]; rfl
    case f19m6_ => kernel_rfl
    case r19m6_ => kernel_rfl
    case w19m6_ => rfl
    case y19m6_ => (intro u hu; (go_simp) <;> with_reducible rfl)
    try simp only [Act.put, List.setIfInBounds_toArray, List.set_cons_zero, List.set_cons_succ]
    refine wpAnyK_take (i := 20) (oi := ?o20m6_) (v := ?v20m6_) ?h20m6_ (by decide) (by kernel_rfl) ?f20m6_ ?r20m6_ (fun _ _ _ h => h) (fun _ h => h.extB _) (Or.inl ⟨?w20m6_, ?y20m6_⟩) (by assumption) ?t20m6_
    case h20m6_ => simp only [List.getElem?_toArray]; rfl
    case f20m6_ => kernel_rfl
    case r20m6_ => kernel_rfl
    case w20m6_ => rfl
    case y20m6_ => (intro u hu; (go_simp) <;> with_reducible rfl)
    try simp only [Act.put, List.setIfInBounds_toArray, List.set_cons_zero, List.set_cons_succ]
    refine wpAnyK_take (i := 21) (oi := ?o21m6_) (v := ?v21m6_) ?h21m6_ (by decide) (by kernel_rfl) ?f21m6_ ?r21m6_ (fun _ _ _ h => h) (fun _ h => h.extB _) (Or.inl ⟨?w21m6_, ?y21m6_⟩) (by assumption) ?t21m6_
    case h21m6_ => simp only [List.getElem?_toArray]; rfl
    case f21m6_ => kernel_rfl
    case r21m6_ => kernel_rfl
    case w21m6_ => rfl
    case y21m6_ => (intro u hu; (go_simp) <;> with_reducible rfl)
    try simp only [Act.put, List.setIfInBounds_toArray, List.set_cons_zero, List.set_cons_succ]
    refine wpAnyK_ahead (i := 22) (oi := ?o22m6_) (v := ?v22m6_) ?h22m6_ (by decide) (by kernel_rfl) (by kernel_rfl) ?f22m6_ ?r22m6_ (fun _ _ _ h => h) (Or.inl ⟨?w22m6_, ?y22m6_⟩) (by assumption) ?t22m6_
    case h22m6_ => simp only [List.getElem?_toArray]; rfl
    case f22m6_ => kernel_rfl
    case r22m6_ => kernel_rfl
    case w22m6_ => rfl
    case y22m6_ => (intro u hu; (go_simp) <;> with_reducible rfl)
    try simp only [Act.put, List.setIfInBounds_toArray, List.set_cons_zero, List.set_cons_succ]
    replace HM := HM.out.later hH
    replace c0 := cell_later hH c0
    replace f0 := froz_later hH hlt f0
    replace c1 := cell_later hH c1
    replace f1 := froz_later hH hlt f1
    replace c2 := cell_later hH c2
    replace f2 := froz_later hH hlt f2
    replace c3 := cell_later hH c3
    replace f3 := froz_later hH hlt f3
    clear hb
    refine wpAnyK_last (k := 23) (o := ?o23m6_) ?h23m6_ (by kernel_rfl) (fun K hK => ?_)
    case h23m6_ => simp only [List.getElem?_toArray]; rfl
    go_simp
    refine hK.out _ _ ((hH.extB _).set 2 _) (fun hH' => ?_)
    clear hK K hH
    have hH := hH'
    clear hH'
    try simp only [List.setIfInBounds_toArray, List.set]
    refine wpAnyH_take (i := 24) (oi := ?o24m6_) (v := ?v24m6_) ?h24m6_ (by kernel_rfl) ?f24m6_ ?r24m6_ (fun _ _ _ h => h) (Or.inl ⟨?w24m6_, ?y24m6_⟩) (by assumption) ?t24m6_
    case h24m6_ => simp only [List.getElem?_toArray]; rfl
    case f24m6_ => kernel_rfl
    case r24m6_ => kernel_rfl
    case w24m6_ => rfl
    case y24m6_ => (intro u hu; (go_simp) <;> with_reducible rfl)
    try simp only [Act.put, List.setIfInBounds_toArray, List.set_cons_zero, List.set_cons_succ]
    refine wpAnyH_ready (rs := [25]) (by kernel_rfl) (by simp) ?_
    refine AllReadyH.cons (o := ?o25m6_) ?h25m6_ (fun K hK => ?_) AllReadyH.nil
    case h25m6_ => simp only [List.getElem?_toArray]; rfl
    go_simp
    refine hK.out _ _ (hH.set 7 _) (fun hH' => ?_)
    clear hK K hH
    have hH := hH'
    clear hH'
    try simp only [List.setIfInBounds_toArray, List.set]
    refine wpAnyH_take (i := 26) (oi := ?o26m6_) (v := ?v26m6_) ?h26m6_ (by kernel_rfl) ?f26m6_ ?r26m6_ (fun _ _ _ h => h) (Or.inl ⟨?w26m6_, ?y26m6_⟩) (by assumption) ?t26m6_
    case h26m6_ => simp only [List.getElem?_toArray]; rfl
    case f26m6_ => kernel_rfl
    case r26m6_ => kernel_rfl
    case w26m6_ => rfl
    case y26m6_ => (intro u hu; (go_simp) <;> with_reducible rfl)
    try simp only [Act.put, List.setIfInBounds_toArray, List.set_cons_zero, List.set_cons_succ]
    refine wpAnyH_ready (rs := [27]) (by kernel_rfl) (by simp) ?_
    refine AllReadyH.cons (o := ?o27m6_) ?h27m6_ (fun K hK => ?_) AllReadyH.nil
    case h27m6_ => simp only [List.getElem?_toArray]; rfl
    go_simp
    refine hK.out _ _ (hH.set 8 _) (fun hH' => ?_)
    clear hK K hH
    have hH := hH'
    clear hH'
    try simp only [List.setIfInBounds_toArray, List.set]
    refine wpAnyH_take (i := 28) (oi := ?o28m6_) (v := ?v28m6_) ?h28m6_ (by kernel_rfl) ?f28m6_ ?r28m6_ (fun _ _ _ h => h) (Or.inl ⟨?w28m6_, ?y28m6_⟩) (by assumption) ?t28m6_
    case h28m6_ => simp only [List.getElem?_toArray]; rfl
    case f28m6_ => kernel_rfl
    case r28m6_ => kernel_rfl
    case w28m6_ => rfl
    case y28m6_ => (intro u hu; (go_simp) <;> with_reducible rfl)
    try simp only [Act.put, List.setIfInBounds_toArray, List.set_cons_zero, List.set_cons_succ]
    refine wpAnyH_ready (rs := [29]) (by kernel_rfl) (by simp) ?_
    refine AllReadyH.cons (o := ?o29m6_) ?h29m6_ (fun K hK => ?_) AllReadyH.nil
    case h29m6_ => simp only [List.getElem?_toArray]; rfl
    go_simp
    refine hK.out _ _ (hH.set 13 _) (fun hH' => ?_)
    clear hK K hH
    have hH := hH'
    clear hH'
    try simp only [List.setIfInBounds_toArray, List.set]
    refine wpAnyH_done (by kernel_rfl) ?_ _
    refine NoPanic.normal ?_
    have HM' := HM.mixed k1 k2 k3 2 7 8 13 (by decide) (by decide) (by decide) (by decide) HX0.out HX1.out HX2.out HX3.out HQ.out
    go_wp2_with fail
    go_meet
    case rel => exact ⟨bg7 L6 2 7 8 13 y0 y1, by unfold Hid; rw [HY0.out, HY1.out, HN0.out, HN1.out, HL.out]; rfl, bg7_w HW.out _ _ _ _ _ _, HM'⟩
  case rest =>
  obtain ⟨L7, HL, HW, HM⟩ := hcut
  go_upto_region 8 with fail
  go_cut [] from 7 (fun wx => ∃ L8 : List Int, Hid (L8 = gs7 M s L 8) ∧ Hid (Wn 16 L8) ∧ Hid (Mx w q1 q2 q3 L8 M s wx))
  case first =>
    obtain ⟨x0, c0, f0, r0, HX0⟩ := wn_word HM.out.v HW.out 3 (by decide)
    obtain ⟨x1, c1, f1, r1, HX1⟩ := wn_word HM.out.v HW.out 4 (by decide)
    obtain ⟨x2, c2, f2, r2, HX2⟩ := wn_word HM.out.v HW.out 9 (by decide)
    obtain ⟨x3, c3, f3, r3, HX3⟩ := wn_word HM.out.v HW.out 14 (by decide)
    have t0 := so_cell HM.out.s HSO.out 14 (by decide)
    have t1 := so_cell HM.out.s HSO.out 15 (by decide)
    have l0 := HSO.out.lt 14
    have l1 := HSO.out.lt 15
    obtain ⟨n0, hn0⟩ : ∃ n : Nat, n = s[14]! := ⟨_, rfl⟩
    obtain ⟨n1, hn1⟩ : ∃ n : Nat, n = s[15]! := ⟨_, rfl⟩
    rw [← hn0] at t0 l0
    rw [← hn1] at t1 l1
    have HN0 : Hid (n0 = s[14]!) := hn0
    have HN1 : Hid (n1 = s[15]!) := hn1
    clear hn0 hn1
    obtain ⟨y0, d0, -, ry0, HY0⟩ := wn_word HM.out.m HWM.out n0 l0
    obtain ⟨y1, d1, -, ry1, HY1⟩ := wn_word HM.out.m HWM.out n1 l1
    have g0 : (n0 : Int) < 16 := by omega
    have g1 : (n1 : Int) < 16 := by omega
    have xc0 : ∀ u, Ext wc u → u.cell? ⟨w.heap.size, 3, none⟩ = some (.int .u32 x0) := fun u hu => hu.cell c0
    have xc1 : ∀ u, Ext wc u → u.cell? ⟨w.heap.size, 4, none⟩ = some (.int .u32 x1) := fun u hu => hu.cell c1
    have xc2 : ∀ u, Ext wc u → u.cell? ⟨w.heap.size, 9, none⟩ = some (.int .u32 x2) := fun u hu => hu.cell c2
    have xc3 : ∀ u, Ext wc u → u.cell? ⟨w.heap.size, 14, none⟩ = some (.int .u32 x3) := fun u hu => hu.cell c3
    have xt0 : ∀ u, Ext wc u → u.cell? ⟨q2, 14, none⟩ = some (.int .u8 n0) := fun u hu => hu.cell t0
    have xt1 : ∀ u, Ext wc u → u.cell? ⟨q2, 15, none⟩ = some (.int .u8 n1) := fun u hu => hu.cell t1
    have xd0 : ∀ u, Ext wc u → u.cell? ⟨q1, n0, none⟩ = some (.int .u32 y0) := fun u hu => hu.cell d0
    have xd1 : ∀ u, Ext wc u → u.cell? ⟨q1, n1, none⟩ = some (.int .u32 y1) := fun u hu => hu.cell d1
    have hlt := HM.out.v.lt (by decide)
    clear t0 t1 d0 d1
    refine wp_region_noPanic ?_
    refine wp_region_two (k := 23) (Ext wc) (ExtB w.heap.size wc) (by kernel_rfl) (Ext.refl _).drew (fun hH => ?_)
    change wpAnyK _ _ _ _ _ _ _ _ #[false, false, false, false, false, false, false, false, false, false, false, false, false, false, false, false, false, false, false, false, false, false, false, false, false, false, false, false, false, false] _ _
    refine wpAnyK_ahead (i := 0) (oi := ?o0m7_) (v := ?v0m7_) ?h0m7_ (by decide) (by kernel_rfl) (by kernel_rfl) ?f0m7_ ?r0m7_ (fun _ _ _ h => h) (Or.inl ⟨?w0m7_, ?y0m7_⟩) (by assumption) ?t0m7_
    case h0m7_ => simp only [List.getElem?_toArray]; rfl
    case f0m7_ => kernel_rfl
    case r0m7_ => kernel_rfl
    case w0m7_ => rfl
    case y0m7_ => (intro u hu; (go_simp) <;> with_reducible rfl)
    try simp only [Act.put, List.setIfInBounds_toArray, List.set_cons_zero, List.set_cons_succ]
    refine wpAnyK_ahead (i := 1) (oi := ?o1m7_) (v := ?v1m7_) ?h1m7_ (by decide) (by kernel_rfl) (by kernel_rfl) ?f1m7_ ?r1m7_ (fun _ _ _ h => h) (Or.inl ⟨?w1m7_, ?y1m7_⟩) (by assumption) ?t1m7_
    case h1m7_ => simp only [List.getElem?_toArray]; rfl
    case f1m7_ => kernel_rfl
    case r1m7_ => kernel_rfl
    case w1m7_ => rfl
    case y1m7_ => (intro u hu; (have hx := xc0 u hu; go_simp) <;> with_reducible rfl)
    try simp only [Act.put, List.setIfInBounds_toArray, List.set_cons_zero, List.set_cons_succ]
    refine wpAnyK_ahead (i := 2) (oi := ?o2m7_) (v := ?v2m7_) ?h2m7_ (by decide) (by kernel_rfl) (by kernel_rfl) ?f2m7_ ?r2m7_ (fun _ _ _ h => h) (Or.inl ⟨?w2m7_, ?y2m7_⟩) (by assumption) ?t2m7_
    case h2m7_ => simp only [List.getElem?_toArray]; rfl
    case f2m7_ => kernel_rfl
    case r2m7_ => kernel_rfl
    case w2m7_ => rfl
    case y2m7_ => (intro u hu; (go_simp) <;> with_reducible rfl)
    try simp only [Act.put, List.setIfInBounds_toArray, List.set_cons_zero, List.set_cons_succ]
    refine wpAnyK_ahead (i := 3) (oi := ?o3m7_) (v := ?v3m7_) ?h3m7_ (by decide) (by kernel_rfl) (by kernel_rfl) ?f3m7_ ?r3m7_ (fun _ _ _ h => h) (Or.inl ⟨?w3m7_, ?y3m7_⟩) (by assumption) ?t3m7_
    case h3m7_ => simp only [List.getElem?_toArray]; rfl
    case f3m7_ => kernel_rfl
    case r3m7_ => kernel_rfl
    case w3m7_ => rfl
    case y3m7_ => (intro u hu; (have hx := xc1 u hu; go_simp) <;> with_reducible rfl)
    try simp only [Act.put, List.setIfInBounds_toArray, List.set_cons_zero, List.set_cons_succ]
    refine wpAnyK_ahead (i := 4) (oi := ?o4m7_) (v := ?v4m7_) ?h4m7_ (by decide) (by kernel_rfl) (by kernel_rfl) ?f4m7_ ?r4m7_ (fun _ _ _ h => h) (Or.inl ⟨?w4m7_, ?y4m7_⟩) (by assumption) ?t4m7_
    case h4m7_ => simp only [List.getElem?_toArray]; rfl
    case f4m7_ => kernel_rfl
    case r4m7_ => kernel_rfl
    case w4m7_ => rfl
    case y4m7_ => (intro u hu; (go_simp) <;> with_reducible rfl)
    try simp only [Act.put, List.setIfInBounds_toArray, List.set_cons_zero, List.set_cons_succ]
    refine wpAnyK_ahead (i := 5) (oi := ?o5m7_) (v := ?v5m7_) ?h5m7_ (by decide) (by kernel_rfl) (by kernel_rfl) ?f5m7_ ?r5m7_ (fun _ _ _ h => h) (Or.inl ⟨?w5m7_, ?y5m7_⟩) (by assumption) ?t5m7_
    case h5m7_ => simp only [List.getElem?_toArray]; rfl
    case f5m7_ => kernel_rfl
    case r5m7_ => kernel_rfl
    case w5m7_ => rfl
    case y5m7_ => (intro u hu; (have hx := xc2 u hu; go_simp) <;> with_reducible rfl)
    try simp only [Act.put, List.setIfInBounds_toArray, List.set_cons_zero, List.set_cons_succ]
    refine wpAnyK_ahead (i := 6) (oi := ?o6m7_) (v := ?v6m7_) ?h6m7_ (by decide) (by kernel_rfl) (by kernel_rfl) ?f6m7_ ?r6m7_ (fun _ _ _ h => h) (Or.inl ⟨?w6m7_, ?y6m7_⟩) (by assumption) ?t6m7_
    case h6m7_ => simp only [List.getElem?_toArray]; rfl
    case f6m7_ => kernel_rfl
    case r6m7_ => kernel_rfl
    case w6m7_ => rfl
    case y6m7_ => (intro u hu; (go_simp) <;> with_reducible rfl)
    try simp only [Act.put, List.setIfInBounds_toArray, List.set_cons_zero, List.set_cons_succ]
    refine wpAnyK_ahead (i := 7) (oi := ?o7m7_) (v := ?v7m7_) ?h7m7_ (by decide) (by kernel_rfl) (by kernel_rfl) ?f7m7_ ?r7m7_ (fun _ _ _ h => h) (Or.inl ⟨?w7m7_, ?y7m7_⟩) (by assumption) ?t7m7_
    case h7m7_ => simp only [List.getElem?_toArray]; rfl
    case f7m7_ => kernel_rfl
    case r7m7_ => kernel_rfl
    case w7m7_ => rfl
    case y7m7_ => (intro u hu; (have hx := xc3 u hu; go_simp) <;> with_reducible rfl)
    try simp only [Act.put, List.setIfInBounds_toArray, List.set_cons_zero, List.set_cons_succ]
    refine wpAnyK_ahead (i := 8) (oi := ?o8m7_) (v := ?v8m7_) ?h8m7_ (by decide) (by kernel_rfl) (by kernel_rfl) ?f8m7_ ?r8m7_ (fun _ _ _ h => h) (Or.inl ⟨?w8m7_, ?y8m7_⟩) (by assumption) ?t8m7_
    case h8m7_ => simp only [List.getElem?_toArray]; rfl
    case f8m7_ => kernel_rfl
    case r8m7_ => kernel_rfl
    case w8m7_ => rfl
    case y8m7_ => (intro u hu; (go_simp) <;> with_reducible rfl)
    try simp only [Act.put, List.setIfInBounds_toArray, List.set_cons_zero, List.set_cons_succ]
    refine wpAnyK_ahead (i := 9) (oi := ?o9m7_) (v := ?v9m7_) ?h9m7_ (by decide) (by kernel_rfl) (by kernel_rfl) ?f9m7_ ?r9m7_ (fun _ _ _ h => h) (Or.inl ⟨?w9m7_, ?y9m7_⟩) (by assumption) ?t9m7_
    case h9m7_ => simp only [List.getElem?_toArray]; rfl
    case f9m7_ => kernel_rfl
    case r9m7_ => kernel_rfl
    case w9m7_ => rfl
    case y9m7_ => (intro u hu; (have hx := xt0 u hu; go_simp) <;> with_reducible rfl)
    try simp only [Act.put, List.setIfInBounds_toArray, List.set_cons_zero, List.set_cons_succ]
    refine wpAnyK_ahead (i := 10) (oi := ?o10m7_) (v := ?v10m7_) ?h10m7_ (by decide) (by kernel_rfl) (by kernel_rfl) ?f10m7_ ?r10m7_ (fun _ _ _ h => h) (Or.inl ⟨?w10m7_, ?y10m7_⟩) (by assumption) ?t10m7_
    case h10m7_ => simp only [List.getElem?_toArray]; rfl
    case f10m7_ => kernel_rfl
    case r10m7_ => kernel_rfl
    case w10m7_ => rfl
    case y10m7_ => (intro u hu; (go_simp) <;> with_reducible rfl)
    try simp only [Act.put, List.setIfInBounds_toArray, List.set_cons_zero, List.set_cons_succ]
    refine wpAnyK_ahead (i := 11) (oi := ?o11m7_) (v := ?v11m7_) ?h11m7_ (by decide) (by kernel_rfl) (by kernel_rfl) ?f11m7_ ?r11m7_ (fun _ _ _ h => h) (Or.inl ⟨?w11m7_, ?y11m7_⟩) (by assumption) ?t11m7_
    case h11m7_ => simp only [List.getElem?_toArray]; rfl
    case f11m7_ => kernel_rfl
    case r11m7_ => kernel_rfl
    case w11m7_ => rfl
    case y11m7_ => (intro u hu; (have hx := xd0 u hu; go_simp) <;> with_reducible rfl)
    try simp only [Act.put, List.setIfInBounds_toArray, List.set_cons_zero, List.set_cons_succ]
    refine wpAnyK_ahead (i := 12) (oi := ?o12m7_) (v := ?v12m7_) ?h12m7_ (by decide) (by kernel_rfl) (by kernel_rfl) ?f12m7_ ?r12m7_ (fun _ _ _ h => h) (Or.inl ⟨?w12m7_, ?y12m7_⟩) (by assumption) ?t12m7_
    case h12m7_ => simp only [List.getElem?_toArray]; rfl
    case f12m7_ => kernel_rfl
    case r12m7_ => kernel_rfl
    case w12m7_ => rfl
    case y12m7_ => (intro u hu; (go_simp) <;> with_reducible rfl)
    try simp only [Act.put, List.setIfInBounds_toArray, List.set_cons_zero, List.set_cons_succ]
    refine wpAnyK_ahead (i := 13) (oi := ?o13m7_) (v := ?v13m7_) ?h13m7_ (by decide) (by kernel_rfl) (by kernel_rfl) ?f13m7_ ?r13m7_ (fun _ _ _ h => h) (Or.inl ⟨?w13m7_, ?y13m7_⟩) (by assumption) ?t13m7_
    case h13m7_ => simp only [List.getElem?_toArray]; rfl
    case f13m7_ => kernel_rfl
    case r13m7_ => kernel_rfl
    case w13m7_ => rfl
    case y13m7_ => (intro u hu; (have hx := xt1 u hu; go_simp) <;> with_reducible rfl)
    try simp only [Act.put, List.setIfInBounds_toArray, List.set_cons_zero, List.set_cons_succ]
    refine wpAnyK_ahead (i := 14) (oi := ?o14m7_) (v := ?v14m7_) ?h14m7_ (by decide) (by kernel_rfl) (by kernel_rfl) ?f14m7_ ?r14m7_ (fun _ _ _ h => h) (Or.inl ⟨?w14m7_, ?y14m7_⟩) (by assumption) ?t14m7_
    case h14m7_ => simp only [List.getElem?_toArray]; rfl
    case f14m7_ => kernel_rfl
    case r14m7_ => kernel_rfl
    case w14m7_ => rfl
    case y14m7_ => (intro u hu; (go_simp) <;> with_reducible rfl)
    try simp only [Act.put, List.setIfInBounds_toArray, List.set_cons_zero, List.set_cons_succ]
    refine wpAnyK_ahead (i := 15) (oi := ?o15m7_) (v := ?v15m7_) ?h15m7_ (by decide) (by kernel_rfl) (by kernel_rfl) ?f15m7_ ?r15m7_ (fun _ _ _ h => h) (Or.inl ⟨?w15m7_, ?y15m7_⟩) (by assumption) ?t15m7_
    case h15m7_ => simp only [List.getElem?_toArray]; rfl
    case f15m7_ => kernel_rfl
    case r15m7_ => kernel_rfl
    case w15m7_ => rfl
    case y15m7_ => (intro u hu; (have hx := xd1 u hu; go_simp) <;> with_reducible rfl)
    try simp only [Act.put, List.setIfInBounds_toArray, List.set_cons_zero, List.set_cons_succ]
    clear xc0 xc1 xc2 xc3 xt0 xt1 xd0 xd1
    refine wpAnyK_one (i := 16) (o := ?o16m7_) ?h16m7_ (by decide) (by kernel_rfl) (fun K hK => ?_)
    case h16m7_ => simp only [List.getElem?_toArray]; rfl
    go_simp
    refine (quarter7_c x0 x1 x2 x3 y0 y1 r0 r1 r2 r3 ry0 ry1 _).mono ?_
    rintro e V ⟨p, q, r, t, rfl, HQ, -, -, -, -, hb⟩
    refine hK.out _ _ (hH.trans hb) (fun hH' => ?_)
    clear hK K hH
    have hH := hH'
    clear hH'
    try simp only [List.setIfInBounds_toArray, List.set]
    refine wpAnyK_ahead (i := 17) (oi := ?o17m7_) (v := ?v17m7_) ?h17m7_ (by decide) (by kernel_rfl) (by kernel_rfl) ?f17m7_ ?r17m7_ (fun _ _ _ h => h) (Or.inl ⟨?w17m7_, ?y17m7_⟩) (by assumption) ?t17m7_
    case h17m7_ => simp only [List.getElem?_toArray]; rfl
    case f17m7_ => kernel_rfl
    case r17m7_ => kernel_rfl
    case w17m7_ => rfl
    case y17m7_ => (intro u hu; (go_simp) <;> with_reducible rfl)
    try simp only [Act.put, List.setIfInBounds_toArray, List.set_cons_zero, List.set_cons_succ]
    refine wpAnyK_ahead (i := 18) (oi := ?o18m7_) (v := ?v18m7_) ?h18m7_ (by decide) (by kernel_rfl) (by kernel_rfl) ?f18m7_ ?r18m7_ (fun _ _ _ h => h) (Or.inl ⟨?w18m7_, ?y18m7_⟩) (by assumption) ?t18m7_
    case h18m7_ => simp only [List.getElem?_toArray]; rfl
    case f18m7_ => kernel_rfl
    case r18m7_ => kernel_rfl
    case w18m7_ => rfl
    case y18m7_ => (intro u hu; (go_simp) <;> with_reducible rfl)
    try simp only [Act.put, List.setIfInBounds_toArray, List.set_cons_zero, List.set_cons_succ]
    refine wpAnyK_take (i := 19) (oi := ?o19m7_) (v := ?v19m7_) ?h19m7_ (by decide) (by kernel_rfl) ?f19m7_ ?r19m7_ (fun _ _ _ h => h) (fun _ h => h.extB _) (Or.inl ⟨?w19m7_, ?y19m7_⟩) (by assumption) ?t19m7_
    case h19m7_ => simp only [List.getElem?_toArray]; rfl
    case f19m7_ => kernel_rfl
    case r19m7_ => kernel_rfl
    case w19m7_ => rfl
    case y19m7_ => (intro u hu; (go_simp) <;> with_reducible rfl)
    try simp only [Act.put, List.setIfInBounds_toArray, List.set_cons_zero, List.set_cons_succ]
    refine wpAnyK_take (i := 20) (oi := ?o20m7_) (v := ?v20m7_) ?h20m7_ (by decide) (by kernel_rfl) ?f20m7_ ?r20m7_ (fun _ _ _ h => h) (fun _ h => h.extB _) (Or.inl ⟨?w20m7_, ?y20m7_⟩) (by assumption) ?t20m7_
    case h20m7_ => simp only [List.getElem?_toArray]; rfl
    case f20m7_ => kernel_rfl
    case r20m7_ => kernel_rfl
    case w20m7_ => rfl
    case y20m7_ => (intro u hu; (go_simp) <;> with_reducible rfl)
    try simp only [Act.put, List.setIfInBounds_toArray, List.set_cons_zero, List.set_cons_succ]
    refine wpAnyK_take (i := 21) (oi := ?o21m7_) (v := ?v21m7_) ?h21m7_ (by decide) (by kernel_rfl) ?f21m7_ ?r21m7_ (fun _ _ _ h => h) (fun _ h => h.extB _) (Or.inl ⟨?w21m7_, ?y21m7_⟩) (by assumption) ?t21m7_
    case h21m7_ => simp only [List.getElem?_toArray]; rfl
    case f21m7_ => kernel_rfl
    case r21m7_ => kernel_rfl
    case w21m7_ => rfl
    case y21m7_ => (intro u hu; (go_simp) <;> with_reducible rfl)
    try simp only [Act.put, List.setIfInBounds_toArray, List.set_cons_zero, List.set_cons_succ]
    refine wpAnyK_ahead (i := 22) (oi := ?o22m7_) (v := ?v22m7_) ?h22m7_ (by decide) (by kernel_rfl) (by kernel_rfl) ?f22m7_ ?r22m7_ (fun _ _ _ h => h) (Or.inl ⟨?w22m7_, ?y22m7_⟩) (by assumption) ?t22m7_
    case h22m7_ => simp only [List.getElem?_toArray]; rfl
    case f22m7_ => kernel_rfl
    case r22m7_ => kernel_rfl
    case w22m7_ => rfl
    case y22m7_ => (intro u hu; (go_simp) <;> with_reducible rfl)
    try simp only [Act.put, List.setIfInBounds_toArray, List.set_cons_zero, List.set_cons_succ]
    replace HM := HM.out.later hH
    replace c0 := cell_later hH c0
    replace f0 := froz_later hH hlt f0
    replace c1 := cell_later hH c1
    replace f1 := froz_later hH hlt f1
    replace c2 := cell_later hH c2
    replace f2 := froz_later hH hlt f2
    replace c3 := cell_later hH c3
    replace f3 := froz_later hH hlt f3
    clear hb
    refine wpAnyK_last (k := 23) (o := ?o23m7_) ?h23m7_ (by kernel_rfl) (fun K hK => ?_)
    case h23m7_ => simp only [List.getElem?_toArray]; rfl
    go_simp
    refine hK.out _ _ ((hH.extB _).set 3 _) (fun hH' => ?_)
    clear hK K hH
    have hH := hH'
    clear hH'
    try simp only [List.setIfInBounds_toArray, List.set]
    refine wpAnyH_take (i := 24) (oi := ?o24m7_) (v := ?v24m7_) ?h24m7_ (by kernel_rfl) ?f24m7_ ?r24m7_ (fun _ _ _ h => h) (Or.inl ⟨?w24m7_, ?y24m7_⟩) (by assumption) ?t24m7_
    case h24m7_ => simp only [List.getElem?_toArray]; rfl
    case f24m7_ => kernel_rfl
    case r24m7_ => kernel_rfl
    case w24m7_ => rfl
    case y24m7_ => (intro u hu; (go_simp) <;> with_reducible rfl)
    try simp only [Act.put, List.setIfInBounds_toArray, List.set_cons_zero, List.set_cons_succ]
    refine wpAnyH_ready (rs := [25]) (by kernel_rfl) (by simp) ?_
    refine AllReadyH.cons (o := ?o25m7_) ?h25m7_ (fun K hK => ?_) AllReadyH.nil
    case h25m7_ => simp only [List.getElem?_toArray]; rfl
    go_simp
    refine hK.out _ _ (hH.set 4 _) (fun hH' => ?_)
    clear hK K hH
    have hH := hH'
    clear hH'
    try simp only [List.setIfInBounds_toArray, List.set]
    refine wpAnyH_take (i := 26) (oi := ?o26m7_) (v := ?v26m7_) ?h26m7_ (by kernel_rfl) ?f26m7_ ?r26m7_ (fun _ _ _ h => h) (Or.inl ⟨?w26m7_, ?y26m7_⟩) (by assumption) ?t26m7_
    case h26m7_ => simp only [List.getElem?_toArray]; rfl
    case f26m7_ => kernel_rfl
    case r26m7_ => kernel_rfl
    case w26m7_ => rfl
    case y26m7_ => (intro u hu; (go_simp) <;> with_reducible rfl)
    try simp only [Act.put, List.setIfInBounds_toArray, List.set_cons_zero, List.set_cons_succ]
    refine wpAnyH_ready (rs := [27]) (by kernel_rfl) (by simp) ?_
    refine AllReadyH.cons (o := ?o27m7_) ?h27m7_ (fun K hK => ?_) AllReadyH.nil
    case h27m7_ => simp only [List.getElem?_toArray]; rfl
    go_simp
    refine hK.out _ _ (hH.set 9 _) (fun hH' => ?_)
    clear hK K hH
    have hH := hH'
    clear hH'
    try simp only [List.setIfInBounds_toArray, List.set]
    refine wpAnyH_take (i := 28) (oi := ?o28m7_) (v := ?v28m7_) ?h28m7_ (by kernel_rfl) ?f28m7_ ?r28m7_ (fun _ _ _ h => h) (Or.inl ⟨?w28m7_, ?y28m7_⟩) (by assumption) ?t28m7_
    case h28m7_ => simp only [List.getElem?_toArray]; rfl
    case f28m7_ => kernel_rfl
    case r28m7_ => kernel_rfl
    case w28m7_ => rfl
    case y28m7_ => (intro u hu; (go_simp) <;> with_reducible rfl)
    try simp only [Act.put, List.setIfInBounds_toArray, List.set_cons_zero, List.set_cons_succ]
    refine wpAnyH_ready (rs := [29]) (by kernel_rfl) (by simp) ?_
    refine AllReadyH.cons (o := ?o29m7_) ?h29m7_ (fun K hK => ?_) AllReadyH.nil
    case h29m7_ => simp only [List.getElem?_toArray]; rfl
    go_simp
    refine hK.out _ _ (hH.set 14 _) (fun hH' => ?_)
    clear hK K hH
    have hH := hH'
    clear hH'
    try simp only [List.setIfInBounds_toArray, List.set]
    refine wpAnyH_done (by kernel_rfl) ?_ _
    refine NoPanic.normal ?_
    have HM' := HM.mixed k1 k2 k3 3 4 9 14 (by decide) (by decide) (by decide) (by decide) HX0.out HX1.out HX2.out HX3.out HQ.out
    go_wp2_with fail
    go_meet
    case rel => exact ⟨bg7 L7 3 4 9 14 y0 y1, by unfold Hid; rw [HY0.out, HY1.out, HN0.out, HN1.out, HL.out]; rfl, bg7_w HW.out _ _ _ _ _ _, HM'⟩
  case rest =>
  obtain ⟨L8, HL, HW, HM⟩ := hcut
  obtain ⟨hlen, hone, hi⟩ := ws_cells HW.out
  obtain ⟨cs, hcs⟩ : ∃ cs, cs = (List.map (Value.int .u32) L8) := ⟨_, rfl⟩
  have HC : Hid (cs = (List.map (Value.int .u32) L8)) := hcs
  rw [← hcs] at hlen hone hi
  clear hcs
  have hrg : wc.rangeAt w.heap.size 0 cs := by rw [HC.out]; exact HM.out.v.rng
  have hth := HM.out.res
  go_wp2_with (first
    | (refine wpList_load_mid rfl 100 (.tmp 3) rfl w.heap.size 0 rfl cs _ hrg Tryd.underlying100 rfl hi ?_)
    | (refine wpList_store_mid rfl 100 (.tmp 6) (.tmp 215) rfl q3 0 cs.toArray rfl rfl (by simpa [hlen] using hth) (by simpa using hi) (all_oneCell_toArray hone) ?_))
  have HR2 : Hid ((wc.setCells q3 0 cs).rangeAt q3 0 cs) := World.rangeAt_setCells_same _ _ _ _ (by rw [hlen]; exact hth)
  have hld := run_loadVar_mid (P := Tryd.prog) _ _ 0 100 _ _ HR2.out Tryd.underlying100 rfl hi
  exact bodyPost_ret (v := .agg cs.toArray) (by simp [results]; exact hld) rfl ⟨L8, by rw [HC.out], HL, HW.out, below_setCells _ (by omega) _ _ _ HM.out.bel⟩

set_option maxRecDepth 8000 in
set_option maxHeartbeats 8000000 in
theorem mixed_t4 (L M : List Int) (s : List Nat) (HWM : Hid (Wn 16 M)) (HSO : Hid (So s)) (w : World) (q1 q2 q3 : Nat) (k1 : w.heap.size < q1) (k2 : w.heap.size < q2) (k3 : w.heap.size < q3) (wc : World) (L4 : List Int) (HL : Hid (L4 = gs7 M s L 4)) (HW : Hid (Wn 16 L4)) (HM : Hid (Mx w q1 q2 q3 L4 M s wc))
    (u7 u8 u9 u10 u11 u12 u13 u14 u15 u16 u17 u18 u19 u20 u21 u22 u23 u24 u25 u26 u27 u28 u29 u30 u31 u32 u33 u34 u35 u36 u37 u38 u39 u40 u41 u42 u43 u44 u45 u46 u47 u48 u49 u50 u51 u52 u53 u54 u55 u56 u57 u58 u59 u60 u61 u62 u63 u64 u65 u66 u67 u68 u69 u70 u71 u72 u73 u74 u75 u76 u77 u78 u79 u80 u81 u82 u83 u84 u85 u86 u87 u88 u89 u90 u91 u92 u93 u94 u95 u96 u97 u98 u99 u100 u101 u102 u103 u104 u105 u106 u107 u108 u109 u110 u111 u112 u113 u114 u115 u116 u117 u118 u119 u120 u121 u122 u123 u124 u125 u126 u127 u128 u129 u130 u131 u132 u133 u134 u135 u136 u137 u138 u139 u140 u141 u142 u143 u144 u145 u146 u147 u148 u149 u150 u151 u152 u153 u154 u155 u156 u157 u158 u159 u160 u161 u162 u163 u164 u165 u166 u167 u168 u169 u170 u171 u172 u173 u174 u175 u176 u177 u178 u179 u180 u181 u182 u183 u184 u185 u186 u187 u188 u189 u190 u191 u192 u193 u194 u195 u196 u197 u198 u199 u200 u201 u202 u203 u204 u205 u206 u207 u208 u209 u210 u211 u212 u213 u214 u215 : Value) :
    Code.wp Tryd.prog (bodyAt 5 Tryd.f60.body) (bodyPost Tryd.prog Tryd.f60 (fun e w' => ∃ L', e = .returned (.agg (List.map (Value.int .u32) L').toArray) ∧ Hid (L' = gs7 M s L 8) ∧ Wn 16 L' ∧ Below w.heap.size w w')) { tmps := #[(.agg (List.map (Value.int .u32) L).toArray), (.agg (List.map (Value.int .u32) M).toArray), .agg (List.map nb8 s).toArray, .pointer (some ⟨w.heap.size, 0, none⟩), .pointer (some ⟨q1, 0, none⟩), .pointer (some ⟨q2, 0, none⟩), .pointer (some ⟨q3, 0, none⟩), u7, u8, u9, u10, u11, u12, u13, u14, u15, u16, u17, u18, u19, u20, u21, u22, u23, u24, u25, u26, u27, u28, u29, u30, u31, u32, u33, u34, u35, u36, u37, u38, u39, u40, u41, u42, u43, u44, u45, u46, u47, u48, u49, u50, u51, u52, u53, u54, u55, u56, u57, u58, u59, u60, u61, u62, u63, u64, u65, u66, u67, u68, u69, u70, u71, u72, u73, u74, u75, u76, u77, u78, u79, u80, u81, u82, u83, u84, u85, u86, u87, u88, u89, u90, u91, u92, u93, u94, u95, u96, u97, u98, u99, u100, u101, u102, u103, u104, u105, u106, u107, u108, u109, u110, u111, u112, u113, u114, u115, u116, u117, u118, u119, u120, u121, u122, u123, u124, u125, u126, u127, u128, u129, u130, u131, u132, u133, u134, u135, u136, u137, u138, u139, u140, u141, u142, u143, u144, u145, u146, u147, u148, u149, u150, u151, u152, u153, u154, u155, u156, u157, u158, u159, u160, u161, u162, u163, u164, u165, u166, u167, u168, u169, u170, u171, u172, u173, u174, u175, u176, u177, u178, u179, u180, u181, u182, u183, u184, u185, u186, u187, u188, u189, u190, u191, u192, u193, u194, u195, u196, u197, u198, u199, u200, u201, u202, u203, u204, u205, u206, u207, u208, u209, u210, u211, u212, u213, u214, u215], defers := [] } wc := by
  delta Tryd.f60
  dsimp only [bodyAt, codeAt]
  go_upto_region 5 with fail
  go_cut [] from 7 (fun wx => ∃ L5 : List Int, Hid (L5 = gs7 M s L 5) ∧ Hid (Wn 16 L5) ∧ Hid (Mx w q1 q2 q3 L5 M s wx))
  case first =>
    obtain ⟨x0, c0, f0, r0, HX0⟩ := wn_word HM.out.v HW.out 0 (by decide)
    obtain ⟨x1, c1, f1, r1, HX1⟩ := wn_word HM.out.v HW.out 5 (by decide)
    obtain ⟨x2, c2, f2, r2, HX2⟩ := wn_word HM.out.v HW.out 10 (by decide)
    obtain ⟨x3, c3, f3, r3, HX3⟩ := wn_word HM.out.v HW.out 15 (by decide)
    have t0 := so_cell HM.out.s HSO.out 8 (by decide)
    have t1 := so_cell HM.out.s HSO.out 9 (by decide)
    have l0 := HSO.out.lt 8
    have l1 := HSO.out.lt 9
    obtain ⟨n0, hn0⟩ : ∃ n : Nat, n = s[8]! := ⟨_, rfl⟩
    obtain ⟨n1, hn1⟩ : ∃ n : Nat, n = s[9]! := ⟨_, rfl⟩
    rw [← hn0] at t0 l0
    rw [← hn1] at t1 l1
    have HN0 : Hid (n0 = s[8]!) := hn0
    have HN1 : Hid (n1 = s[9]!) := hn1
    clear hn0 hn1
    obtain ⟨y0, d0, -, ry0, HY0⟩ := wn_word HM.out.m HWM.out n0 l0
    obtain ⟨y1, d1, -, ry1, HY1⟩ := wn_word HM.out.m HWM.out n1 l1
    have g0 : (n0 : Int) < 16 := by omega
    have g1 : (n1 : Int) < 16 := by omega
    have xc0 : ∀ u, Ext wc u → u.cell? ⟨w.heap.size, 0, none⟩ = some (.int .u32 x0) := fun u hu => hu.cell c0
    have xc1 : ∀ u, Ext wc u → u.cell? ⟨w.heap.size, 5, none⟩ = some (.int .u32 x1) := fun u hu => hu.cell c1
    have xc2 : ∀ u, Ext wc u → u.cell? ⟨w.heap.size, 10, none⟩ = some (.int .u32 x2) := fun u hu => hu.cell c2
    have xc3 : ∀ u, Ext wc u → u.cell? ⟨w.heap.size, 15, none⟩ = some (.int .u32 x3) := fun u hu => hu.cell c3
    have xt0 : ∀ u, Ext wc u → u.cell? ⟨q2, 8, none⟩ = some (.int .u8 n0) := fun u hu => hu.cell t0
    have xt1 : ∀ u, Ext wc u → u.cell? ⟨q2, 9, none⟩ = some (.int .u8 n1) := fun u hu => hu.cell t1
    have xd0 : ∀ u, Ext wc u → u.cell? ⟨q1, n0, none⟩ = some (.int .u32 y0) := fun u hu => hu.cell d0
    have xd1 : ∀ u, Ext wc u → u.cell? ⟨q1, n1, none⟩ = some (.int .u32 y1) := fun u hu => hu.cell d1
    have hlt := HM.out.v.lt (by decide)
    clear t0 t1 d0 d1
    refine wp_region_noPanic ?_
    refine wp_region_two (k := 23) (Ext wc) (ExtB w.heap.size wc) (by kernel_rfl) (Ext.refl _).drew (fun hH => ?_)
    change wpAnyK _ _ _ _ _ _ _ _ #[false, false, false, false, false, false, false, false, false, false, false, false, false, false, false, false, false, false, false, false, false, false, false, false, false, false, false, false, false, false] _ _
    refine wpAnyK_ahead (i := 0) (oi := ?o0m4_) (v := ?v0m4_) ?h0m4_ (by decide) (by kernel_rfl) (by kernel_rfl) ?f0m4_ ?r0m4_ (fun _ _ _ h => h) (Or.inl ⟨?w0m4_, ?y0m4_⟩) (by assumption) ?t0m4_
    case h0m4_ => simp only [List.getElem?_toArray]; rfl
    case f0m4_ => kernel_rfl
    case r0m4_ => kernel_rfl
    case w0m4_ => rfl
    case y0m4_ => (intro u hu; (go_simp) <;> with_reducible rfl)
    try simp only [Act.put, List.setIfInBounds_toArray, List.set_cons_zero, List.set_cons_succ]
    refine wpAnyK_ahead (i := 1) (oi := ?o1m4_) (v := ?v1m4_) ?h1m4_ (by decide) (by kernel_rfl) (by kernel_rfl) ?f1m4_ ?r1m4_ (fun _ _ _ h => h) (Or.inl ⟨?w1m4_, ?y1m4_⟩) (by assumption) ?t1m4_
    case h1m4_ => simp only [List.getElem?_toArray]; rfl
    case f1m4_ => kernel_rfl
    case r1m4_ => kernel_rfl
    case w1m4_ => rfl
    case y1m4_ => (intro u hu; (have hx := xc0 u hu; go_simp) <;> with_reducible rfl)
    try simp only [Act.put, List.setIfInBounds_toArray, List.set_cons_zero, List.set_cons_succ]
    refine wpAnyK_ahead (i := 2) (oi := ?o2m4_) (v := ?v2m4_) ?h2m4_ (by decide) (by kernel_rfl) (by kernel_rfl) ?f2m4_ ?r2m4_ (fun _ _ _ h => h) (Or.inl ⟨?w2m4_, ?y2m4_⟩) (by assumption) ?t2m4_
    case h2m4_ => simp only [List.getElem?_toArray]; rfl
    case f2m4_ => kernel_rfl
    case r2m4_ => kernel_rfl
    case w2m4_ => rfl
    case y2m4_ => (intro u hu; (go_simp) <;> with_reducible rfl)
    try simp only [Act.put, List.setIfInBounds_toArray, List.set_cons_zero, List.set_cons_succ]
    refine wpAnyK_ahead (i := 3) (oi := ?o3m4_) (v := ?v3m4_) ?h3m4_ (by decide) (by kernel_rfl) (by kernel_rfl) ?f3m4_ ?r3m4_ (fun _ _ _ h => h) (Or.inl ⟨?w3m4_, ?y3m4_⟩) (by assumption) ?t3m4_
    case h3m4_ => simp only [List.getElem?_toArray]; rfl
    case f3m4_ => kernel_rfl
    case r3m4_ => kernel_rfl
    case w3m4_ => rfl
    case y3m4_ => (intro u hu; (have hx := xc1 u hu; go_simp) <;> with_reducible rfl)
    try simp only [Act.put, List.setIfInBounds_toArray, List.set_cons_zero, List.set_cons_succ]
    refine wpAnyK_ahead (i := 4) (oi := ?o4m4_) (v := ?v4m4_) ?h4m4_ (by decide) (by kernel_rfl) (by kernel_rfl) ?f4m4_ ?r4m4_ (fun _ _ _ h => h) (Or.inl ⟨?w4m4_, ?y4m4_⟩) (by assumption) ?t4m4_
    case h4m4_ => simp only [List.getElem?_toArray]; rfl
    case f4m4_ => kernel_rfl
    case r4m4_ => kernel_rfl
    case w4m4_ => rfl
    case y4m4_ => (intro u hu; (go_simp) <;> with_reducible rfl)
    try simp only [Act.put, List.setIfInBounds_toArray, List.set_cons_zero, List.set_cons_succ]
    refine wpAnyK_ahead (i := 5) (oi := ?o5m4_) (v := ?v5m4_) ?h5m4_ (by decide) (by kernel_rfl) (by kernel_rfl) ?f5m4_ ?r5m4_ (fun _ _ _ h => h) (Or.inl ⟨?w5m4_, ?y5m4_⟩) (by assumption) ?t5m4_
    case h5m4_ => simp only [List.getElem?_toArray]; rfl
    case f5m4_ => kernel_rfl
    case r5m4_ => kernel_rfl
    case w5m4_ => rfl
    case y5m4_ => (intro u hu; (have hx := xc2 u hu; go_simp) <;> with_reducible rfl)
    try simp only [Act.put, List.setIfInBounds_toArray, List.set_cons_zero, List.set_cons_succ]
    refine wpAnyK_ahead (i := 6) (oi := ?o6m4_) (v := ?v6m4_) ?h6m4_ (by decide) (by kernel_rfl) (by kernel_rfl) ?f6m4_ ?r6m4_ (fun _ _ _ h => h) (Or.inl ⟨?w6m4_, ?y6m4_⟩) (by assumption) ?t6m4_
    case h6m4_ => simp only [List.getElem?_toArray]; rfl
    case f6m4_ => kernel_rfl
    case r6m4_ => kernel_rfl
    case w6m4_ => rfl
    case y6m4_ => (intro u hu; (go_simp) <;> with_reducible rfl)
    try simp only [Act.put, List.setIfInBounds_toArray, List.set_cons_zero, List.set_cons_succ]
    refine wpAnyK_ahead (i := 7) (oi := ?o7m4_) (v := ?v7m4_) ?h7m4_ (by decide) (by kernel_rfl) (by kernel_rfl) ?f7m4_ ?r7m4_ (fun _ _ _ h => h) (Or.inl ⟨?w7m4_, ?y7m4_⟩) (by assumption) ?t7m4_
    case h7m4_ => simp only [List.getElem?_toArray]; rfl
    case f7m4_ => kernel_rfl
    case r7m4_ => kernel_rfl
    case w7m4_ => rfl
    case y7m4_ => (intro u hu; (have hx := xc3 u hu; go_simp) <;> with_reducible rfl)
    try simp only [Act.put, List.setIfInBounds_toArray, List.set_cons_zero, List.set_cons_succ]
    refine wpAnyK_ahead (i := 8) (oi := ?o8m4_) (v := ?v8m4_) ?h8m4_ (by decide) (by kernel_rfl) (by kernel_rfl) ?f8m4_ ?r8m4_ (fun _ _ _ h => h) (Or.inl ⟨?w8m4_, ?y8m4_⟩) (by assumption) ?t8m4_
    case h8m4_ => simp only [List.getElem?_toArray]; rfl
    case f8m4_ => kernel_rfl
    case r8m4_ => kernel_rfl
    case w8m4_ => rfl
    case y8m4_ => (intro u hu; (go_simp) <;> with_reducible rfl)
    try simp only [Act.put, List.setIfInBounds_toArray, List.set_cons_zero, List.set_cons_succ]
    refine wpAnyK_ahead (i := 9) (oi := ?o9m4_) (v := ?v9m4_) ?h9m4_ (by decide) (by kernel_rfl) (by kernel_rfl) ?f9m4_ ?r9m4_ (fun _ _ _ h => h) (Or.inl ⟨?w9m4_, ?y9m4_⟩) (by assumption) ?t9m4_
    case h9m4_ => simp only [List.getElem?_toArray]; rfl
    case f9m4_ => kernel_rfl
    case r9m4_ => kernel_rfl
    case w9m4_ => rfl
    case y9m4_ => (intro u hu; (have hx := xt0 u hu; go_simp) <;> with_reducible rfl)
    try simp only [Act.put, List.setIfInBounds_toArray, List.set_cons_zero, List.set_cons_succ]
    refine wpAnyK_ahead (i := 10) (oi := ?o10m4_) (v := ?v10m4_) ?h10m4_ (by decide) (by kernel_rfl) (by kernel_rfl) ?f10m4_ ?r10m4_ (fun _ _ _ h => h) (Or.inl ⟨?w10m4_, ?y10m4_⟩) (by assumption) ?t10m4_
    case h10m4_ => simp only [List.getElem?_toArray]; rfl
    case f10m4_ => kernel_rfl
    case r10m4_ => kernel_rfl
    case w10m4_ => rfl
    case y10m4_ => (intro u hu; (go_simp) <;> with_reducible rfl)
    try simp only [Act.put, List.setIfInBounds_toArray, List.set_cons_zero, List.set_cons_succ]
    refine wpAnyK_ahead (i := 11) (oi := ?o11m4_) (v := ?v11m4_) ?h11m4_ (by decide) (by kernel_rfl) (by kernel_rfl) ?f11m4_ ?r11m4_ (fun _ _ _ h => h) (Or.inl ⟨?w11m4_, ?y11m4_⟩) (by assumption) ?t11m4_
    case h11m4_ => simp only [List.getElem?_toArray]; rfl
    case f11m4_ => kernel_rfl
    case r11m4_ => kernel_rfl
    case w11m4_ => rfl
    case y11m4_ => (intro u hu; (have hx := xd0 u hu; go_simp) <;> with_reducible rfl)
    try simp only [Act.put, List.setIfInBounds_toArray, List.set_cons_zero, List.set_cons_succ]
    refine wpAnyK_ahead (i := 12) (oi := ?o12m4_) (v := ?v12m4_) ?h12m4_ (by decide) (by kernel_rfl) (by kernel_rfl) ?f12m4_ ?r12m4_ (fun _ _ _ h => h) (Or.inl ⟨?w12m4_, ?y12m4_⟩) (by assumption) ?t12m4_
    case h12m4_ => simp only [List.getElem?_toArray]; rfl
    case f12m4_ => kernel_rfl
    case r12m4_ => kernel_rfl
    case w12m4_ => rfl
    case y12m4_ => (intro u hu; (go_simp) <;> with_reducible rfl)
    try simp only [Act.put, List.setIfInBounds_toArray, List.set_cons_zero, List.set_cons_succ]
    refine wpAnyK_ahead (i := 13) (oi := ?o13m4_) (v := ?v13m4_) ?h13m4_ (by decide) (by kernel_rfl) (by kernel_rfl) ?f13m4_ ?r13m4_ (fun _ _ _ h => h) (Or.inl ⟨?w13m4_, ?y13m4_⟩) (by assumption) ?t13m4_
    case h13m4_ => simp only [List.getElem?_toArray]; rfl
    case f13m4_ => kernel_rfl
    case r13m4_ => kernel_rfl
    case w13m4_ => rfl
    case y13m4_ => (intro u hu; (have hx := xt1 u hu; go_simp) <;> with_reducible rfl)
    try simp only [Act.put, List.setIfInBounds_toArray, List.set_cons_zero, List.set_cons_succ]
    refine wpAnyK_ahead (i := 14) (oi := ?o14m4_) (v := ?v14m4_) ?h14m4_ (by decide) (by kernel_rfl) (by kernel_rfl) ?f14m4_ ?r14m4_ (fun _ _ _ h => h) (Or.inl ⟨?w14m4_, ?y14m4_⟩) (by assumption) ?t14m4_
    case h14m4_ => simp only [List.getElem?_toArray]; rfl
    case f14m4_ => kernel_rfl
    case r14m4_ => kernel_rfl
    case w14m4_ => rfl
    case y14m4_ => (intro u hu; (go_simp) <;> with_reducible rfl)
    try simp only [Act.put, List.setIfInBounds_toArray, List.set_cons_zero, List.set_cons_succ]
    refine wpAnyK_ahead (i := 15) (oi := ?o15m4_) (v := ?v15m4_) ?h15m4_ (by decide) (by kernel_rfl) (by kernel_rfl) ?f15m4_ ?r15m4_ (fun _ _ _ h => h) (Or.inl ⟨?w15m4_, ?y15m4_⟩) (by assumption) ?t15m4_
    case h15m4_ => simp only [List.getElem?_toArray]; rfl
    case f15m4_ => kernel_rfl
    case r15m4_ => kernel_rfl
    case w15m4_ => rfl
    case y15m4_ => (intro u hu; (have hx := xd1 u hu; go_simp) <;> with_reducible rfl)
    try simp only [Act.put, List.setIfInBounds_toArray, List.set_cons_zero, List.set_cons_succ]
    clear xc0 xc1 xc2 xc3 xt0 xt1 xd0 xd1
    refine wpAnyK_one (i := 16) (o := ?o16m4_) ?h16m4_ (by decide) (by kernel_rfl) (fun K hK => ?_)
    case h16m4_ => simp only [List.getElem?_toArray]; rfl
    go_simp
    refine (quarter7_c x0 x1 x2 x3 y0 y1 r0 r1 r2 r3 ry0 ry1 _).mono ?_
    rintro e V ⟨p, q, r, t, rfl, HQ, -, -, -, -, hb⟩
    refine hK.out _ _ (hH.trans hb) (fun hH' => ?_)
    clear hK K hH
    have hH := hH'
    clear hH'
    try simp only [List.setIfInBounds_toArray, List.set]
    refine wpAnyK_ahead (i := 17) (oi := ?o17m4_) (v := ?v17m4_) ?h17m4_ (by decide) (by kernel_rfl) (by kernel_rfl) ?f17m4_ ?r17m4_ (fun _ _ _ h => h) (Or.inl ⟨?w17m4_, ?y17m4_⟩) (by assumption) ?t17m4_
    case h17m4_ => simp only [List.getElem?_toArray]; rfl
    case f17m4_ => kernel_rfl
    case r17m4_ => kernel_rfl
    case w17m4_ => rfl
    case y17m4_ => (intro u hu; (go_simp) <;> with_reducible rfl)
    try simp only [Act.put, List.setIfInBounds_toArray, List.set_cons_zero, List.set_cons_succ]
    refine wpAnyK_ahead (i := 18) (oi := ?o18m4_) (v := ?v18m4_) ?h18m4_ (by decide) (by kernel_rfl) (by kernel_rfl) ?f18m4_ ?r18m4_ (fun _ _ _ h => h) (Or.inl ⟨?w18m4_, ?y18m4_⟩) (by assumption) ?t18m4_
    case h18m4_ => simp only [List.getElem?_toArray]; rfl
    case f18m4_ => kernel_rfl
    case r18m4_ => kernel_rfl
    case w18m4_ => rfl
    case y18m4_ => (intro u hu; (go_simp) <;> with_reducible rfl)
    try simp only [Act.put, List.setIfInBounds_toArray, List.set_cons_zero, List.set_cons_succ]
    refine wpAnyK_take (i := 19) (oi := ?o19m4_) (v := ?v19m4_) ?h19m4_ (by decide) (by kernel_rfl) ?f19m4_ ?r19m4_ (fun _ _ _ h => h) (fun _ h => h.extB _) (Or.inl ⟨?w19m4_, ?y19m4_⟩) (by assumption) ?t19m4_
    case h19m4_ => simp only [List.getElem?_toArray]; rfl
    case f19m4_ => kernel_rfl
    case r19m4_ => kernel_rfl
    case w19m4_ => rfl
    case y19m4_ => (intro u hu; (go_simp) <;> with_reducible rfl)
    try simp only [Act.put, List.setIfInBounds_toArray, List.set_cons_zero, List.set_cons_succ]
    refine wpAnyK_take (i := 20) (oi := ?o20m4_) (v := ?v20m4_) ?h20m4_ (by decide) (by kernel_rfl) ?f20m4_ ?r20m4_ (fun _ _ _ h => h) (fun _ h => h.extB _) (Or.inl ⟨?w20m4_, ?y20m4_⟩) (by assumption) ?t20m4_
    case h20m4_ => simp only [List.getElem?_toArray]; rfl
    case f20m4_ => kernel_rfl
    case r20m4_ => kernel_rfl
    case w20m4_ => rfl
    case y20m4_ => (intro u hu; (go_simp) <;> with_reducible rfl)
    try simp only [Act.put, List.setIfInBounds_toArray, List.set_cons_zero, List.set_cons_succ]
    refine wpAnyK_take (i := 21) (oi := ?o21m4_) (v := ?v21m4_) ?h21m4_ (by decide) (by kernel_rfl) ?f21m4_ ?r21m4_ (fun _ _ _ h => h) (fun _ h => h.extB _) (Or.inl ⟨?w21m4_, ?y21m4_⟩) (by assumption) ?t21m4_
    case h21m4_ => simp only [List.getElem?_toArray]; rfl
    case f21m4_ => kernel_rfl
    case r21m4_ => kernel_rfl
    case w21m4_ => rfl
    case y21m4_ => (intro u hu; (go_simp) <;> with_reducible rfl)
    try simp only [Act.put, List.setIfInBounds_toArray, List.set_cons_zero, List.set_cons_succ]
    refine wpAnyK_ahead (i := 22) (oi := ?o22m4_) (v := ?v22m4_) ?h22m4_ (by decide) (by kernel_rfl) (by kernel_rfl) ?f22m4_ ?r22m4_ (fun _ _ _ h => h) (Or.inl ⟨?w22m4_, ?y22m4_⟩) (by assumption) ?t22m4_
    case h22m4_ => simp only [List.getElem?_toArray]; rfl
    case f22m4_ => kernel_rfl
    case r22m4_ => kernel_rfl
    case w22m4_ => rfl
    case y22m4_ => (intro u hu; (go_simp) <;> with_reducible rfl)
    try simp only [Act.put, List.setIfInBounds_toArray, List.set_cons_zero, List.set_cons_succ]
    replace HM := HM.out.later hH
    replace c0 := cell_later hH c0
    replace f0 := froz_later hH hlt f0
    replace c1 := cell_later hH c1
    replace f1 := froz_later hH hlt f1
    replace c2 := cell_later hH c2
    replace f2 := froz_later hH hlt f2
    replace c3 := cell_later hH c3
    replace f3 := froz_later hH hlt f3
    clear hb
    refine wpAnyK_last (k := 23) (o := ?o23m4_) ?h23m4_ (by kernel_rfl) (fun K hK => ?_)
    case h23m4_ => simp only [List.getElem?_toArray]; rfl
    go_simp
    refine hK.out _ _ ((hH.extB _).set 0 _) (fun hH' => ?_)
    clear hK K hH
    have hH := hH'
    clear hH'
    try simp only [List.setIfInBounds_toArray, List.set]
    refine wpAnyH_take (i := 24) (oi := ?o24m4_) (v := ?v24m4_) ?h24m4_ (by kernel_rfl) ?f24m4_ ?r24m4_ (fun _ _ _ h => h) (Or.inl ⟨?w24m4_, ?y24m4_⟩) (by assumption) ?t24m4_
    case h24m4_ => simp only [List.getElem?_toArray]; rfl
    case f24m4_ => kernel_rfl
    case r24m4_ => kernel_rfl
    case w24m4_ => rfl
    case y24m4_ => (intro u hu; (go_simp) <;> with_reducible rfl)
    try simp only [Act.put, List.setIfInBounds_toArray, List.set_cons_zero, List.set_cons_succ]
    refine wpAnyH_ready (rs := [25]) (by kernel_rfl) (by simp) ?_
    refine AllReadyH.cons (o := ?o25m4_) ?h25m4_ (fun K hK => ?_) AllReadyH.nil
    case h25m4_ => simp only [List.getElem?_toArray]; rfl
    go_simp
    refine hK.out _ _ (hH.set 5 _) (fun hH' => ?_)
    clear hK K hH
    have hH := hH'
    clear hH'
    try simp only [List.setIfInBounds_toArray, List.set]
    refine wpAnyH_take (i := 26) (oi := ?o26m4_) (v := ?v26m4_) ?h26m4_ (by kernel_rfl) ?f26m4_ ?r26m4_ (fun _ _ _ h => h) (Or.inl ⟨?w26m4_, ?y26m4_⟩) (by assumption) ?t26m4_
    case h26m4_ => simp only [List.getElem?_toArray]; rfl
    case f26m4_ => kernel_rfl
    case r26m4_ => kernel_rfl
    case w26m4_ => rfl
    case y26m4_ => (intro u hu; (go_simp) <;> with_reducible rfl)
    try simp only [Act.put, List.setIfInBounds_toArray, List.set_cons_zero, List.set_cons_succ]
    refine wpAnyH_ready (rs := [27]) (by kernel_rfl) (by simp) ?_
    refine AllReadyH.cons (o := ?o27m4_) ?h27m4_ (fun K hK => ?_) AllReadyH.nil
    case h27m4_ => simp only [List.getElem?_toArray]; rfl
    go_simp
    refine hK.out _ _ (hH.set 10 _) (fun hH' => ?_)
    clear hK K hH
    have hH := hH'
    clear hH'
    try simp only [List.setIfInBounds_toArray, List.set]
    refine wpAnyH_take (i := 28) (oi := ?o28m4_) (v := ?v28m4_) ?h28m4_ (by kernel_rfl) ?f28m4_ ?r28m4_ (fun _ _ _ h => h) (Or.inl ⟨?w28m4_, ?y28m4_⟩) (by assumption) ?t28m4_
    case h28m4_ => simp only [List.getElem?_toArray]; rfl
    case f28m4_ => kernel_rfl
    case r28m4_ => kernel_rfl
    case w28m4_ => rfl
    case y28m4_ => (intro u hu; (go_simp) <;> with_reducible rfl)
    try simp only [Act.put, List.setIfInBounds_toArray, List.set_cons_zero, List.set_cons_succ]
    refine wpAnyH_ready (rs := [29]) (by kernel_rfl) (by simp) ?_
    refine AllReadyH.cons (o := ?o29m4_) ?h29m4_ (fun K hK => ?_) AllReadyH.nil
    case h29m4_ => simp only [List.getElem?_toArray]; rfl
    go_simp
    refine hK.out _ _ (hH.set 15 _) (fun hH' => ?_)
    clear hK K hH
    have hH := hH'
    clear hH'
    try simp only [List.setIfInBounds_toArray, List.set]
    refine wpAnyH_done (by kernel_rfl) ?_ _
    refine NoPanic.normal ?_
    have HM' := HM.mixed k1 k2 k3 0 5 10 15 (by decide) (by decide) (by decide) (by decide) HX0.out HX1.out HX2.out HX3.out HQ.out
    go_wp2_with fail
    go_meet
    case rel => exact ⟨bg7 L4 0 5 10 15 y0 y1, by unfold Hid; rw [HY0.out, HY1.out, HN0.out, HN1.out, HL.out]; rfl, bg7_w HW.out _ _ _ _ _ _, HM'⟩
  case rest =>
  obtain ⟨L5, HL, HW, HM⟩ := hcut
  go_upto_region 6 with fail
  go_cut [] from 7 (fun wx => ∃ L6 : List Int, Hid (L6 = gs7 M s L 6) ∧ Hid (Wn 16 L6) ∧ Hid (Mx w q1 q2 q3 L6 M s wx))
  case first =>
    obtain ⟨x0, c0, f0, r0, HX0⟩ := wn_word HM.out.v HW.out 1 (by decide)
    obtain ⟨x1, c1, f1, r1, HX1⟩ := wn_word HM.out.v HW.out 6 (by decide)
    obtain ⟨x2, c2, f2, r2, HX2⟩ := wn_word HM.out.v HW.out 11 (by decide)
    obtain ⟨x3, c3, f3, r3, HX3⟩ := wn_word HM.out.v HW.out 12 (by decide)
    have t0 := so_cell HM.out.s HSO.out 10 (by decide)
    have t1 := so_cell HM.out.s HSO.out 11 (by decide)
    have l0 := HSO.out.lt 10
    have l1 := HSO.out.lt 11
    obtain ⟨n0, hn0⟩ : ∃ n : Nat, n = s[10]! := ⟨_, rfl⟩
    obtain ⟨n1, hn1⟩ : ∃ n : Nat, n = s[11]! := ⟨_, rfl⟩
    rw [← hn0] at t0 l0
    rw [← hn1] at t1 l1
    have HN0 : Hid (n0 = s[10]!) := hn0
    have HN1 : Hid (n1 = s[11]!) := hn1
    clear hn0 hn1
    obtain ⟨y0, d0, -, ry0, HY0⟩ := wn_word HM.out.m HWM.out n0 l0
    obtain ⟨y1, d1, -, ry1, HY1⟩ := wn_word HM.out.m HWM.out n1 l1
    have g0 : (n0 : Int) < 16 := by omega
    have g1 : (n1 : Int) < 16 := by omega
    have xc0 : ∀ u, Ext wc u → u.cell? ⟨w.heap.size, 1, none⟩ = some (.int .u32 x0) := fun u hu => hu.cell c0
    have xc1 : ∀ u, Ext wc u → u.cell? ⟨w.heap.size, 6, none⟩ = some (.int .u32 x1) := fun u hu => hu.cell c1
    have xc2 : ∀ u, Ext wc u → u.cell? ⟨w.heap.size, 11, none⟩ = some (.int .u32 x2) := fun u hu => hu.cell c2
    have xc3 : ∀ u, Ext wc u → u.cell? ⟨w.heap.size, 12, none⟩ = some (.int .u32 x3) := fun u hu => hu.cell c3
    have xt0 : ∀ u, Ext wc u → u.cell? ⟨q2, 10, none⟩ = some (.int .u8 n0) := fun u hu => hu.cell t0
    have xt1 : ∀ u, Ext wc u → u.cell? ⟨q2, 11, none⟩ = some (.int .u8 n1) := fun u hu => hu.cell t1
    have xd0 : ∀ u, Ext wc u → u.cell? ⟨q1, n0, none⟩ = some (.int .u32 y0) := fun u hu => hu.cell d0
    have xd1 : ∀ u, Ext wc u → u.cell? ⟨q1, n1, none⟩ = some (.int .u32 y1) := fun u hu => hu.cell d1
    have hlt := HM.out.v.lt (by decide)
    clear t0 t1 d0 d1
    refine wp_region_noPanic ?_
    refine wp_region_two (k := 23) (Ext wc) (ExtB w.heap.size wc) (by kernel_rfl) (Ext.refl _).drew (fun hH => ?_)
    change wpAnyK _ _ _ _ _ _ _ _ #[false, false, false, false, false, false, false, false, false, false, false, false, false, false, false, false, false, false, false, false, false, false, false, false, false, false, false, false, false, false] _ _
    refine wpAnyK_ahead (i := 0) (oi := ?o0m5_) (v := ?v0m5_) ?h0m5_ (by decide) (by kernel_rfl) (by kernel_rfl) ?f0m5_ ?r0m5_ (fun _ _ _ h => h) (Or.inl ⟨?w0m5_, ?y0m5_⟩) (by assumption) ?t0m5_
    case h0m5_ => simp only [List.getElem?_toArray]; rfl
    case f0m5_ => kernel_rfl
    case r0m5_ => kernel_rfl
    case w0m5_ => rfl
    case y0m5_ => (intro u hu; (go_simp) <;> with_reducible rfl)
    try simp only [Act.put, List.setIfInBounds_toArray, List.set_cons_zero, List.set_cons_succ]
    refine wpAnyK_ahead (i := 1) (oi := ?o1m5_) (v := ?v1m5_) ?h1m5_ (by decide) (by kernel_rfl) (by kernel_rfl) ?f1m5_ ?r1m5_ (fun _ _ _ h => h) (Or.inl ⟨?w1m5_, ?y1m5_⟩) (by assumption) ?t1m5_
    case h1m5_ => simp only [List.getElem?_toArray]; rfl
    case f1m5_ => kernel_rfl
    case r1m5_ => kernel_rfl
    case w1m5_ => rfl
    case y1m5_ => (intro u hu; (have hx := xc0 u hu; go_simp) <;> with_reducible rfl)
    try simp only [Act.put, List.setIfInBounds_toArray, List.set_cons_zero, List.set_cons_succ]
    refine wpAnyK_ahead (i := 2) (oi := ?o2m5_) (v := ?v2m5_) ?h2m5_ (by decide) (by kernel_rfl) (by kernel_rfl) ?f2m5_ ?r2m5_ (fun _ _ _ h => h) (Or.inl ⟨?w2m5_, ?y2m5_⟩) (by assumption) ?t2m5_
    case h2m5_ => simp only [List.getElem?_toArray]; rfl
    case f2m5_ => kernel_rfl
    case r2m5_ => kernel_rfl
    case w2m5_ => rfl
    case y2m5_ => (intro u hu; (go_simp) <;> with_reducible rfl)
    try simp only [Act.put, List.setIfInBounds_toArray, List.set_cons_zero, List.set_cons_succ]
    refine wpAnyK_ahead (i := 3) (oi := ?o3m5_) (v := ?v3m5_) ?h3m5_ (by decide) (by kernel_rfl) (by kernel_rfl) ?f3m5_ ?r3m5_ (fun _ _ _ h => h) (Or.inl ⟨?w3m5_, ?y3m5_⟩) (by assumption) ?t3m5_
    case h3m5_ => simp only [List.getElem?_toArray]; rfl
    case f3m5_ => kernel_rfl
    case r3m5_ => kernel_rfl
    case w3m5_ => rfl
    case y3m5_ => (intro u hu; (have hx := xc1 u hu; go_simp) <;> with_reducible rfl)
    try simp only [Act.put, List.setIfInBounds_toArray, List.set_cons_zero, List.set_cons_succ]
    refine wpAnyK_ahead (i := 4) (oi := ?o4m5_) (v := ?v4m5_) ?h4m5_ (by decide) (by kernel_rfl) (by kernel_rfl) ?f4m5_ ?r4m5_ (fun _ _ _ h => h) (Or.inl ⟨?w4m5_, ?y4m5_⟩) (by assumption) ?t4m5_
    case h4m5_ => simp only [List.getElem?_toArray]; rfl
    case f4m5_ => kernel_rfl
    case r4m5_ => kernel_rfl
    case w4m5_ => rfl
    case y4m5_ => (intro u hu; (go_simp) <;> with_reducible rfl)
    try simp only [Act.put, List.setIfInBounds_toArray, List.set_cons_zero, List.set_cons_succ]
    refine wpAnyK_ahead (i := 5) (oi := ?o5m5_) (v := ?v5m5_) ?h5m5_ (by decide) (by kernel_rfl) (by kernel_rfl) ?f5m5_ ?r5m5_ (fun _ _ _ h => h) (Or.inl ⟨?w5m5_, ?y5m5_⟩) (by assumption) ?t5m5_
    case h5m5_ => simp only [List.getElem?_toArray]; rfl
    case f5m5_ => kernel_rfl
    case r5m5_ => kernel_rfl
    case w5m5_ => rfl
    case y5m5_ => (intro u hu; (have hx := xc2 u hu; go_simp) <;> with_reducible rfl)
    try simp only [Act.put, List.setIfInBounds_toArray, List.set_cons_zero, List.set_cons_succ]
    refine wpAnyK_ahead (i := 6) (oi := ?o6m5_) (v := ?v6m5_) ?h6m5_ (by decide) (by kernel_rfl) (by kernel_rfl) ?f6m5_ ?r6m5_ (fun _ _ _ h => h) (Or.inl ⟨?w6m5_, ?y6m5_⟩) (by assumption) ?t6m5_
    case h6m5_ => simp only [List.getElem?_toArray]; rfl
    case f6m5_ => kernel_rfl
    case r6m5_ => kernel_rfl
    case w6m5_ => rfl
    case y6m5_ => (intro u hu; (go_simp) <;> with_reducible rfl)
    try simp only [Act.put, List.setIfInBounds_toArray, List.set_cons_zero, List.set_cons_succ]
    refine wpAnyK_ahead (i := 7) (oi := ?o7m5_) (v := ?v7m5_) ?h7m5_ (by decide) (by kernel_rfl) (by kernel_rfl) ?f7m5_ ?r7m5_ (fun _ _ _ h => h) (Or.inl ⟨?w7m5_, ?y7m5_⟩) (by assumption) ?t7m5_
    case h7m5_ => simp only [List.getElem?_toArray]; rfl
    case f7m5_ => kernel_rfl
    case r7m5_ => kernel_rfl
    case w7m5_ => rfl
    case y7m5_ => (intro u hu; (have hx := xc3 u hu; go_simp) <;> with_reducible rfl)
    try simp only [Act.put, List.setIfInBounds_toArray, List.set_cons_zero, List.set_cons_succ]
    refine wpAnyK_ahead (i := 8) (oi := ?o8m5_) (v := ?v8m5_) ?h8m5_ (by decide) (by kernel_rfl) (by kernel_rfl) ?f8m5_ ?r8m5_ (fun _ _ _ h => h) (Or.inl ⟨?w8m5_, ?y8m5_⟩) (by assumption) ?t8m5_
    case h8m5_ => simp only [List.getElem?_toArray]; rfl
    case f8m5_ => kernel_rfl
    case r8m5_ => kernel_rfl
    case w8m5_ => rfl
    case y8m5_ => (intro u hu; (go_simp) <;> with_reducible rfl)
    try simp only [Act.put, List.setIfInBounds_toArray, List.set_cons_zero, List.set_cons_succ]
    refine wpAnyK_ahead (i := 9) (oi := ?o9m5_) (v := ?v9m5_) ?h9m5_ (by decide) (by kernel_rfl) (by kernel_rfl) ?f9m5_ ?r9m5_ (fun _ _ _ h => h) (Or.inl ⟨?w9m5_, ?y9m5_⟩) (by assumption) ?t9m5_
    case h9m5_ => simp only [List.getElem?_toArray]; rfl
    case f9m5_ => kernel_rfl
    case r9m5_ => kernel_rfl
    case w9m5_ => rfl
    case y9m5_ => (intro u hu; (have hx := xt0 u hu; go_simp) <;> with_reducible rfl)
    try simp only [Act.put, List.setIfInBounds_toArray, List.set_cons_zero, List.set_cons_succ]
    refine wpAnyK_ahead (i := 10) (oi := ?o10m5_) (v := ?v10m5_) ?h10m5_ (by decide) (by kernel_rfl) (by kernel_rfl) ?f10m5_ ?r10m5_ (fun _ _ _ h => h) (Or.inl ⟨?w10m5_, ?y10m5_⟩) (by assumption) ?t10m5_
    case h10m5_ => simp only [List.getElem?_toArray]; rfl
    case f10m5_ => kernel_rfl
    case r10m5_ => kernel_rfl
    case w10m5_ => rfl
    case y10m5_ => (intro u hu; (go_simp) <;> with_reducible rfl)
    try simp only [Act.put, List.setIfInBounds_toArray, List.set_cons_zero, List.set_cons_succ]
    refine wpAnyK_ahead (i := 11) (oi := ?o11m5_) (v := ?v11m5_) ?h11m5_ (by decide) (by kernel_rfl) (by kernel_rfl) ?f11m5_ ?r11m5_ (fun _ _ _ h => h) (Or.inl ⟨?w11m5_, ?y11m5_⟩) (by assumption) ?t11m5_
    case h11m5_ => simp only [List.getElem?_toArray]; rfl
    case f11m5_ => kernel_rfl
    case r11m5_ => kernel_rfl
    case w11m5_ => rfl
    case y11m5_ => (intro u hu; (have hx := xd0 u hu; go_simp) <;> with_reducible rfl)
    try simp only [Act.put, List.setIfInBounds_toArray, List.set_cons_zero, List.set_cons_succ]
    refine wpAnyK_ahead (i := 12) (oi := ?o12m5_) (v := ?v12m5_) ?h12m5_ (by decide) (by kernel_rfl) (by kernel_rfl) ?f12m5_ ?r12m5_ (fun _ _ _ h => h) (Or.inl ⟨?w12m5_, ?y12m5_⟩) (by assumption) ?t12m5_
    case h12m5_ => simp only [List.getElem?_toArray]; rfl
    case f12m5_ => kernel_rfl
    case r12m5_ => kernel_rfl
    case w12m5_ => rfl
    case y12m5_ => (intro u hu; (go_simp) <;> with_reducible rfl)
    try simp only [Act.put, List.setIfInBounds_toArray, List.set_cons_zero, List.set_cons_succ]
    refine wpAnyK_ahead (i := 13) (oi := ?o13m5_) (v := ?v13m5_) ?h13m5_ (by decide) (by kernel_rfl) (by kernel_rfl) ?f13m5_ ?r13m5_ (fun _ _ _ h => h) (Or.inl ⟨?w13m5_, ?y13m5_⟩) (by assumption) ?t13m5_
    case h13m5_ => simp only [List.getElem?_toArray]; rfl
    case f13m5_ => kernel_rfl
    case r13m5_ => kernel_rfl
    case w13m5_ => rfl
    case y13m5_ => (intro u hu; (have hx := xt1 u hu; go_simp) <;> with_reducible rfl)
    try simp only [Act.put, List.setIfInBounds_toArray, List.set_cons_zero, List.set_cons_succ]
    refine wpAnyK_ahead (i := 14) (oi := ?o14m5_) (v := ?v14m5_) ?h14m5_ (by decide) (by kernel_rfl) (by kernel_rfl) ?f14m5_ ?r14m5_ (fun _ _ _ h => h) (Or.inl ⟨?w14m5_, ?y14m5_⟩) (by assumption) ?t14m5_
    case h14m5_ => simp only [List.getElem?_toArray]; rfl
    case f14m5_ => kernel_rfl
    case r14m5_ => kernel_rfl
    case w14m5_ => rfl
    case y14m5_ => (intro u hu; (go_simp) <;> with_reducible rfl)
    try simp only [Act.put, List.setIfInBounds_toArray, List.set_cons_zero, List.set_cons_succ]
    refine wpAnyK_ahead (i := 15) (oi := ?o15m5_) (v := ?v15m5_) ?h15m5_ (by decide) (by kernel_rfl) (by kernel_rfl) ?f15m5_ ?r15m5_ (fun _ _ _ h => h) (Or.inl ⟨?w15m5_, ?y15m5_⟩) (by assumption) ?t15m5_
    case h15m5_ => simp only [List.getElem?_toArray]; rfl
    case f15m5_ => kernel_rfl
    case r15m5_ => kernel_rfl
    case w15m5_ => rfl
    case y15m5_ => (intro u hu; (have hx := xd1 u hu; go_simp) <;> with_reducible rfl)
    try simp only [Act.put, List.setIfInBounds_toArray, List.set_cons_zero, List.set_cons_succ]
    clear xc0 xc1 xc2 xc3 xt0 xt1 xd0 xd1
    refine wpAnyK_one (i := 16) (o := ?o16m5_) ?h16m5_ (by decide) (by kernel_rfl) (fun K hK => ?_)
    case h16m5_ => simp only [List.getElem?_toArray]; rfl
    go_simp
    refine (quarter7_c x0 x1 x2 x3 y0 y1 r0 r1 r2 r3 ry0 ry1 _).mono ?_
    rintro e V ⟨p, q, r, t, rfl, HQ, -, -, -, -, hb⟩
    refine hK.out _ _ (hH.trans hb) (fun hH' => ?_)
    clear hK K hH
    have hH := hH'
    clear hH'
    try simp only [List.setIfInBounds_toArray, List.set]
    refine wpAnyK_ahead (i := 17) (oi := ?o17m5_) (v := ?v17m5_) ?h17m5_ (by decide) (by kernel_rfl) (by kernel_rfl) ?f17m5_ ?r17m5_ (fun _ _ _ h => h) (Or.inl ⟨?w17m5_, ?y17m5_⟩) (by assumption) ?t17m5_
    case h17m5_ => simp only [List.getElem?_toArray]; rfl
    case f17m5_ => kernel_rfl
    case r17m5_ => kernel_rfl
    case w17m5_ => rfl
    case y17m5_ => (intro u hu; (go_simp) <;> with_reducible rfl)
    try simp only [Act.put, List.setIfInBounds_toArray, List.set_cons_zero, List.set_cons_succ]
    refine wpAnyK_ahead (i := 18) (oi := ?o18m5_) (v := ?v18m5_) ?h18m5_ (by decide) (by kernel_rfl) (by kernel_rfl) ?f18m5_ ?r18m5_ (fun _ _ _ h => h) (Or.inl ⟨?w18m5_, ?y18m5_⟩) (by assumption) ?t18m5_
    case h18m5_ => simp only [List.getElem?_toArray]; rfl
    case f18m5_ => kernel_rfl
    case r18m5_ => kernel_rfl
    case w18m5_ => rfl
    case y18m5_ => (intro u hu; (go_simp) <;> with_reducible rfl)
    try simp only [Act.put, List.setIfInBounds_toArray, List.set_cons_zero, List.set_cons_succ]
    refine wpAnyK_take (i := 19) (oi := ?o19m5_) (v := ?v19m5_) ?h19m5_ (by decide) (by kernel_rfl) ?f19m5_ ?r19m5_ (fun _ _ _ h => h) (fun _ h => h.extB _) (Or.inl ⟨?w19m5_, ?y19m5_⟩) (by assumption) ?t19m5_
    case h19m5_ => simp only [List.getElem?_toArray]; rfl
    case f19m5_ => kernel_rfl
    case r19m5_ => kernel_rfl
    case w19m5_ => rfl
    case y19m5_ => (intro u hu; (go_simp) <;> with_reducible rfl)
    try simp only [Act.put, List.setIfInBounds_toArray, List.set_cons_zero, List.set_cons_succ]
    refine wpAnyK_take (i := 20) (oi := ?o20m5_) (v := ?v20m5_) ?h20m5_ (by decide) (by kernel_rfl) ?f20m5_ ?r20m5_ (fun _ _ _ h => h) (fun _ h => h.extB _) (Or.inl ⟨?w20m5_, ?y20m5_⟩) (by assumption) ?t20m5_
    case h20m5_ => simp only [List.getElem?_toArray]; rfl
    case f20m5_ => kernel_rfl
    case r20m5_ => kernel_rfl
    case w20m5_ => rfl
    case y20m5_ => (intro u hu; (go_simp) <;> with_reducible rfl)
    try simp only [Act.put, List.setIfInBounds_toArray, List.set_cons_zero, List.set_cons_succ]
    refine wpAnyK_take (i := 21) (oi := ?o21m5_) (v := ?v21m5_) ?h21m5_ (by decide) (by kernel_rfl) ?f21m5_ ?r21m5_ (fun _ _ _ h => h) (fun _ h => h.extB _) (Or.inl ⟨?w21m5_, ?y21m5_⟩) (by assumption) ?t21m5_
    case h21m5_ => simp only [List.getElem?_toArray]; rfl
    case f21m5_ => kernel_rfl
    case r21m5_ => kernel_rfl
    case w21m5_ => rfl
    case y21m5_ => (intro u hu; (go_simp) <;> with_reducible rfl)
    try simp only [Act.put, List.setIfInBounds_toArray, List.set_cons_zero, List.set_cons_succ]
    refine wpAnyK_ahead (i := 22) (oi := ?o22m5_) (v := ?v22m5_) ?h22m5_ (by decide) (by kernel_rfl) (by kernel_rfl) ?f22m5_ ?r22m5_ (fun _ _ _ h => h) (Or.inl ⟨?w22m5_, ?y22m5_⟩) (by assumption) ?t22m5_
    case h22m5_ => simp only [List.getElem?_toArray]; rfl
    case f22m5_ => kernel_rfl
    case r22m5_ => kernel_rfl
    case w22m5_ => rfl
    case y22m5_ => (intro u hu; (go_simp) <;> with_reducible rfl)
    try simp only [Act.put, List.setIfInBounds_toArray, List.set_cons_zero, List.set_cons_succ]
    replace HM := HM.out.later hH
    replace c0 := cell_later hH c0
    replace f0 := froz_later hH hlt f0
    replace c1 := cell_later hH c1
    replace f1 := froz_later hH hlt f1
    replace c2 := cell_later hH c2
    replace f2 := froz_later hH hlt f2
    replace c3 := cell_later hH c3
    replace f3 := froz_later hH hlt f3
    clear hb
    refine wpAnyK_last (k := 23) (o := ?o23m5_) ?h23m5_ (by kernel_rfl) (fun K hK => ?_)
    case h23m5_ => simp only [List.getElem?_toArray]; rfl
    go_simp
    refine hK.out _ _ ((hH.extB _).set 1 _) (fun hH' => ?_)
    clear hK K hH
    have hH := hH'
    clear hH'
    try simp only [List.setIfInBounds_toArray, List.set]
    refine wpAnyH_take (i := 24) (oi := ?o24m5_) (v := ?v24m5_) ?h24m5_ (by kernel_rfl) ?f24m5_ ?r24m5_ (fun _ _ _ h => h) (Or.inl ⟨?w24m5_, ?y24m5_⟩) (by assumption) ?t24m5_
    case h24m5_ => simp only [List.getElem?_toArray]; rfl
    case f24m5_ => kernel_rfl
    case r24m5_ => kernel_rfl
    case w24m5_ => rfl
    case y24m5_ => (intro u hu; (go_simp) <;> with_reducible rfl)
    try simp only [Act.put, List.setIfInBounds_toArray, List.set_cons_zero, List.set_cons_succ]
    refine wpAnyH_ready (rs := [25]) (by kernel_rfl) (by simp) ?_
    refine AllReadyH.cons (o := ?o25m5_) ?h25m5_ (fun K hK => ?_) AllReadyH.nil
    case h25m5_ => simp only [List.getElem?_toArray]; rfl
    go_simp
    refine hK.out _ _ (hH.set 6 _) (fun hH' => ?_)
    clear hK K hH
    have hH := hH'
    clear hH'
    try simp only [List.setIfInBounds_toArray, List.set]
    refine wpAnyH_take (i := 26) (oi := ?o26m5_) (v := ?v26m5_) ?h26m5_ (by kernel_rfl) ?f26m5_ ?r26m5_ (fun _ _ _ h => h) (Or.inl ⟨?w26m5_, ?y26m5_⟩) (by assumption) ?t26m5_
    case h26m5_ => simp only [List.getElem?_toArray]; rfl
    case f26m5_ => kernel_rfl
    case r26m5_ => kernel_rfl
    case w26m5_ => rfl
    case y26m5_ => (intro u hu; (go_simp) <;> with_reducible rfl)
    try simp only [Act.put, List.setIfInBounds_toArray, List.set_cons_zero, List.set_cons_succ]
    refine wpAnyH_ready (rs := [27]) (by kernel_rfl) (by simp) ?_
    refine AllReadyH.cons (o := ?o27m5_) ?h27m5_ (fun K hK => ?_) AllReadyH.nil
    case h27m5_ => simp only [List.getElem?_toArray]; rfl
    go_simp
    refine hK.out _ _ (hH.set 11 _) (fun hH' => ?_)
    clear hK K hH
    have hH := hH'
    clear hH'
    try simp only [List.setIfInBounds_toArray, List.set]
    refine wpAnyH_take (i := 28) (oi := ?o28m5_) (v := ?v28m5_) ?h28m5_ (by kernel_rfl) ?f28m5_ ?r28m5_ (fun _ _ _ h => h) (Or.inl ⟨?w28m5_, ?y28m5_⟩) (by assumption) ?t28m5_
    case h28m5_ => simp only [List.getElem?_toArray]; rfl
    case f28m5_ => kernel_rfl
    case r28m5_ => kernel_rfl
    case w28m5_ => rfl
    case y28m5_ => (intro u hu; (go_simp) <;> with_reducible rfl)
    try simp only [Act.put, List.setIfInBounds_toArray, List.set_cons_zero, List.set_cons_succ]
    refine wpAnyH_ready (rs := [29]) (by kernel_rfl) (by simp) ?_
    refine AllReadyH.cons (o := ?o29m5_) ?h29m5_ (fun K hK => ?_) AllReadyH.nil
    case h29m5_ => simp only [List.getElem?_toArray]; rfl
    go_simp
    refine hK.out _ _ (hH.set 12 _) (fun hH' => ?_)
    clear hK K hH
    have hH := hH'
    clear hH'
    try simp only [List.setIfInBounds_toArray, List.set]
    refine wpAnyH_done (by kernel_rfl) ?_ _
    refine NoPanic.normal ?_
    have HM' := HM.mixed k1 k2 k3 1 6 11 12 (by decide) (by decide) (by decide) (by decide) HX0.out HX1.out HX2.out HX3.out HQ.out
    go_wp2_with fail
    go_meet
    case rel => exact ⟨bg7 L5 1 6 11 12 y0 y1, by unfold Hid; rw [HY0.out, HY1.out, HN0.out, HN1.out, HL.out]; rfl, bg7_w HW.out _ _ _ _ _ _, HM'⟩
  case rest =>
  obtain ⟨L6, HL, HW, HM⟩ := hcut
  refine (‹∀ (a : Act) (w : World), Code.wp Tryd.prog _ _ a w → _› _ _ ?_)
  refine cast_code (c := bodyAt 7 Tryd.f60.body) (by kernel_rfl) ?_
  exact mixed_t6 L M s HWM HSO w q1 q2 q3 k1 k2 k3 wc L6 HL HW HM u7 u8 u9 u10 u11 u12 u13 u14 u15 u16 u17 u18 u19 u20 u21 u22 u23 u24 u25 u26 u27 u28 u29 u30 u31 u32 u33 u34 u35 u36 u37 u38 u39 u40 u41 u42 u43 u44 u45 u46 u47 u48 u49 u50 u51 u52 u53 u54 u55 u56 u57 u58 u59 u60 u61 u62 u63 u64 u65 u66 u67 u68 u69 u70 u71 u72 u73 u74 u75 u76 u77 u78 u79 u80 u81 u82 u83 u84 u85 u86 u87 u88 u89 u90 u91 u92 u93 u94 u95 u96 u97 u98 u99 u100 u101 u102 u103 u104 u105 u106 u107 u108 u109 u110 u111 u112 u113 u114 u115 u116 u117 u118 u119 u120 u121 u122 u123 u124 u125 u126 u127 u128 u129 u130 u131 u132 u133 u134 u135 u136 u137 u138 u139 u140 u141 u142 u143 u144 u145 u146 u147 u148 u149 u150 u151 u152 u153 u154 u155 u156 u157 u158 u159 u160 u161 u162 u163 u164 u165 u166 u167 u168 u169 u170 u171 u172 u173 u174 u175 u176 u177 u178 u179 u180 u181 u182 u183 u184 u185 u186 u187 u188 u189 u190 u191 u192 u193 u194 u195 u196 u197 u198 u199 u200 u201 u202 u203 u204 u205 u206 u207 u208 u209 u210 u211 u212 u213 u214 u215

set_option maxRecDepth 8000 in
set_option maxHeartbeats 8000000 in
theorem mixed_t2 (L M : List Int) (s : List Nat) (HWM : Hid (Wn 16 M)) (HSO : Hid (So s)) (w : World) (q1 q2 q3 : Nat) (k1 : w.heap.size < q1) (k2 : w.heap.size < q2) (k3 : w.heap.size < q3) (wc : World) (L2 : List Int) (HL : Hid (L2 = gs7 M s L 2)) (HW : Hid (Wn 16 L2)) (HM : Hid (Mx w q1 q2 q3 L2 M s wc))
    (u7 u8 u9 u10 u11 u12 u13 u14 u15 u16 u17 u18 u19 u20 u21 u22 u23 u24 u25 u26 u27 u28 u29 u30 u31 u32 u33 u34 u35 u36 u37 u38 u39 u40 u41 u42 u43 u44 u45 u46 u47 u48 u49 u50 u51 u52 u53 u54 u55 u56 u57 u58 u59 u60 u61 u62 u63 u64 u65 u66 u67 u68 u69 u70 u71 u72 u73 u74 u75 u76 u77 u78 u79 u80 u81 u82 u83 u84 u85 u86 u87 u88 u89 u90 u91 u92 u93 u94 u95 u96 u97 u98 u99 u100 u101 u102 u103 u104 u105 u106 u107 u108 u109 u110 u111 u112 u113 u114 u115 u116 u117 u118 u119 u120 u121 u122 u123 u124 u125 u126 u127 u128 u129 u130 u131 u132 u133 u134 u135 u136 u137 u138 u139 u140 u141 u142 u143 u144 u145 u146 u147 u148 u149 u150 u151 u152 u153 u154 u155 u156 u157 u158 u159 u160 u161 u162 u163 u164 u165 u166 u167 u168 u169 u170 u171 u172 u173 u174 u175 u176 u177 u178 u179 u180 u181 u182 u183 u184 u185 u186 u187 u188 u189 u190 u191 u192 u193 u194 u195 u196 u197 u198 u199 u200 u201 u202 u203 u204 u205 u206 u207 u208 u209 u210 u211 u212 u213 u214 u215 : Value) :
    Code.wp Tryd.prog (bodyAt 3 Tryd.f60.body) (bodyPost Tryd.prog Tryd.f60 (fun e w' => ∃ L', e = .returned (.agg (List.map (Value.int .u32) L').toArray) ∧ Hid (L' = gs7 M s L 8) ∧ Wn 16 L' ∧ Below w.heap.size w w')) { tmps := #[(.agg (List.map (Value.int .u32) L).toArray), (.agg (List.map (Value.int .u32) M).toArray), .agg (List.map nb8 s).toArray, .pointer (some ⟨w.heap.size, 0, none⟩), .pointer (some ⟨q1, 0, none⟩), .pointer (some ⟨q2, 0, none⟩), .pointer (some ⟨q3, 0, none⟩), u7, u8, u9, u10, u11, u12, u13, u14, u15, u16, u17, u18, u19, u20, u21, u22, u23, u24, u25, u26, u27, u28, u29, u30, u31, u32, u33, u34, u35, u36, u37, u38, u39, u40, u41, u42, u43, u44, u45, u46, u47, u48, u49, u50, u51, u52, u53, u54, u55, u56, u57, u58, u59, u60, u61, u62, u63, u64, u65, u66, u67, u68, u69, u70, u71, u72, u73, u74, u75, u76, u77, u78, u79, u80, u81, u82, u83, u84, u85, u86, u87, u88, u89, u90, u91, u92, u93, u94, u95, u96, u97, u98, u99, u100, u101, u102, u103, u104, u105, u106, u107, u108, u109, u110, u111, u112, u113, u114, u115, u116, u117, u118, u119, u120, u121, u122, u123, u124, u125, u126, u127, u128, u129, u130, u131, u132, u133, u134, u135, u136, u137, u138, u139, u140, u141, u142, u143, u144, u145, u146, u147, u148, u149, u150, u151, u152, u153, u154, u155, u156, u157, u158, u159, u160, u161, u162, u163, u164, u165, u166, u167, u168, u169, u170, u171, u172, u173, u174, u175, u176, u177, u178, u179, u180, u181, u182, u183, u184, u185, u186, u187, u188, u189, u190, u191, u192, u193, u194, u195, u196, u197, u198, u199, u200, u201, u202, u203, u204, u205, u206, u207, u208, u209, u210, u211, u212, u213, u214, u215], defers := [] } wc := by
  delta Tryd.f60
  dsimp only [bodyAt, codeAt]
  go_upto_region 3 with fail
  go_cut [] from 7 (fun wx => ∃ L3 : List Int, Hid (L3 = gs7 M s L 3) ∧ Hid (Wn 16 L3) ∧ Hid (Mx w q1 q2 q3 L3 M s wx))
  case first =>
    obtain ⟨x0, c0, f0, r0, HX0⟩ := wn_word HM.out.v HW.out 2 (by decide)
    obtain ⟨x1, c1, f1, r1, HX1⟩ := wn_word HM.out.v HW.out 6 (by decide)
    obtain ⟨x2, c2, f2, r2, HX2⟩ := wn_word HM.out.v HW.out 10 (by decide)
    obtain ⟨x3, c3, f3, r3, HX3⟩ := wn_word HM.out.v HW.out 14 (by decide)
    have t0 := so_cell HM.out.s HSO.out 4 (by decide)
    have t1 := so_cell HM.out.s HSO.out 5 (by decide)
    have l0 := HSO.out.lt 4
    have l1 := HSO.out.lt 5
    obtain ⟨n0, hn0⟩ : ∃ n : Nat, n = s[4]! := ⟨_, rfl⟩
    obtain ⟨n1, hn1⟩ : ∃ n : Nat, n = s[5]! := ⟨_, rfl⟩
    rw [← hn0] at t0 l0
    rw [← hn1] at t1 l1
    have HN0 : Hid (n0 = s[4]!) := hn0
    have HN1 : Hid (n1 = s[5]!) := hn1
    clear hn0 hn1
    obtain ⟨y0, d0, -, ry0, HY0⟩ := wn_word HM.out.m HWM.out n0 l0
    obtain ⟨y1, d1, -, ry1, HY1⟩ := wn_word HM.out.m HWM.out n1 l1
    have g0 : (n0 : Int) < 16 := by omega
    have g1 : (n1 : Int) < 16 := by omega
    have xc0 : ∀ u, Ext wc u → u.cell? ⟨w.heap.size, 2, none⟩ = some (.int .u32 x0) := fun u hu => hu.cell c0
    have xc1 : ∀ u, Ext wc u → u.cell? ⟨w.heap.size, 6, none⟩ = some (.int .u32 x1) := fun u hu => hu.cell c1
    have xc2 : ∀ u, Ext wc u → u.cell? ⟨w.heap.size, 10, none⟩ = some (.int .u32 x2) := fun u hu => hu.cell c2
    have xc3 : ∀ u, Ext wc u → u.cell? ⟨w.heap.size, 14, none⟩ = some (.int .u32 x3) := fun u hu => hu.cell c3
    have xt0 : ∀ u, Ext wc u → u.cell? ⟨q2, 4, none⟩ = some (.int .u8 n0) := fun u hu => hu.cell t0
    have xt1 : ∀ u, Ext wc u → u.cell? ⟨q2, 5, none⟩ = some (.int .u8 n1) := fun u hu => hu.cell t1
    have xd0 : ∀ u, Ext wc u → u.cell? ⟨q1, n0, none⟩ = some (.int .u32 y0) := fun u hu => hu.cell d0
    have xd1 : ∀ u, Ext wc u → u.cell? ⟨q1, n1, none⟩ = some (.int .u32 y1) := fun u hu => hu.cell d1
    have hlt := HM.out.v.lt (by decide)
    clear t0 t1 d0 d1
    refine wp_region_noPanic ?_
    refine wp_region_two (k := 23) (Ext wc) (ExtB w.heap.size wc) (by kernel_rfl) (Ext.refl _).drew (fun hH => ?_)
    change wpAnyK _ _ _ _ _ _ _ _ #[false, false, false, false, false, false, false, false, false, false, false, false, false, false, false, false, false, false, false, false, false, false, false, false, false, false, false, false, false, false] _ _
    refine wpAnyK_ahead (i := 0) (oi := ?o0m2_) (v := ?v0m2_) ?h0m2_ (by decide) (by kernel_rfl) (by kernel_rfl) ?f0m2_ ?r0m2_ (fun _ _ _ h => h) (Or.inl ⟨?w0m2_, ?y0m2_⟩) (by assumption) ?t0m2_
    case h0m2_ => simp only [List.getElem?_toArray]; rfl
    case f0m2_ => kernel_rfl
    case r0m2_ => kernel_rfl
    case w0m2_ => rfl
    case y0m2_ => (intro u hu; (go_simp) <;> with_reducible rfl)
    try simp only [Act.put, List.setIfInBounds_toArray, List.set_cons_zero, List.set_cons_succ]
    refine wpAnyK_ahead (i := 1) (oi := ?o1m2_) (v := ?v1m2_) ?h1m2_ (by decide) (by kernel_rfl) (by kernel_rfl) ?f1m2_ ?r1m2_ (fun _ _ _ h => h) (Or.inl ⟨?w1m2_, ?y1m2_⟩) (by assumption) ?t1m2_
    case h1m2_ => simp only [List.getElem?_toArray]; rfl
    case f1m2_ => kernel_rfl
    case r1m2_ => kernel_rfl
    case w1m2_ => rfl
    case y1m2_ => (intro u hu; (have hx := xc0 u hu; go_simp) <;> with_reducible rfl)
    try simp only [Act.put, List.setIfInBounds_toArray, List.set_cons_zero, List.set_cons_succ]
    refine wpAnyK_ahead (i := 2) (oi := ?o2m2_) (v := ?v2m2_) ?h2m2_ (by decide) (by kernel_rfl) (by kernel_rfl) ?f2m2_ ?r2m2_ (fun _ _ _ h => h) (Or.inl ⟨?w2m2_, ?y2m2_⟩) (by assumption) ?t2m2_
    case h2m2_ => simp only [List.getElem?_toArray]; rfl
    case f2m2_ => kernel_rfl
    case r2m2_ => kernel_rfl
    case w2m2_ => rfl
    case y2m2_ => (intro u hu; (go_simp) <;> with_reducible rfl)
    try simp only [Act.put, List.setIfInBounds_toArray, List.set_cons_zero, List.set_cons_succ]
    refine wpAnyK_ahead (i := 3) (oi := ?o3m2_) (v := ?v3m2_) ?h3m2_ (by decide) (by kernel_rfl) (by kernel_rfl) ?f3m2_ ?r3m2_ (fun _ _ _ h => h) (Or.inl ⟨?w3m2_, ?y3m2_⟩) (by assumption) ?t3m2_
    case h3m2_ => simp only [List.getElem?_toArray]; rfl
    case f3m2_ => kernel_rfl
    case r3m2_ => kernel_rfl
    case w3m2_ => rfl
    case y3m2_ => (intro u hu; (have hx := xc1 u hu; go_simp) <;> with_reducible rfl)
    try simp only [Act.put, List.setIfInBounds_toArray, List.set_cons_zero, List.set_cons_succ]
    refine wpAnyK_ahead (i := 4) (oi := ?o4m2_) (v := ?v4m2_) ?h4m2_ (by decide) (by kernel_rfl) (by kernel_rfl) ?f4m2_ ?r4m2_ (fun _ _ _ h => h) (Or.inl ⟨?w4m2_, ?y4m2_⟩) (by assumption) ?t4m2_
    case h4m2_ => simp only [List.getElem?_toArray]; rfl
    case f4m2_ => kernel_rfl
    case r4m2_ => kernel_rfl
    case w4m2_ => rfl
    case y4m2_ => (intro u hu; (go_simp) <;> with_reducible rfl)
    try simp only [Act.put, List.setIfInBounds_toArray, List.set_cons_zero, List.set_cons_succ]
    refine wpAnyK_ahead (i := 5) (oi := ?o5m2_) (v := ?v5m2_) ?h5m2_ (by decide) (by kernel_rfl) (by kernel_rfl) ?f5m2_ ?r5m2_ (fun _ _ _ h => h) (Or.inl ⟨?w5m2_, ?y5m2_⟩) (by assumption) ?t5m2_
    case h5m2_ => simp only [List.getElem?_toArray]; rfl
    case f5m2_ => kernel_rfl
    case r5m2_ => kernel_rfl
    case w5m2_ => rfl
    case y5m2_ => (intro u hu; (have hx := xc2 u hu; go_simp) <;> with_reducible rfl)
    try simp only [Act.put, List.setIfInBounds_toArray, List.set_cons_zero, List.set_cons_succ]
    refine wpAnyK_ahead (i := 6) (oi := ?o6m2_) (v := ?v6m2_) ?h6m2_ (by decide) (by kernel_rfl) (by kernel_rfl) ?f6m2_ ?r6m2_ (fun _ _ _ h => h) (Or.inl ⟨?w6m2_, ?y6m2_⟩) (by assumption) ?t6m2_
    case h6m2_ => simp only [List.getElem?_toArray]; rfl
    case f6m2_ => kernel_rfl
    case r6m2_ => kernel_rfl
    case w6m2_ => rfl
    case y6m2_ => (intro u hu; (go_simp) <;> with_reducible rfl)
    try simp only [Act.put, List.setIfInBounds_toArray, List.set_cons_zero, List.set_cons_succ]
    refine wpAnyK_ahead (i := 7) (oi := ?o7m2_) (v := ?v7m2_) ?h7m2_ (by decide) (by kernel_rfl) (by kernel_rfl) ?f7m2_ ?r7m2_ (fun _ _ _ h => h) (Or.inl ⟨?w7m2_, ?y7m2_⟩) (by assumption) ?t7m2_
    case h7m2_ => simp only [List.getElem?_toArray]; rfl
    case f7m2_ => kernel_rfl
    case r7m2_ => kernel_rfl
    case w7m2_ => rfl
    case y7m2_ => (intro u hu; (have hx := xc3 u hu; go_simp) <;> with_reducible rfl)
    try simp only [Act.put, List.setIfInBounds_toArray, List.set_cons_zero, List.set_cons_succ]
    refine wpAnyK_ahead (i := 8) (oi := ?o8m2_) (v := ?v8m2_) ?h8m2_ (by decide) (by kernel_rfl) (by kernel_rfl) ?f8m2_ ?r8m2_ (fun _ _ _ h => h) (Or.inl ⟨?w8m2_, ?y8m2_⟩) (by assumption) ?t8m2_
    case h8m2_ => simp only [List.getElem?_toArray]; rfl
    case f8m2_ => kernel_rfl
    case r8m2_ => kernel_rfl
    case w8m2_ => rfl
    case y8m2_ => (intro u hu; (go_simp) <;> with_reducible rfl)
    try simp only [Act.put, List.setIfInBounds_toArray, List.set_cons_zero, List.set_cons_succ]
    refine wpAnyK_ahead (i := 9) (oi := ?o9m2_) (v := ?v9m2_) ?h9m2_ (by decide) (by kernel_rfl) (by kernel_rfl) ?f9m2_ ?r9m2_ (fun _ _ _ h => h) (Or.inl ⟨?w9m2_, ?y9m2_⟩) (by assumption) ?t9m2_
    case h9m2_ => simp only [List.getElem?_toArray]; rfl
    case f9m2_ => kernel_rfl
    case r9m2_ => kernel_rfl
    case w9m2_ => rfl
    case y9m2_ => (intro u hu; (have hx := xt0 u hu; go_simp) <;> with_reducible rfl)
    try simp only [Act.put, List.setIfInBounds_toArray, List.set_cons_zero, List.set_cons_succ]
    refine wpAnyK_ahead (i := 10) (oi := ?o10m2_) (v := ?v10m2_) ?h10m2_ (by decide) (by kernel_rfl) (by kernel_rfl) ?f10m2_ ?r10m2_ (fun _ _ _ h => h) (Or.inl ⟨?w10m2_, ?y10m2_⟩) (by assumption) ?t10m2_
    case h10m2_ => simp only [List.getElem?_toArray]; rfl
    case f10m2_ => kernel_rfl
    case r10m2_ => kernel_rfl
    case w10m2_ => rfl
    case y10m2_ => (intro u hu; (go_simp) <;> with_reducible rfl)
    try simp only [Act.put, List.setIfInBounds_toArray, List.set_cons_zero, List.set_cons_succ]
    refine wpAnyK_ahead (i := 11) (oi := ?o11m2_) (v := ?v11m2_) ?h11m2_ (by decide) (by kernel_rfl) (by kernel_rfl) ?f11m2_ ?r11m2_ (fun _ _ _ h => h) (Or.inl ⟨?w11m2_, ?y11m2_⟩) (by assumption) ?t11m2_
    case h11m2_ => simp only [List.getElem?_toArray]; rfl
    case f11m2_ => kernel_rfl
    case r11m2_ => kernel_rfl
    case w11m2_ => rfl
    case y11m2_ => (intro u hu; (have hx := xd0 u hu; go_simp) <;> with_reducible rfl)
    try simp only [Act.put, List.setIfInBounds_toArray, List.set_cons_zero, List.set_cons_succ]
    refine wpAnyK_ahead (i := 12) (oi := ?o12m2_) (v := ?v12m2_) ?h12m2_ (by decide) (by kernel_rfl) (by kernel_rfl) ?f12m2_ ?r12m2_ (fun _ _ _ h => h) (Or.inl ⟨?w12m2_, ?y12m2_⟩) (by assumption) ?t12m2_
    case h12m2_ => simp only [List.getElem?_toArray]; rfl
    case f12m2_ => kernel_rfl
    case r12m2_ => kernel_rfl
    case w12m2_ => rfl
    case y12m2_ => (intro u hu; (go_simp) <;> with_reducible rfl)
    try simp only [Act.put, List.setIfInBounds_toArray, List.set_cons_zero, List.set_cons_succ]
    refine wpAnyK_ahead (i := 13) (oi := ?o13m2_) (v := ?v13m2_) ?h13m2_ (by decide) (by kernel_rfl) (by kernel_rfl) ?f13m2_ ?r13m2_ (fun _ _ _ h => h) (Or.inl ⟨?w13m2_, ?y13m2_⟩) (by assumption) ?t13m2_
    case h13m2_ => simp only [List.getElem?_toArray]; rfl
    case f13m2_ => kernel_rfl
    case r13m2_ => kernel_rfl
    case w13m2_ => rfl
    case y13m2_ => (intro u hu; (have hx := xt1 u hu; go_simp) <;> with_reducible rfl)
    try simp only [Act.put, List.setIfInBounds_toArray, List.set_cons_zero, List.set_cons_succ]
    refine wpAnyK_ahead (i := 14) (oi := ?o14m2_) (v := ?v14m2_) ?h14m2_ (by decide) (by kernel_rfl) (by kernel_rfl) ?f14m2_ ?r14m2_ (fun _ _ _ h => h) (Or.inl ⟨?w14m2_, ?y14m2_⟩) (by assumption) ?t14m2_
    case h14m2_ => simp only [List.getElem?_toArray]; rfl
    case f14m2_ => kernel_rfl
    case r14m2_ => kernel_rfl
    case w14m2_ => rfl
    case y14m2_ => (intro u hu; (go_simp) <;> with_reducible rfl)
    try simp only [Act.put, List.setIfInBounds_toArray, List.set_cons_zero, List.set_cons_succ]
    refine wpAnyK_ahead (i := 15) (oi := ?o15m2_) (v := ?v15m2_) ?h15m2_ (by decide) (by kernel_rfl) (by kernel_rfl) ?f15m2_ ?r15m2_ (fun _ _ _ h => h) (Or.inl ⟨?w15m2_, ?y15m2_⟩) (by assumption) ?t15m2_
    case h15m2_ => simp only [List.getElem?_toArray]; rfl
    case f15m2_ => kernel_rfl
    case r15m2_ => kernel_rfl
    case w15m2_ => rfl
    case y15m2_ => (intro u hu; (have hx := xd1 u hu; go_simp) <;> with_reducible rfl)
    try simp only [Act.put, List.setIfInBounds_toArray, List.set_cons_zero, List.set_cons_succ]
    clear xc0 xc1 xc2 xc3 xt0 xt1 xd0 xd1
    refine wpAnyK_one (i := 16) (o := ?o16m2_) ?h16m2_ (by decide) (by kernel_rfl) (fun K hK => ?_)
    case h16m2_ => simp only [List.getElem?_toArray]; rfl
    go_simp
    refine (quarter7_c x0 x1 x2 x3 y0 y1 r0 r1 r2 r3 ry0 ry1 _).mono ?_
    rintro e V ⟨p, q, r, t, rfl, HQ, -, -, -, -, hb⟩
    refine hK.out _ _ (hH.trans hb) (fun hH' => ?_)
    clear hK K hH
    have hH := hH'
    clear hH'
    try simp only [List.setIfInBounds_toArray, List.set]
    refine wpAnyK_ahead (i := 17) (oi := ?o17m2_) (v := ?v17m2_) ?h17m2_ (by decide) (by kernel_rfl) (by kernel_rfl) ?f17m2_ ?r17m2_ (fun _ _ _ h => h) (Or.inl ⟨?w17m2_, ?y17m2_⟩) (by assumption) ?t17m2_
    case h17m2_ => simp only [List.getElem?_toArray]; rfl
    case f17m2_ => kernel_rfl
    case r17m2_ => kernel_rfl
    case w17m2_ => rfl
    case y17m2_ => (intro u hu; (go_simp) <;> with_reducible rfl)
    try simp only [Act.put, List.setIfInBounds_toArray, List.set_cons_zero, List.set_cons_succ]
    refine wpAnyK_ahead (i := 18) (oi := ?o18m2_) (v := ?v18m2_) ?h18m2_ (by decide) (by kernel_rfl) (by kernel_rfl) ?f18m2_ ?r18m2_ (fun _ _ _ h => h) (Or.inl ⟨?w18m2_, ?y18m2_⟩) (by assumption) ?t18m2_
    case h18m2_ => simp only [List.getElem?_toArray]; rfl
    case f18m2_ => kernel_rfl
    case r18m2_ => kernel_rfl
    case w18m2_ => rfl
    case y18m2_ => (intro u hu; (go_simp) <;> with_reducible rfl)
    try simp only [Act.put, List.setIfInBounds_toArray, List.set_cons_zero, List.set_cons_succ]
    refine wpAnyK_take (i := 19) (oi := ?o19m2_) (v := ?v19m2_) ?h19m2_ (by decide) (by kernel_rfl) ?f19m2_ ?r19m2_ (fun _ _ _ h => h) (fun _ h => h.extB _) (Or.inl ⟨?w19m2_, ?y19m2_⟩) (by assumption) ?t19m2_
    case h19m2_ => simp only [List.getElem?_toArray]; rfl
    case f19m2_ => kernel_rfl
    case r19m2_ => kernel_rfl
    case w19m2_ => rfl
    case y19m2_ => (intro u hu; (go_simp) <;> with_reducible rfl)
    try simp only [Act.put, List.setIfInBounds_toArray, List.set_cons_zero, List.set_cons_succ]
    refine wpAnyK_take (i := 20) (oi := ?o20m2_) (v := ?v20m2_) ?h20m2_ (by decide) (by kernel_rfl) ?f20m2_ ?r20m2_ (fun _ _ _ h => h) (fun _ h => h.extB _) (Or.inl ⟨?w20m2_, ?y20m2_⟩) (by assumption) ?t20m2_
    case h20m2_ => simp only [List.getElem?_toArray]; rfl
    case f20m2_ => kernel_rfl
    case r20m2_ => kernel_rfl
    case w20m2_ => rfl
    case y20m2_ => (intro u hu; (go_simp) <;> with_reducible rfl)
    try simp only [Act.put, List.setIfInBounds_toArray, List.set_cons_zero, List.set_cons_succ]
    refine wpAnyK_take (i := 21) (oi := ?o21m2_) (v := ?v21m2_) ?h21m2_ (by decide) (by kernel_rfl) ?f21m2_ ?r21m2_ (fun _ _ _ h => h) (fun _ h => h.extB _) (Or.inl ⟨?w21m2_, ?y21m2_⟩) (by assumption) ?t21m2_
    case h21m2_ => simp only [List.getElem?_toArray]; rfl
    case f21m2_ => kernel_rfl
    case r21m2_ => kernel_rfl
    case w21m2_ => rfl
    case y21m2_ => (intro u hu; (go_simp) <;> with_reducible rfl)
    try simp only [Act.put, List.setIfInBounds_toArray, List.set_cons_zero, List.set_cons_succ]
    refine wpAnyK_ahead (i := 22) (oi := ?o22m2_) (v := ?v22m2_) ?h22m2_ (by decide) (by kernel_rfl) (by kernel_rfl) ?f22m2_ ?r22m2_ (fun _ _ _ h => h) (Or.inl ⟨?w22m2_, ?y22m2_⟩) (by assumption) ?t22m2_
    case h22m2_ => simp only [List.getElem?_toArray]; rfl
    case f22m2_ => kernel_rfl
    case r22m2_ => kernel_rfl
    case w22m2_ => rfl
    case y22m2_ => (intro u hu; (go_simp) <;> with_reducible rfl)
    try simp only [Act.put, List.setIfInBounds_toArray, List.set_cons_zero, List.set_cons_succ]
    replace HM := HM.out.later hH
    replace c0 := cell_later hH c0
    replace f0 := froz_later hH hlt f0
    replace c1 := cell_later hH c1
    replace f1 := froz_later hH hlt f1
    replace c2 := cell_later hH c2
    replace f2 := froz_later hH hlt f2
    replace c3 := cell_later hH c3
    replace f3 := froz_later hH hlt f3
    clear hb
    refine wpAnyK_last (k := 23) (o := ?o23m2_) ?h23m2_ (by kernel_rfl) (fun K hK => ?_)
    case h23m2_ => simp only [List.getElem?_toArray]; rfl
    go_simp
    refine hK.out _ _ ((hH.extB _).set 2 _) (fun hH' => ?_)
    clear hK K hH
    have hH := hH'
    clear hH'
    try simp only [List.setIfInBounds_toArray, List.set]
    refine wpAnyH_take (i := 24) (oi := ?o24m2_) (v := ?v24m2_) ?h24m2_ (by kernel_rfl) ?f24m2_ ?r24m2_ (fun _ _ _ h => h) (Or.inl ⟨?w24m2_, ?y24m2_⟩) (by assumption) ?t24m2_
    case h24m2_ => simp only [List.getElem?_toArray]; rfl
    case f24m2_ => kernel_rfl
    case r24m2_ => kernel_rfl
    case w24m2_ => rfl
    case y24m2_ => (intro u hu; (go_simp) <;> with_reducible rfl)
    try simp only [Act.put, List.setIfInBounds_toArray, List.set_cons_zero, List.set_cons_succ]
    refine wpAnyH_ready (rs := [25]) (by kernel_rfl) (by simp) ?_
    refine AllReadyH.cons (o := ?o25m2_) ?h25m2_ (fun K hK => ?_) AllReadyH.nil
    case h25m2_ => simp only [List.getElem?_toArray]; rfl
    go_simp
    refine hK.out _ _ (hH.set 6 _) (fun hH' => ?_)
    clear hK K hH
    have hH := hH'
    clear hH'
    try simp only [List.setIfInBounds_toArray, List.set]
    refine wpAnyH_take (i := 26) (oi := ?o26m2_) (v := ?v26m2_) ?h26m2_ (by kernel_rfl) ?f26m2_ ?r26m2_ (fun _ _ _ h => h) (Or.inl ⟨?w26m2_, ?y26m2_⟩) (by assumption) ?t26m2_
    case h26m2_ => simp only [List.getElem?_toArray]; rfl
    case f26m2_ => kernel_rfl
    case r26m2_ => kernel_rfl
    case w26m2_ => rfl
    case y26m2_ => (intro u hu; (go_simp) <;> with_reducible rfl)
    try simp only [Act.put, List.setIfInBounds_toArray, List.set_cons_zero, List.set_cons_succ]
    refine wpAnyH_ready (rs := [27]) (by kernel_rfl) (by simp) ?_
    refine AllReadyH.cons (o := ?o27m2_) ?h27m2_ (fun K hK => ?_) AllReadyH.nil
    case h27m2_ => simp only [List.getElem?_toArray]; rfl
    go_simp
    refine hK.out _ _ (hH.set 10 _) (fun hH' => ?_)
    clear hK K hH
    have hH := hH'
    clear hH'
    try simp only [List.setIfInBounds_toArray, List.set]
    refine wpAnyH_take (i := 28) (oi := ?o28m2_) (v := ?v28m2_) ?h28m2_ (by kernel_rfl) ?f28m2_ ?r28m2_ (fun _ _ _ h => h) (Or.inl ⟨?w28m2_, ?y28m2_⟩) (by assumption) ?t28m2_
    case h28m2_ => simp only [List.getElem?_toArray]; rfl
    case f28m2_ => kernel_rfl
    case r28m2_ => kernel_rfl
    case w28m2_ => rfl
    case y28m2_ => (intro u hu; (go_simp) <;> with_reducible rfl)
    try simp only [Act.put, List.setIfInBounds_toArray, List.set_cons_zero, List.set_cons_succ]
    refine wpAnyH_ready (rs := [29]) (by kernel_rfl) (by simp) ?_
    refine AllReadyH.cons (o := ?o29m2_) ?h29m2_ (fun K hK => ?_) AllReadyH.nil
    case h29m2_ => simp only [List.getElem?_toArray]; rfl
    go_simp
    refine hK.out _ _ (hH.set 14 _) (fun hH' => ?_)
    clear hK K hH
    have hH := hH'
    clear hH'
    try simp only [List.setIfInBounds_toArray, List.set]
    refine wpAnyH_done (by kernel_rfl) ?_ _
    refine NoPanic.normal ?_
    have HM' := HM.mixed k1 k2 k3 2 6 10 14 (by decide) (by decide) (by decide) (by decide) HX0.out HX1.out HX2.out HX3.out HQ.out
    go_wp2_with fail
    go_meet
    case rel => exact ⟨bg7 L2 2 6 10 14 y0 y1, by unfold Hid; rw [HY0.out, HY1.out, HN0.out, HN1.out, HL.out]; rfl, bg7_w HW.out _ _ _ _ _ _, HM'⟩
  case rest =>
  obtain ⟨L3, HL, HW, HM⟩ := hcut
  go_upto_region 4 with fail
  go_cut [] from 7 (fun wx => ∃ L4 : List Int, Hid (L4 = gs7 M s L 4) ∧ Hid (Wn 16 L4) ∧ Hid (Mx w q1 q2 q3 L4 M s wx))
  case first =>
    obtain ⟨x0, c0, f0, r0, HX0⟩ := wn_word HM.out.v HW.out 3 (by decide)
    obtain ⟨x1, c1, f1, r1, HX1⟩ := wn_word HM.out.v HW.out 7 (by decide)
    obtain ⟨x2, c2, f2, r2, HX2⟩ := wn_word HM.out.v HW.out 11 (by decide)
    obtain ⟨x3, c3, f3, r3, HX3⟩ := wn_word HM.out.v HW.out 15 (by decide)
    have t0 := so_cell HM.out.s HSO.out 6 (by decide)
    have t1 := so_cell HM.out.s HSO.out 7 (by decide)
    have l0 := HSO.out.lt 6
    have l1 := HSO.out.lt 7
    obtain ⟨n0, hn0⟩ : ∃ n : Nat, n = s[6]! := ⟨_, rfl⟩
    obtain ⟨n1, hn1⟩ : ∃ n : Nat, n = s[7]! := ⟨_, rfl⟩
    rw [← hn0] at t0 l0
    rw [← hn1] at t1 l1
    have HN0 : Hid (n0 = s[6]!) := hn0
    have HN1 : Hid (n1 = s[7]!) := hn1
    clear hn0 hn1
    obtain ⟨y0, d0, -, ry0, HY0⟩ := wn_word HM.out.m HWM.out n0 l0
    obtain ⟨y1, d1, -, ry1, HY1⟩ := wn_word HM.out.m HWM.out n1 l1
    have g0 : (n0 : Int) < 16 := by omega
    have g1 : (n1 : Int) < 16 := by omega
    have xc0 : ∀ u, Ext wc u → u.cell? ⟨w.heap.size, 3, none⟩ = some (.int .u32 x0) := fun u hu => hu.cell c0
    have xc1 : ∀ u, Ext wc u → u.cell? ⟨w.heap.size, 7, none⟩ = some (.int .u32 x1) := fun u hu => hu.cell c1
    have xc2 : ∀ u, Ext wc u → u.cell? ⟨w.heap.size, 11, none⟩ = some (.int .u32 x2) := fun u hu => hu.cell c2
    have xc3 : ∀ u, Ext wc u → u.cell? ⟨w.heap.size, 15, none⟩ = some (.int .u32 x3) := fun u hu => hu.cell c3
    have xt0 : ∀ u, Ext wc u → u.cell? ⟨q2, 6, none⟩ = some (.int .u8 n0) := fun u hu => hu.cell t0
    have xt1 : ∀ u, Ext wc u → u.cell? ⟨q2, 7, none⟩ = some (.int .u8 n1) := fun u hu => hu.cell t1
    have xd0 : ∀ u, Ext wc u → u.cell? ⟨q1, n0, none⟩ = some (.int .u32 y0) := fun u hu => hu.cell d0
    have xd1 : ∀ u, Ext wc u → u.cell? ⟨q1, n1, none⟩ = some (.int .u32 y1) := fun u hu => hu.cell d1
    have hlt := HM.out.v.lt (by decide)
    clear t0 t1 d0 d1
    refine wp_region_noPanic ?_
    refine wp_region_two (k := 23) (Ext wc) (ExtB w.heap.size wc) (by kernel_rfl) (Ext.refl _).drew (fun hH => ?_)
    change wpAnyK _ _ _ _ _ _ _ _ #[false, false, false, false, false, false, false, false, false, false, false, false, false, false, false, false, false, false, false, false, false, false, false, false, false, false, false, false, false, false] _ _
    refine wpAnyK_ahead (i := 0) (oi := ?o0m3_) (v := ?v0m3_) ?h0m3_ (by decide) (by kernel_rfl) (by kernel_rfl) ?f0m3_ ?r0m3_ (fun _ _ _ h => h) (Or.inl ⟨?w0m3_, ?y0m3_⟩) (by assumption) ?t0m3_
    case h0m3_ => simp only [List.getElem?_toArray]; rfl
    case f0m3_ => kernel_rfl
    case r0m3_ => kernel_rfl
    case w0m3_ => rfl
    case y0m3_ => (intro u hu; (go_simp) <;> with_reducible rfl)
    try simp only [Act.put, List.setIfInBounds_toArray, List.set_cons_zero, List.set_cons_succ]
    refine wpAnyK_ahead (i := 1) (oi := ?o1m3_) (v := ?v1m3_) ?h1m3_ (by decide) (by kernel_rfl) (by kernel_rfl) ?f1m3_ ?r1m3_ (fun _ _ _ h => h) (Or.inl ⟨?w1m3_, ?y1m3_⟩) (by assumption) ?t1m3_
    case h1m3_ => simp only [List.getElem?_toArray]; rfl
    case f1m3_ => kernel_rfl
    case r1m3_ => kernel_rfl
    case w1m3_ => rfl
    case y1m3_ => (intro u hu; (have hx := xc0 u hu; go_simp) <;> with_reducible rfl)
    try simp only [Act.put, List.setIfInBounds_toArray, List.set_cons_zero, List.set_cons_succ]
    refine wpAnyK_ahead (i := 2) (oi := ?o2m3_) (v := ?v2m3_) ?h2m3_ (by decide) (by kernel_rfl) (by kernel_rfl) ?f2m3_ ?r2m3_ (fun _ _ _ h => h) (Or.inl ⟨?w2m3_, ?y2m3_⟩) (by assumption) ?t2m3_
    case h2m3_ => simp only [List.getElem?_toArray]; rfl
    case f2m3_ => kernel_rfl
    case r2m3_ => kernel_rfl
    case w2m3_ => rfl
    case y2m3_ => (intro u hu; (go_simp) <;> with_reducible rfl)
    try simp only [Act.put, List.setIfInBounds_toArray, List.set_cons_zero, List.set_cons_succ]
    refine wpAnyK_ahead (i := 3) (oi := ?o3m3_) (v := ?v3m3_) ?h3m3_ (by decide) (by kernel_rfl) (by kernel_rfl) ?f3m3_ ?r3m3_ (fun _ _ _ h => h) (Or.inl ⟨?w3m3_, ?y3m3_⟩) (by assumption) ?t3m3_
    case h3m3_ => simp only [List.getElem?_toArray]; rfl
    case f3m3_ => kernel_rfl
    case r3m3_ => kernel_rfl
    case w3m3_ => rfl
    case y3m3_ => (intro u hu; (have hx := xc1 u hu; go_simp) <;> with_reducible rfl)
    try simp only [Act.put, List.setIfInBounds_toArray, List.set_cons_zero, List.set_cons_succ]
    refine wpAnyK_ahead (i := 4) (oi := ?o4m3_) (v := ?v4m3_) ?h4m3_ (by decide) (by kernel_rfl) (by kernel_rfl) ?f4m3_ ?r4m3_ (fun _ _ _ h => h) (Or.inl ⟨?w4m3_, ?y4m3_⟩) (by assumption) ?t4m3_
    case h4m3_ => simp only [List.getElem?_toArray]; rfl
    case f4m3_ => kernel_rfl
    case r4m3_ => kernel_rfl
    case w4m3_ => rfl
    case y4m3_ => (intro u hu; (go_simp) <;> with_reducible rfl)
    try simp only [Act.put, List.setIfInBounds_toArray, List.set_cons_zero, List.set_cons_succ]
    refine wpAnyK_ahead (i := 5) (oi := ?o5m3_) (v := ?v5m3_) ?h5m3_ (by decide) (by kernel_rfl) (by kernel_rfl) ?f5m3_ ?r5m3_ (fun _ _ _ h => h) (Or.inl ⟨?w5m3_, ?y5m3_⟩) (by assumption) ?t5m3_
    case h5m3_ => simp only [List.getElem?_toArray]; rfl
    case f5m3_ => kernel_rfl
    case r5m3_ => kernel_rfl
    case w5m3_ => rfl
    case y5m3_ => (intro u hu; (have hx := xc2 u hu; go_simp) <;> with_reducible rfl)
    try simp only [Act.put, List.setIfInBounds_toArray, List.set_cons_zero, List.set_cons_succ]
    refine wpAnyK_ahead (i := 6) (oi := ?o6m3_) (v := ?v6m3_) ?h6m3_ (by decide) (by kernel_rfl) (by kernel_rfl) ?f6m3_ ?r6m3_ (fun _ _ _ h => h) (Or.inl ⟨?w6m3_, ?y6m3_⟩) (by assumption) ?t6m3_
    case h6m3_ => simp only [List.getElem?_toArray]; rfl
    case f6m3_ => kernel_rfl
    case r6m3_ => kernel_rfl
    case w6m3_ => rfl
    case y6m3_ => (intro u hu; (go_simp) <;> with_reducible rfl)
    try simp only [Act.put, List.setIfInBounds_toArray, List.set_cons_zero, List.set_cons_succ]
    refine wpAnyK_ahead (i := 7) (oi := ?o7m3_) (v := ?v7m3_) ?h7m3_ (by decide) (by kernel_rfl) (by kernel_rfl) ?f7m3_ ?r7m3_ (fun _ _ _ h => h) (Or.inl ⟨?w7m3_, ?y7m3_⟩) (by assumption) ?t7m3_
    case h7m3_ => simp only [List.getElem?_toArray]; rfl
    case f7m3_ => kernel_rfl
    case r7m3_ => kernel_rfl
    case w7m3_ => rfl
    case y7m3_ => (intro u hu; (have hx := xc3 u hu; go_simp) <;> with_reducible rfl)
    try simp only [Act.put, List.setIfInBounds_toArray, List.set_cons_zero, List.set_cons_succ]
    refine wpAnyK_ahead (i := 8) (oi := ?o8m3_) (v := ?v8m3_) ?h8m3_ (by decide) (by kernel_rfl) (by kernel_rfl) ?f8m3_ ?r8m3_ (fun _ _ _ h => h) (Or.inl ⟨?w8m3_, ?y8m3_⟩) (by assumption) ?t8m3_
    case h8m3_ => simp only [List.getElem?_toArray]; rfl
    case f8m3_ => kernel_rfl
    case r8m3_ => kernel_rfl
    case w8m3_ => rfl
    case y8m3_ => (intro u hu; (go_simp) <;> with_reducible rfl)
    try simp only [Act.put, List.setIfInBounds_toArray, List.set_cons_zero, List.set_cons_succ]
    refine wpAnyK_ahead (i := 9) (oi := ?o9m3_) (v := ?v9m3_) ?h9m3_ (by decide) (by kernel_rfl) (by kernel_rfl) ?f9m3_ ?r9m3_ (fun _ _ _ h => h) (Or.inl ⟨?w9m3_, ?y9m3_⟩) (by assumption) ?t9m3_
    case h9m3_ => simp only [List.getElem?_toArray]; rfl
    case f9m3_ => kernel_rfl
    case r9m3_ => kernel_rfl
    case w9m3_ => rfl
    case y9m3_ => (intro u hu; (have hx := xt0 u hu; go_simp) <;> with_reducible rfl)
    try simp only [Act.put, List.setIfInBounds_toArray, List.set_cons_zero, List.set_cons_succ]
    refine wpAnyK_ahead (i := 10) (oi := ?o10m3_) (v := ?v10m3_) ?h10m3_ (by decide) (by kernel_rfl) (by kernel_rfl) ?f10m3_ ?r10m3_ (fun _ _ _ h => h) (Or.inl ⟨?w10m3_, ?y10m3_⟩) (by assumption) ?t10m3_
    case h10m3_ => simp only [List.getElem?_toArray]; rfl
    case f10m3_ => kernel_rfl
    case r10m3_ => kernel_rfl
    case w10m3_ => rfl
    case y10m3_ => (intro u hu; (go_simp) <;> with_reducible rfl)
    try simp only [Act.put, List.setIfInBounds_toArray, List.set_cons_zero, List.set_cons_succ]
    refine wpAnyK_ahead (i := 11) (oi := ?o11m3_) (v := ?v11m3_) ?h11m3_ (by decide) (by kernel_rfl) (by kernel_rfl) ?f11m3_ ?r11m3_ (fun _ _ _ h => h) (Or.inl ⟨?w11m3_, ?y11m3_⟩) (by assumption) ?t11m3_
    case h11m3_ => simp only [List.getElem?_toArray]; rfl
    case f11m3_ => kernel_rfl
    case r11m3_ => kernel_rfl
    case w11m3_ => rfl
    case y11m3_ => (intro u hu; (have hx := xd0 u hu; go_simp) <;> with_reducible rfl)
    try simp only [Act.put, List.setIfInBounds_toArray, List.set_cons_zero, List.set_cons_succ]
    refine wpAnyK_ahead (i := 12) (oi := ?o12m3_) (v := ?v12m3_) ?h12m3_ (by decide) (by kernel_rfl) (by kernel_rfl) ?f12m3_ ?r12m3_ (fun _ _ _ h => h) (Or.inl ⟨?w12m3_, ?y12m3_⟩) (by assumption) ?t12m3_
    case h12m3_ => simp only [List.getElem?_toArray]; rfl
    case f12m3_ => kernel_rfl
    case r12m3_ => kernel_rfl
    case w12m3_ => rfl
    case y12m3_ => (intro u hu; (go_simp) <;> with_reducible rfl)
    try simp only [Act.put, List.setIfInBounds_toArray, List.set_cons_zero, List.set_cons_succ]
    refine wpAnyK_ahead (i := 13) (oi := ?o13m3_) (v := ?v13m3_) ?h13m3_ (by decide) (by kernel_rfl) (by kernel_rfl) ?f13m3_ ?r13m3_ (fun _ _ _ h => h) (Or.inl ⟨?w13m3_, ?y13m3_⟩) (by assumption) ?t13m3_
    case h13m3_ => simp only [List.getElem?_toArray]; rfl
    case f13m3_ => kernel_rfl
    case r13m3_ => kernel_rfl
    case w13m3_ => rfl
    case y13m3_ => (intro u hu; (have hx := xt1 u hu; go_simp) <;> with_reducible rfl)
    try simp only [Act.put, List.setIfInBounds_toArray, List.set_cons_zero, List.set_cons_succ]
    refine wpAnyK_ahead (i := 14) (oi := ?o14m3_) (v := ?v14m3_) ?h14m3_ (by decide) (by kernel_rfl) (by kernel_rfl) ?f14m3_ ?r14m3_ (fun _ _ _ h => h) (Or.inl ⟨?w14m3_, ?y14m3_⟩) (by assumption) ?t14m3_
    case h14m3_ => simp only [List.getElem?_toArray]; rfl
    case f14m3_ => kernel_rfl
    case r14m3_ => kernel_rfl
    case w14m3_ => rfl
    case y14m3_ => (intro u hu; (go_simp) <;> with_reducible rfl)
    try simp only [Act.put, List.setIfInBounds_toArray, List.set_cons_zero, List.set_cons_succ]
    refine wpAnyK_ahead (i := 15) (oi := ?o15m3_) (v := ?v15m3_) ?h15m3_ (by decide) (by kernel_rfl) (by kernel_rfl) ?f15m3_ ?r15m3_ (fun _ _ _ h => h) (Or.inl ⟨?w15m3_, ?y15m3_⟩) (by assumption) ?t15m3_
    case h15m3_ => simp only [List.getElem?_toArray]; rfl
    case f15m3_ => kernel_rfl
    case r15m3_ => kernel_rfl
    case w15m3_ => rfl
    case y15m3_ => (intro u hu; (have hx := xd1 u hu; go_simp) <;> with_reducible rfl)
    try simp only [Act.put, List.setIfInBounds_toArray, List.set_cons_zero, List.set_cons_succ]
    clear xc0 xc1 xc2 xc3 xt0 xt1 xd0 xd1
    refine wpAnyK_one (i := 16) (o := ?o16m3_) ?h16m3_ (by decide) (by kernel_rfl) (fun K hK => ?_)
    case h16m3_ => simp only [List.getElem?_toArray]; rfl
    go_simp
    refine (quarter7_c x0 x1 x2 x3 y0 y1 r0 r1 r2 r3 ry0 ry1 _).mono ?_
    rintro e V ⟨p, q, r, t, rfl, HQ, -, -, -, -, hb⟩
    refine hK.out _ _ (hH.trans hb) (fun hH' => ?_)
    clear hK K hH
    have hH := hH'
    clear hH'
    try simp only [List.setIfInBounds_toArray, List.set]
    refine wpAnyK_ahead (i := 17) (oi := ?o17m3_) (v := ?v17m3_) ?h17m3_ (by decide) (by kernel_rfl) (by kernel_rfl) ?f17m3_ ?r17m3_ (fun _ _ _ h => h) (Or.inl ⟨?w17m3_, ?y17m3_⟩) (by assumption) ?t17m3_
    case h17m3_ => simp only [List.getElem?_toArray]; rfl
    case f17m3_ => kernel_rfl
    case r17m3_ => kernel_rfl
    case w17m3_ => rfl
    case y17m3_ => (intro u hu; (go_simp) <;> with_reducible rfl)
    try simp only [Act.put, List.setIfInBounds_toArray, List.set_cons_zero, List.set_cons_succ]
    refine wpAnyK_ahead (i := 18) (oi := ?o18m3_) (v := ?v18m3_) ?h18m3_ (by decide) (by kernel_rfl) (by kernel_rfl) ?f18m3_ ?r18m3_ (fun _ _ _ h => h) (Or.inl ⟨?w18m3_, ?y18m3_⟩) (by assumption) ?t18m3_
    case h18m3_ => simp only [List.getElem?_toArray]; rfl
    case f18m3_ => kernel_rfl
    case r18m3_ => kernel_rfl
    case w18m3_ => rfl
    case y18m3_ => (intro u hu; (go_simp) <;> with_reducible rfl)
    try simp only [Act.put, List.setIfInBounds_toArray, List.set_cons_zero, List.set_cons_succ]
    refine wpAnyK_take (i := 19) (oi := ?o19m3_) (v := ?v19m3_) ?h19m3_ (by decide) (by kernel_rfl) ?f19m3_ ?r19m3_ (fun _ _ _ h => h) (fun _ h => h.extB _) (Or.inl ⟨?w19m3_, ?y19m3_⟩) (by assumption) ?t19m3_
    case h19m3_ => simp only [List.getElem?_toArray]; rfl
    case f19m3_ => kernel_rfl
    case r19m3_ => kernel_rfl
    case w19m3_ => rfl
    case y19m3_ => (intro u hu; (go_simp) <;> with_reducible rfl)
    try simp only [Act.put, List.setIfInBounds_toArray, List.set_cons_zero, List.set_cons_succ]
    refine wpAnyK_take (i := 20) (oi := ?o20m3_) (v := ?v20m3_) ?h20m3_ (by decide) (by kernel_rfl) ?f20m3_ ?r20m3_ (fun _ _ _ h => h) (fun _ h => h.extB _) (Or.inl ⟨?w20m3_, ?y20m3_⟩) (by assumption) ?t20m3_
    case h20m3_ => simp only [List.getElem?_toArray]; rfl
    case f20m3_ => kernel_rfl
    case r20m3_ => kernel_rfl
    case w20m3_ => rfl
    case y20m3_ => (intro u hu; (go_simp) <;> with_reducible rfl)
    try simp only [Act.put, List.setIfInBounds_toArray, List.set_cons_zero, List.set_cons_succ]
    refine wpAnyK_take (i := 21) (oi := ?o21m3_) (v := ?v21m3_) ?h21m3_ (by decide) (by kernel_rfl) ?f21m3_ ?r21m3_ (fun _ _ _ h => h) (fun _ h => h.extB _) (Or.inl ⟨?w21m3_, ?y21m3_⟩) (by assumption) ?t21m3_
    case h21m3_ => simp only [List.getElem?_toArray]; rfl
    case f21m3_ => kernel_rfl
    case r21m3_ => kernel_rfl
    case w21m3_ => rfl
    case y21m3_ => (intro u hu; (go_simp) <;> with_reducible rfl)
    try simp only [Act.put, List.setIfInBounds_toArray, List.set_cons_zero, List.set_cons_succ]
    refine wpAnyK_ahead (i := 22) (oi := ?o22m3_) (v := ?v22m3_) ?h22m3_ (by decide) (by kernel_rfl) (by kernel_rfl) ?f22m3_ ?r22m3_ (fun _ _ _ h => h) (Or.inl ⟨?w22m3_, ?y22m3_⟩) (by assumption) ?t22m3_
    case h22m3_ => simp only [List.getElem?_toArray]; rfl
    case f22m3_ => kernel_rfl
    case r22m3_ => kernel_rfl
    case w22m3_ => rfl
    case y22m3_ => (intro u hu; (go_simp) <;> with_reducible rfl)
    try simp only [Act.put, List.setIfInBounds_toArray, List.set_cons_zero, List.set_cons_succ]
    replace HM := HM.out.later hH
    replace c0 := cell_later hH c0
    replace f0 := froz_later hH hlt f0
    replace c1 := cell_later hH c1
    replace f1 := froz_later hH hlt f1
    replace c2 := cell_later hH c2
    replace f2 := froz_later hH hlt f2
    replace c3 := cell_later hH c3
    replace f3 := froz_later hH hlt f3
    clear hb
    refine wpAnyK_last (k := 23) (o := ?o23m3_) ?h23m3_ (by kernel_rfl) (fun K hK => ?_)
    case h23m3_ => simp only [List.getElem?_toArray]; rfl
    go_simp
    refine hK.out _ _ ((hH.extB _).set 3 _) (fun hH' => ?_)
    clear hK K hH
    have hH := hH'
    clear hH'
    try simp only [List.setIfInBounds_toArray, List.set]
    refine wpAnyH_take (i := 24) (oi := ?o24m3_) (v := ?v24m3_) ?h24m3_ (by kernel_rfl) ?f24m3_ ?r24m3_ (fun _ _ _ h => h) (Or.inl ⟨?w24m3_, ?y24m3_⟩) (by assumption) ?t24m3_
    case h24m3_ => simp only [List.getElem?_toArray]; rfl
    case f24m3_ => kernel_rfl
    case r24m3_ => kernel_rfl
    case w24m3_ => rfl
    case y24m3_ => (intro u hu; (go_simp) <;> with_reducible rfl)
    try simp only [Act.put, List.setIfInBounds_toArray, List.set_cons_zero, List.set_cons_succ]
    refine wpAnyH_ready (rs := [25]) (by kernel_rfl) (by simp) ?_
    refine AllReadyH.cons (o := ?o25m3_) ?h25m3_ (fun K hK => ?_) AllReadyH.nil
    case h25m3_ => simp only [List.getElem?_toArray]; rfl
    go_simp
    refine hK.out _ _ (hH.set 7 _) (fun hH' => ?_)
    clear hK K hH
    have hH := hH'
    clear hH'
    try simp only [List.setIfInBounds_toArray, List.set]
    refine wpAnyH_take (i := 26) (oi := ?o26m3_) (v := ?v26m3_) ?h26m3_ (by kernel_rfl) ?f26m3_ ?r26m3_ (fun _ _ _ h => h) (Or.inl ⟨?w26m3_, ?y26m3_⟩) (by assumption) ?t26m3_
    case h26m3_ => simp only [List.getElem?_toArray]; rfl
    case f26m3_ => kernel_rfl
    case r26m3_ => kernel_rfl
    case w26m3_ => rfl
    case y26m3_ => (intro u hu; (go_simp) <;> with_reducible rfl)
    try simp only [Act.put, List.setIfInBounds_toArray, List.set_cons_zero, List.set_cons_succ]
    refine wpAnyH_ready (rs := [27]) (by kernel_rfl) (by simp) ?_
    refine AllReadyH.cons (o := ?o27m3_) ?h27m3_ (fun K hK => ?_) AllReadyH.nil
    case h27m3_ => simp only [List.getElem?_toArray]; rfl
    go_simp
    refine hK.out _ _ (hH.set 11 _) (fun hH' => ?_)
    clear hK K hH
    have hH := hH'
    clear hH'
    try simp only [List.setIfInBounds_toArray, List.set]
    refine wpAnyH_take (i := 28) (oi := ?o28m3_) (v := ?v28m3_) ?h28m3_ (by kernel_rfl) ?f28m3_ ?r28m3_ (fun _ _ _ h => h) (Or.inl ⟨?w28m3_, ?y28m3_⟩) (by assumption) ?t28m3_
    case h28m3_ => simp only [List.getElem?_toArray]; rfl
    case f28m3_ => kernel_rfl
    case r28m3_ => kernel_rfl
    case w28m3_ => rfl
    case y28m3_ => (intro u hu; (go_simp) <;> with_reducible rfl)
    try simp only [Act.put, List.setIfInBounds_toArray, List.set_cons_zero, List.set_cons_succ]
    refine wpAnyH_ready (rs := [29]) (by kernel_rfl) (by simp) ?_
    refine AllReadyH.cons (o := ?o29m3_) ?h29m3_ (fun K hK => ?_) AllReadyH.nil
    case h29m3_ => simp only [List.getElem?_toArray]; rfl
    go_simp
    refine hK.out _ _ (hH.set 15 _) (fun hH' => ?_)
    clear hK K hH
    have hH := hH'
    clear hH'
    try simp only [List.setIfInBounds_toArray, List.set]
    refine wpAnyH_done (by kernel_rfl) ?_ _
    refine NoPanic.normal ?_
    have HM' := HM.mixed k1 k2 k3 3 7 11 15 (by decide) (by decide) (by decide) (by decide) HX0.out HX1.out HX2.out HX3.out HQ.out
    go_wp2_with fail
    go_meet
    case rel => exact ⟨bg7 L3 3 7 11 15 y0 y1, by unfold Hid; rw [HY0.out, HY1.out, HN0.out, HN1.out, HL.out]; rfl, bg7_w HW.out _ _ _ _ _ _, HM'⟩
  case rest =>
  obtain ⟨L4, HL, HW, HM⟩ := hcut
  refine (‹∀ (a : Act) (w : World), Code.wp Tryd.prog _ _ a w → _› _ _ ?_)
  refine cast_code (c := bodyAt 5 Tryd.f60.body) (by kernel_rfl) ?_
  exact mixed_t4 L M s HWM HSO w q1 q2 q3 k1 k2 k3 wc L4 HL HW HM u7 u8 u9 u10 u11 u12 u13 u14 u15 u16 u17 u18 u19 u20 u21 u22 u23 u24 u25 u26 u27 u28 u29 u30 u31 u32 u33 u34 u35 u36 u37 u38 u39 u40 u41 u42 u43 u44 u45 u46 u47 u48 u49 u50 u51 u52 u53 u54 u55 u56 u57 u58 u59 u60 u61 u62 u63 u64 u65 u66 u67 u68 u69 u70 u71 u72 u73 u74 u75 u76 u77 u78 u79 u80 u81 u82 u83 u84 u85 u86 u87 u88 u89 u90 u91 u92 u93 u94 u95 u96 u97 u98 u99 u100 u101 u102 u103 u104 u105 u106 u107 u108 u109 u110 u111 u112 u113 u114 u115 u116 u117 u118 u119 u120 u121 u122 u123 u124 u125 u126 u127 u128 u129 u130 u131 u132 u133 u134 u135 u136 u137 u138 u139 u140 u141 u142 u143 u144 u145 u146 u147 u148 u149 u150 u151 u152 u153 u154 u155 u156 u157 u158 u159 u160 u161 u162 u163 u164 u165 u166 u167 u168 u169 u170 u171 u172 u173 u174 u175 u176 u177 u178 u179 u180 u181 u182 u183 u184 u185 u186 u187 u188 u189 u190 u191 u192 u193 u194 u195 u196 u197 u198 u199 u200 u201 u202 u203 u204 u205 u206 u207 u208 u209 u210 u211 u212 u213 u214 u215

set_option maxRecDepth 8000 in
set_option maxHeartbeats 8000000 in
theorem mixed_c (L M : List Int) (s : List Nat) (hL : Wn 16 L) (hM : Wn 16 M) (hs : So s) (w : World) :
    Calls Tryd.prog 60 #[(.agg (List.map (Value.int .u32) L).toArray), (.agg (List.map (Value.int .u32) M).toArray), .agg (List.map nb8 s).toArray] w fun e w' => ∃ L', e = .returned (.agg (List.map (Value.int .u32) L').toArray) ∧ Hid (L' = gs7 M s L 8) ∧ Wn 16 L' ∧ Below w.heap.size w w' := by
  have HW : Hid (Wn 16 L) := hL
  have HWM : Hid (Wn 16 M) := hM
  have HSO : Hid (So s) := hs
  clear hL hM hs
  go_enter Tryd.func60, Tryd.ntmps60
  go_upto_region 1 with fail
  obtain ⟨wc, hwc⟩ : ∃ W, W = (((w.alloc (.cells (List.map (Value.int .u32) L).toArray 100)).alloc (.cells (List.map (Value.int .u32) M).toArray 100)).alloc (.cells (List.map nb8 s).toArray 96)).alloc (.cells #[.int .u32 0, .int .u32 0, .int .u32 0, .int .u32 0, .int .u32 0, .int .u32 0, .int .u32 0, .int .u32 0, .int .u32 0, .int .u32 0, .int .u32 0, .int .u32 0, .int .u32 0, .int .u32 0, .int .u32 0, .int .u32 0] 100) := ⟨_, rfl⟩
  obtain ⟨q1, hq1⟩ : ∃ q, q = w.heap.size + 1 := ⟨_, rfl⟩
  obtain ⟨q2, hq2⟩ : ∃ q, q = w.heap.size + 1 + 1 := ⟨_, rfl⟩
  obtain ⟨q3, hq3⟩ : ∃ q, q = w.heap.size + 1 + 1 + 1 := ⟨_, rfl⟩
  rw [← hq3, ← hq2, ← hq1, ← hwc]
  have HM : Hid (Mx w q1 q2 q3 L M s wc) := by
    unfold Hid
    rw [hwc, hq1, hq2, hq3]
    refine ⟨(ar_box w _ 16 HW.out.map_len _).later (bel3 _ _ _ _), ?_, ?_, ?_, bel4' _ _ _ _ _⟩
    · have := (ar_box (w.alloc (.cells (List.map (Value.int .u32) L).toArray 100)) _ 16 HWM.out.map_len 100).later (bel2 _ (.cells (List.map nb8 s).toArray 96) (.cells #[.int .u32 0, .int .u32 0, .int .u32 0, .int .u32 0, .int .u32 0, .int .u32 0, .int .u32 0, .int .u32 0, .int .u32 0, .int .u32 0, .int .u32 0, .int .u32 0, .int .u32 0, .int .u32 0, .int .u32 0, .int .u32 0] 100)); simpa using this
    · have := (ar_box ((w.alloc (.cells (List.map (Value.int .u32) L).toArray 100)).alloc (.cells (List.map (Value.int .u32) M).toArray 100)) (List.map nb8 s) 16 (by rw [List.length_map, HSO.out.len]) 96).later (bel1 _ (.cells #[.int .u32 0, .int .u32 0, .int .u32 0, .int .u32 0, .int .u32 0, .int .u32 0, .int .u32 0, .int .u32 0, .int .u32 0, .int .u32 0, .int .u32 0, .int .u32 0, .int .u32 0, .int .u32 0, .int .u32 0, .int .u32 0] 100)); simpa using this
    · have := there_new (((w.alloc (.cells (List.map (Value.int .u32) L).toArray 100)).alloc (.cells (List.map (Value.int .u32) M).toArray 100)).alloc (.cells (List.map nb8 s).toArray 96)) 16 #[.int .u32 0, .int .u32 0, .int .u32 0, .int .u32 0, .int .u32 0, .int .u32 0, .int .u32 0, .int .u32 0, .int .u32 0, .int .u32 0, .int .u32 0, .int .u32 0, .int .u32 0, .int .u32 0, .int .u32 0, .int .u32 0] rfl 100; simpa using this
  have k1 : w.heap.size < q1 := by omega
  have k2 : w.heap.size < q2 := by omega
  have k3 : w.heap.size < q3 := by omega
  have k0 : w.heap.size ≠ q2 := by omega
  clear hwc hq1 hq2 hq3
  have HL : Hid (L = gs7 M s L 0) := rfl
  go_upto_region 1 with fail
  go_cut [] from 7 (fun wx => ∃ L1 : List Int, Hid (L1 = gs7 M s L 1) ∧ Hid (Wn 16 L1) ∧ Hid (Mx w q1 q2 q3 L1 M s wx))
  case first =>
    obtain ⟨x0, c0, f0, r0, HX0⟩ := wn_word HM.out.v HW.out 0 (by decide)
    obtain ⟨x1, c1, f1, r1, HX1⟩ := wn_word HM.out.v HW.out 4 (by decide)
    obtain ⟨x2, c2, f2, r2, HX2⟩ := wn_word HM.out.v HW.out 8 (by decide)
    obtain ⟨x3, c3, f3, r3, HX3⟩ := wn_word HM.out.v HW.out 12 (by decide)
    have t0 := so_cell HM.out.s HSO.out 0 (by decide)
    have t1 := so_cell HM.out.s HSO.out 1 (by decide)
    have l0 := HSO.out.lt 0
    have l1 := HSO.out.lt 1
    obtain ⟨n0, hn0⟩ : ∃ n : Nat, n = s[0]! := ⟨_, rfl⟩
    obtain ⟨n1, hn1⟩ : ∃ n : Nat, n = s[1]! := ⟨_, rfl⟩
    rw [← hn0] at t0 l0
    rw [← hn1] at t1 l1
    have HN0 : Hid (n0 = s[0]!) := hn0
    have HN1 : Hid (n1 = s[1]!) := hn1
    clear hn0 hn1
    obtain ⟨y0, d0, -, ry0, HY0⟩ := wn_word HM.out.m HWM.out n0 l0
    obtain ⟨y1, d1, -, ry1, HY1⟩ := wn_word HM.out.m HWM.out n1 l1
    have g0 : (n0 : Int) < 16 := by omega
    have g1 : (n1 : Int) < 16 := by omega
    have xc0 : ∀ u, Ext wc u → u.cell? ⟨w.heap.size, 0, none⟩ = some (.int .u32 x0) := fun u hu => hu.cell c0
    have xc1 : ∀ u, Ext wc u → u.cell? ⟨w.heap.size, 4, none⟩ = some (.int .u32 x1) := fun u hu => hu.cell c1
    have xc2 : ∀ u, Ext wc u → u.cell? ⟨w.heap.size, 8, none⟩ = some (.int .u32 x2) := fun u hu => hu.cell c2
    have xc3 : ∀ u, Ext wc u → u.cell? ⟨w.heap.size, 12, none⟩ = some (.int .u32 x3) := fun u hu => hu.cell c3
    have xt0 : ∀ u, Ext wc u → u.cell? ⟨q2, 0, none⟩ = some (.int .u8 n0) := fun u hu => hu.cell t0
    have xt1 : ∀ u, Ext wc u → u.cell? ⟨q2, 1, none⟩ = some (.int .u8 n1) := fun u hu => hu.cell t1
    have xd0 : ∀ u, Ext wc u → u.cell? ⟨q1, n0, none⟩ = some (.int .u32 y0) := fun u hu => hu.cell d0
    have xd1 : ∀ u, Ext wc u → u.cell? ⟨q1, n1, none⟩ = some (.int .u32 y1) := fun u hu => hu.cell d1
    have hlt := HM.out.v.lt (by decide)
    clear t0 t1 d0 d1
    refine wp_region_noPanic ?_
    refine wp_region_two (k := 23) (Ext wc) (ExtB w.heap.size wc) (by kernel_rfl) (Ext.refl _).drew (fun hH => ?_)
    change wpAnyK _ _ _ _ _ _ _ _ #[false, false, false, false, false, false, false, false, false, false, false, false, false, false, false, false, false, false, false, false, false, false, false, false, false, false, false, false, false, false] _ _
    refine wpAnyK_ahead (i := 0) (oi := ?o0m0_) (v := ?v0m0_) ?h0m0_ (by decide) (by kernel_rfl) (by kernel_rfl) ?f0m0_ ?r0m0_ (fun _ _ _ h => h) (Or.inl ⟨?w0m0_, ?y0m0_⟩) (by assumption) ?t0m0_
    case h0m0_ => simp only [List.getElem?_toArray]; rfl
    case f0m0_ => kernel_rfl
    case r0m0_ => kernel_rfl
    case w0m0_ => rfl
    case y0m0_ => (intro u hu; (go_simp) <;> with_reducible rfl)
    try simp only [Act.put, List.setIfInBounds_toArray, List.set_cons_zero, List.set_cons_succ]
    refine wpAnyK_ahead (i := 1) (oi := ?o1m0_) (v := ?v1m0_) ?h1m0_ (by decide) (by kernel_rfl) (by kernel_rfl) ?f1m0_ ?r1m0_ (fun _ _ _ h => h) (Or.inl ⟨?w1m0_, ?y1m0_⟩) (by assumption) ?t1m0_
    case h1m0_ => simp only [List.getElem?_toArray]; rfl
    case f1m0_ => kernel_rfl
    case r1m0_ => kernel_rfl
    case w1m0_ => rfl
    case y1m0_ => (intro u hu; (have hx := xc0 u hu; go_simp) <;> with_reducible rfl)
    try simp only [Act.put, List.setIfInBounds_toArray, List.set_cons_zero, List.set_cons_succ]
    refine wpAnyK_ahead (i := 2) (oi := ?o2m0_) (v := ?v2m0_) ?h2m0_ (by decide) (by kernel_rfl) (by kernel_rfl) ?f2m0_ ?r2m0_ (fun _ _ _ h => h) (Or.inl ⟨?w2m0_, ?y2m0_⟩) (by assumption) ?t2m0_
    case h2m0_ => simp only [List.getElem?_toArray]; rfl
    case f2m0_ => kernel_rfl
    case r2m0_ => kernel_rfl
    case w2m0_ => rfl
    case y2m0_ => (intro u hu; (go_simp) <;> with_reducible rfl)
    try simp only [Act.put, List.setIfInBounds_toArray, List.set_cons_zero, List.set_cons_succ]
    refine wpAnyK_ahead (i := 3) (oi := ?o3m0_) (v := ?v3m0_) ?h3m0_ (by decide) (by kernel_rfl) (by kernel_rfl) ?f3m0_ ?r3m0_ (fun _ _ _ h => h) (Or.inl ⟨?w3m0_, ?y3m0_⟩) (by assumption) ?t3m0_
    case h3m0_ => simp only [List.getElem?_toArray]; rfl
    case f3m0_ => kernel_rfl
    case r3m0_ => kernel_rfl
    case w3m0_ => rfl
    case y3m0_ => (intro u hu; (have hx := xc1 u hu; go_simp) <;> with_reducible rfl)
    try simp only [Act.put, List.setIfInBounds_toArray, List.set_cons_zero, List.set_cons_succ]
    refine wpAnyK_ahead (i := 4) (oi := ?o4m0_) (v := ?v4m0_) ?h4m0_ (by decide) (by kernel_rfl) (by kernel_rfl) ?f4m0_ ?r4m0_ (fun _ _ _ h => h) (Or.inl ⟨?w4m0_, ?y4m0_⟩) (by assumption) ?t4m0_
    case h4m0_ => simp only [List.getElem?_toArray]; rfl
    case f4m0_ => kernel_rfl
    case r4m0_ => kernel_rfl
    case w4m0_ => rfl
    case y4m0_ => (intro u hu; (go_simp) <;> with_reducible rfl)
    try simp only [Act.put, List.setIfInBounds_toArray, List.set_cons_zero, List.set_cons_succ]
    refine wpAnyK_ahead (i := 5) (oi := ?o5m0_) (v := ?v5m0_) ?h5m0_ (by decide) (by kernel_rfl) (by kernel_rfl) ?f5m0_ ?r5m0_ (fun _ _ _ h => h) (Or.inl ⟨?w5m0_, ?y5m0_⟩) (by assumption) ?t5m0_
    case h5m0_ => simp only [List.getElem?_toArray]; rfl
    case f5m0_ => kernel_rfl
    case r5m0_ => kernel_rfl
    case w5m0_ => rfl
    case y5m0_ => (intro u hu; (have hx := xc2 u hu; go_simp) <;> with_reducible rfl)
    try simp only [Act.put, List.setIfInBounds_toArray, List.set_cons_zero, List.set_cons_succ]
    refine wpAnyK_ahead (i := 6) (oi := ?o6m0_) (v := ?v6m0_) ?h6m0_ (by decide) (by kernel_rfl) (by kernel_rfl) ?f6m0_ ?r6m0_ (fun _ _ _ h => h) (Or.inl ⟨?w6m0_, ?y6m0_⟩) (by assumption) ?t6m0_
    case h6m0_ => simp only [List.getElem?_toArray]; rfl
    case f6m0_ => kernel_rfl
    case r6m0_ => kernel_rfl
    case w6m0_ => rfl
    case y6m0_ => (intro u hu; (go_simp) <;> with_reducible rfl)
    try simp only [Act.put, List.setIfInBounds_toArray, List.set_cons_zero, List.set_cons_succ]
    refine wpAnyK_ahead (i := 7) (oi := ?o7m0_) (v := ?v7m0_) ?h7m0_ (by decide) (by kernel_rfl) (by kernel_rfl) ?f7m0_ ?r7m0_ (fun _ _ _ h => h) (Or.inl ⟨?w7m0_, ?y7m0_⟩) (by assumption) ?t7m0_
    case h7m0_ => simp only [List.getElem?_toArray]; rfl
    case f7m0_ => kernel_rfl
    case r7m0_ => kernel_rfl
    case w7m0_ => rfl
    case y7m0_ => (intro u hu; (have hx := xc3 u hu; go_simp) <;> with_reducible rfl)
    try simp only [Act.put, List.setIfInBounds_toArray, List.set_cons_zero, List.set_cons_succ]
    refine wpAnyK_ahead (i := 8) (oi := ?o8m0_) (v := ?v8m0_) ?h8m0_ (by decide) (by kernel_rfl) (by kernel_rfl) ?f8m0_ ?r8m0_ (fun _ _ _ h => h) (Or.inl ⟨?w8m0_, ?y8m0_⟩) (by assumption) ?t8m0_
    case h8m0_ => simp only [List.getElem?_toArray]; rfl
    case f8m0_ => kernel_rfl
    case r8m0_ => kernel_rfl
    case w8m0_ => rfl
    case y8m0_ => (intro u hu; (go_simp) <;> with_reducible rfl)
    try simp only [Act.put, List.setIfInBounds_toArray, List.set_cons_zero, List.set_cons_succ]
    refine wpAnyK_ahead (i := 9) (oi := ?o9m0_) (v := ?v9m0_) ?h9m0_ (by decide) (by kernel_rfl) (by kernel_rfl) ?f9m0_ ?r9m0_ (fun _ _ _ h => h) (Or.inl ⟨?w9m0_, ?y9m0_⟩) (by assumption) ?t9m0_
    case h9m0_ => simp only [List.getElem?_toArray]; rfl
    case f9m0_ => kernel_rfl
    case r9m0_ => kernel_rfl
    case w9m0_ => rfl
    case y9m0_ => (intro u hu; (have hx := xt0 u hu; go_simp) <;> with_reducible rfl)
    try simp only [Act.put, List.setIfInBounds_toArray, List.set_cons_zero, List.set_cons_succ]
    refine wpAnyK_ahead (i := 10) (oi := ?o10m0_) (v := ?v10m0_) ?h10m0_ (by decide) (by kernel_rfl) (by kernel_rfl) ?f10m0_ ?r10m0_ (fun _ _ _ h => h) (Or.inl ⟨?w10m0_, ?y10m0_⟩) (by assumption) ?t10m0_
    case h10m0_ => simp only [List.getElem?_toArray]; rfl
    case f10m0_ => kernel_rfl
    case r10m0_ => kernel_rfl
    case w10m0_ => rfl
    case y10m0_ => (intro u hu; (go_simp) <;> with_reducible rfl)
    try simp only [Act.put, List.setIfInBounds_toArray, List.set_cons_zero, List.set_cons_succ]
    refine wpAnyK_ahead (i := 11) (oi := ?o11m0_) (v := ?v11m0_) ?h11m0_ (by decide) (by kernel_rfl) (by kernel_rfl) ?f11m0_ ?r11m0_ (fun _ _ _ h => h) (Or.inl ⟨?w11m0_, ?y11m0_⟩) (by assumption) ?t11m0_
    case h11m0_ => simp only [List.getElem?_toArray]; rfl
    case f11m0_ => kernel_rfl
    case r11m0_ => kernel_rfl
    case w11m0_ => rfl
    case y11m0_ => (intro u hu; (have hx := xd0 u hu; go_simp) <;> with_reducible rfl)
    try simp only [Act.put, List.setIfInBounds_toArray, List.set_cons_zero, List.set_cons_succ]
    refine wpAnyK_ahead (i := 12) (oi := ?o12m0_) (v := ?v12m0_) ?h12m0_ (by decide) (by kernel_rfl) (by kernel_rfl) ?f12m0_ ?r12m0_ (fun _ _ _ h => h) (Or.inl ⟨?w12m0_, ?y12m0_⟩) (by assumption) ?t12m0_
    case h12m0_ => simp only [List.getElem?_toArray]; rfl
    case f12m0_ => kernel_rfl
    case r12m0_ => kernel_rfl
    case w12m0_ => rfl
    case y12m0_ => (intro u hu; (go_simp) <;> with_reducible rfl)
    try simp only [Act.put, List.setIfInBounds_toArray, List.set_cons_zero, List.set_cons_succ]
    refine wpAnyK_ahead (i := 13) (oi := ?o13m0_) (v := ?v13m0_) ?h13m0_ (by decide) (by kernel_rfl) (by kernel_rfl) ?f13m0_ ?r13m0_ (fun _ _ _ h => h) (Or.inl ⟨?w13m0_, ?y13m0_⟩) (by assumption) ?t13m0_
    case h13m0_ => simp only [List.getElem?_toArray]; rfl
    case f13m0_ => kernel_rfl
    case r13m0_ => kernel_rfl
    case w13m0_ => rfl
    case y13m0_ => (intro u hu; (have hx := xt1 u hu; go_simp) <;> with_reducible rfl)
    try simp only [Act.put, List.setIfInBounds_toArray, List.set_cons_zero, List.set_cons_succ]
    refine wpAnyK_ahead (i := 14) (oi := ?o14m0_) (v := ?v14m0_) ?h14m0_ (by decide) (by kernel_rfl) (by kernel_rfl) ?f14m0_ ?r14m0_ (fun _ _ _ h => h) (Or.inl ⟨?w14m0_, ?y14m0_⟩) (by assumption) ?t14m0_
    case h14m0_ => simp only [List.getElem?_toArray]; rfl
    case f14m0_ => kernel_rfl
    case r14m0_ => kernel_rfl
    case w14m0_ => rfl
    case y14m0_ => (intro u hu; (go_simp) <;> with_reducible rfl)
    try simp only [Act.put, List.setIfInBounds_toArray, List.set_cons_zero, List.set_cons_succ]
    refine wpAnyK_ahead (i := 15) (oi := ?o15m0_) (v := ?v15m0_) ?h15m0_ (by decide) (by kernel_rfl) (by kernel_rfl) ?f15m0_ ?r15m0_ (fun _ _ _ h => h) (Or.inl ⟨?w15m0_, ?y15m0_⟩) (by assumption) ?t15m0_
    case h15m0_ => simp only [List.getElem?_toArray]; rfl
    case f15m0_ => kernel_rfl
    case r15m0_ => kernel_rfl
    case w15m0_ => rfl
    case y15m0_ => (intro u hu; (have hx := xd1 u hu; go_simp) <;> with_reducible rfl)
    try simp only [Act.put, List.setIfInBounds_toArray, List.set_cons_zero, List.set_cons_succ]
    clear xc0 xc1 xc2 xc3 xt0 xt1 xd0 xd1
    refine wpAnyK_one (i := 16) (o := ?o16m0_) ?h16m0_ (by decide) (by kernel_rfl) (fun K hK => ?_)
    case h16m0_ => simp only [List.getElem?_toArray]; rfl
    go_simp
    refine (quarter7_c x0 x1 x2 x3 y0 y1 r0 r1 r2 r3 ry0 ry1 _).mono ?_
    rintro e V ⟨p, q, r, t, rfl, HQ, -, -, -, -, hb⟩
    refine hK.out _ _ (hH.trans hb) (fun hH' => ?_)
    clear hK K hH
    have hH := hH'
    clear hH'
    try simp only [List.setIfInBounds_toArray, List.set]
    refine wpAnyK_ahead (i := 17) (oi := ?o17m0_) (v := ?v17m0_) ?h17m0_ (by decide) (by kernel_rfl) (by kernel_rfl) ?f17m0_ ?r17m0_ (fun _ _ _ h => h) (Or.inl ⟨?w17m0_, ?y17m0_⟩) (by assumption) ?t17m0_
    case h17m0_ => simp only [List.getElem?_toArray]; rfl
    case f17m0_ => kernel_rfl
    case r17m0_ => kernel_rfl
    case w17m0_ => rfl
    case y17m0_ => (intro u hu; (go_simp) <;> with_reducible rfl)
    try simp only [Act.put, List.setIfInBounds_toArray, List.set_cons_zero, List.set_cons_succ]
    refine wpAnyK_ahead (i := 18) (oi := ?o18m0_) (v := ?v18m0_) ?h18m0_ (by decide) (by kernel_rfl) (by kernel_rfl) ?f18m0_ ?r18m0_ (fun _ _ _ h => h) (Or.inl ⟨?w18m0_, ?y18m0_⟩) (by assumption) ?t18m0_
    case h18m0_ => simp only [List.getElem?_toArray]; rfl
    case f18m0_ => kernel_rfl
    case r18m0_ => kernel_rfl
    case w18m0_ => rfl
    case y18m0_ => (intro u hu; (go_simp) <;> with_reducible rfl)
    try simp only [Act.put, List.setIfInBounds_toArray, List.set_cons_zero, List.set_cons_succ]
    refine wpAnyK_take (i := 19) (oi := ?o19m0_) (v := ?v19m0_) ?h19m0_ (by decide) (by kernel_rfl) ?f19m0_ ?r19m0_ (fun _ _ _ h => h) (fun _ h => h.extB _) (Or.inl ⟨?w19m0_, ?y19m0_⟩) (by assumption) ?t19m0_
    case h19m0_ => simp only [List.getElem?_toArray]; rfl
    case f19m0_ => kernel_rfl
    case r19m0_ => kernel_rfl
    case w19m0_ => rfl
    case y19m0_ => (intro u hu; (go_simp) <;> with_reducible rfl)
    try simp only [Act.put, List.setIfInBounds_toArray, List.set_cons_zero, List.set_cons_succ]
    refine wpAnyK_take (i := 20) (oi := ?o20m0_) (v := ?v20m0_) ?h20m0_ (by decide) (by kernel_rfl) ?f20m0_ ?r20m0_ (fun _ _ _ h => h) (fun _ h => h.extB _) (Or.inl ⟨?w20m0_, ?y20m0_⟩) (by assumption) ?t20m0_
    case h20m0_ => simp only [List.getElem?_toArray]; rfl
    case f20m0_ => kernel_rfl
    case r20m0_ => kernel_rfl
    case w20m0_ => rfl
    case y20m0_ => (intro u hu; (go_simp) <;> with_reducible rfl)
    try simp only [Act.put, List.setIfInBounds_toArray, List.set_cons_zero, List.set_cons_succ]
    refine wpAnyK_take (i := 21) (oi := ?o21m0_) (v := ?v21m0_) ?h21m0_ (by decide) (by kernel_rfl) ?f21m0_ ?r21m0_ (fun _ _ _ h => h) (fun _ h => h.extB _) (Or.inl ⟨?w21m0_, ?y21m0_⟩) (by assumption) ?t21m0_
    case h21m0_ => simp only [List.getElem?_toArray]; rfl
    case f21m0_ => kernel_rfl
    case r21m0_ => kernel_rfl
    case w21m0_ => rfl
    case y21m0_ => (intro u hu; (go_simp) <;> with_reducible rfl)
    try simp only [Act.put, List.setIfInBounds_toArray, List.set_cons_zero, List.set_cons_succ]
    refine wpAnyK_ahead (i := 22) (oi := ?o22m0_) (v := ?v22m0_) ?h22m0_ (by decide) (by kernel_rfl) (by kernel_rfl) ?f22m0_ ?r22m0_ (fun _ _ _ h => h) (Or.inl ⟨?w22m0_, ?y22m0_⟩) (by assumption) ?t22m0_
    case h22m0_ => simp only [List.getElem?_toArray]; rfl
    case f22m0_ => kernel_rfl
    case r22m0_ => kernel_rfl
    case w22m0_ => rfl
    case y22m0_ => (intro u hu; (go_simp) <;> with_reducible rfl)
    try simp only [Act.put, List.setIfInBounds_toArray, List.set_cons_zero, List.set_cons_succ]
    replace HM := HM.out.later hH
    replace c0 := cell_later hH c0
    replace f0 := froz_later hH hlt f0
    replace c1 := cell_later hH c1
    replace f1 := froz_later hH hlt f1
    replace c2 := cell_later hH c2
    replace f2 := froz_later hH hlt f2
    replace c3 := cell_later hH c3
    replace f3 := froz_later hH hlt f3
    clear hb
    refine wpAnyK_last (k := 23) (o := ?o23m0_) ?h23m0_ (by kernel_rfl) (fun K hK => ?_)
    case h23m0_ => simp only [List.getElem?_toArray]; rfl
    go_simp
    refine hK.out _ _ ((hH.extB _).set 0 _) (fun hH' => ?_)
    clear hK K hH
    have hH := hH'
    clear hH'
    try simp only [List.setIfInBounds_toArray, List.set]
    refine wpAnyH_take (i := 24) (oi := ?o24m0_) (v := ?v24m0_) ?h24m0_ (by kernel_rfl) ?f24m0_ ?r24m0_ (fun _ _ _ h => h) (Or.inl ⟨?w24m0_, ?y24m0_⟩) (by assumption) ?t24m0_
    case h24m0_ => simp only [List.getElem?_toArray]; rfl
    case f24m0_ => kernel_rfl
    case r24m0_ => kernel_rfl
    case w24m0_ => rfl
    case y24m0_ => (intro u hu; (go_simp) <;> with_reducible rfl)
    try simp only [Act.put, List.setIfInBounds_toArray, List.set_cons_zero, List.set_cons_succ]
    refine wpAnyH_ready (rs := [25]) (by kernel_rfl) (by simp) ?_
    refine AllReadyH.cons (o := ?o25m0_) ?h25m0_ (fun K hK => ?_) AllReadyH.nil
    case h25m0_ => simp only [List.getElem?_toArray]; rfl
    go_simp
    refine hK.out _ _ (hH.set 4 _) (fun hH' => ?_)
    clear hK K hH
    have hH := hH'
    clear hH'
    try simp only [List.setIfInBounds_toArray, List.set]
    refine wpAnyH_take (i := 26) (oi := ?o26m0_) (v := ?v26m0_) ?h26m0_ (by kernel_rfl) ?f26m0_ ?r26m0_ (fun _ _ _ h => h) (Or.inl ⟨?w26m0_, ?y26m0_⟩) (by assumption) ?t26m0_
    case h26m0_ => simp only [List.getElem?_toArray]; rfl
    case f26m0_ => kernel_rfl
    case r26m0_ => kernel_rfl
    case w26m0_ => rfl
    case y26m0_ => (intro u hu; (go_simp) <;> with_reducible rfl)
    try simp only [Act.put, List.setIfInBounds_toArray, List.set_cons_zero, List.set_cons_succ]
    refine wpAnyH_ready (rs := [27]) (by kernel_rfl) (by simp) ?_
    refine AllReadyH.cons (o := ?o27m0_) ?h27m0_ (fun K hK => ?_) AllReadyH.nil
    case h27m0_ => simp only [List.getElem?_toArray]; rfl
    go_simp
    refine hK.out _ _ (hH.set 8 _) (fun hH' => ?_)
    clear hK K hH
    have hH := hH'
    clear hH'
    try simp only [List.setIfInBounds_toArray, List.set]
    refine wpAnyH_take (i := 28) (oi := ?o28m0_) (v := ?v28m0_) ?h28m0_ (by kernel_rfl) ?f28m0_ ?r28m0_ (fun _ _ _ h => h) (Or.inl ⟨?w28m0_, ?y28m0_⟩) (by assumption) ?t28m0_
    case h28m0_ => simp only [List.getElem?_toArray]; rfl
    case f28m0_ => kernel_rfl
    case r28m0_ => kernel_rfl
    case w28m0_ => rfl
    case y28m0_ => (intro u hu; (go_simp) <;> with_reducible rfl)
    try simp only [Act.put, List.setIfInBounds_toArray, List.set_cons_zero, List.set_cons_succ]
    refine wpAnyH_ready (rs := [29]) (by kernel_rfl) (by simp) ?_
    refine AllReadyH.cons (o := ?o29m0_) ?h29m0_ (fun K hK => ?_) AllReadyH.nil
    case h29m0_ => simp only [List.getElem?_toArray]; rfl
    go_simp
    refine hK.out _ _ (hH.set 12 _) (fun hH' => ?_)
    clear hK K hH
    have hH := hH'
    clear hH'
    try simp only [List.setIfInBounds_toArray, List.set]
    refine wpAnyH_done (by kernel_rfl) ?_ _
    refine NoPanic.normal ?_
    have HM' := HM.mixed k1 k2 k3 0 4 8 12 (by decide) (by decide) (by decide) (by decide) HX0.out HX1.out HX2.out HX3.out HQ.out
    go_wp2_with fail
    go_meet
    case rel => exact ⟨bg7 L 0 4 8 12 y0 y1, by unfold Hid; rw [HY0.out, HY1.out, HN0.out, HN1.out, HL.out]; rfl, bg7_w HW.out _ _ _ _ _ _, HM'⟩
  case rest =>
  obtain ⟨L1, HL, HW, HM⟩ := hcut
  go_upto_region 2 with fail
  go_cut [] from 7 (fun wx => ∃ L2 : List Int, Hid (L2 = gs7 M s L 2) ∧ Hid (Wn 16 L2) ∧ Hid (Mx w q1 q2 q3 L2 M s wx))
  case first =>
    obtain ⟨x0, c0, f0, r0, HX0⟩ := wn_word HM.out.v HW.out 1 (by decide)
    obtain ⟨x1, c1, f1, r1, HX1⟩ := wn_word HM.out.v HW.out 5 (by decide)
    obtain ⟨x2, c2, f2, r2, HX2⟩ := wn_word HM.out.v HW.out 9 (by decide)
    obtain ⟨x3, c3, f3, r3, HX3⟩ := wn_word HM.out.v HW.out 13 (by decide)
    have t0 := so_cell HM.out.s HSO.out 2 (by decide)
    have t1 := so_cell HM.out.s HSO.out 3 (by decide)
    have l0 := HSO.out.lt 2
    have l1 := HSO.out.lt 3
    obtain ⟨n0, hn0⟩ : ∃ n : Nat, n = s[2]! := ⟨_, rfl⟩
    obtain ⟨n1, hn1⟩ : ∃ n : Nat, n = s[3]! := ⟨_, rfl⟩
    rw [← hn0] at t0 l0
    rw [← hn1] at t1 l1
    have HN0 : Hid (n0 = s[2]!) := hn0
    have HN1 : Hid (n1 = s[3]!) := hn1
    clear hn0 hn1
    obtain ⟨y0, d0, -, ry0, HY0⟩ := wn_word HM.out.m HWM.out n0 l0
    obtain ⟨y1, d1, -, ry1, HY1⟩ := wn_word HM.out.m HWM.out n1 l1
    have g0 : (n0 : Int) < 16 := by omega
    have g1 : (n1 : Int) < 16 := by omega
    have xc0 : ∀ u, Ext wc u → u.cell? ⟨w.heap.size, 1, none⟩ = some (.int .u32 x0) := fun u hu => hu.cell c0
    have xc1 : ∀ u, Ext wc u → u.cell? ⟨w.heap.size, 5, none⟩ = some (.int .u32 x1) := fun u hu => hu.cell c1
    have xc2 : ∀ u, Ext wc u → u.cell? ⟨w.heap.size, 9, none⟩ = some (.int .u32 x2) := fun u hu => hu.cell c2
    have xc3 : ∀ u, Ext wc u → u.cell? ⟨w.heap.size, 13, none⟩ = some (.int .u32 x3) := fun u hu => hu.cell c3
    have xt0 : ∀ u, Ext wc u → u.cell? ⟨q2, 2, none⟩ = some (.int .u8 n0) := fun u hu => hu.cell t0
    have xt1 : ∀ u, Ext wc u → u.cell? ⟨q2, 3, none⟩ = some (.int .u8 n1) := fun u hu => hu.cell t1
    have xd0 : ∀ u, Ext wc u → u.cell? ⟨q1, n0, none⟩ = some (.int .u32 y0) := fun u hu => hu.cell d0
    have xd1 : ∀ u, Ext wc u → u.cell? ⟨q1, n1, none⟩ = some (.int .u32 y1) := fun u hu => hu.cell d1
    have hlt := HM.out.v.lt (by decide)
    clear t0 t1 d0 d1
    refine wp_region_noPanic ?_
    refine wp_region_two (k := 23) (Ext wc) (ExtB w.heap.size wc) (by kernel_rfl) (Ext.refl _).drew (fun hH => ?_)
    change wpAnyK _ _ _ _ _ _ _ _ #[false, false, false, false, false, false, false, false, false, false, false, false, false, false, false, false, false, false, false, false, false, false, false, false, false, false, false, false, false, false] _ _
    refine wpAnyK_ahead (i := 0) (oi := ?o0m1_) (v := ?v0m1_) ?h0m1_ (by decide) (by kernel_rfl) (by kernel_rfl) ?f0m1_ ?r0m1_ (fun _ _ _ h => h) (Or.inl ⟨?w0m1_, ?y0m1_⟩) (by assumption) ?t0m1_
    case h0m1_ => simp only [List.getElem?_toArray]; rfl
    case f0m1_ => kernel_rfl
    case r0m1_ => kernel_rfl
    case w0m1_ => rfl
    case y0m1_ => (intro u hu; (go_simp) <;> with_reducible rfl)
    try simp only [Act.put, List.setIfInBounds_toArray, List.set_cons_zero, List.set_cons_succ]
    refine wpAnyK_ahead (i := 1) (oi := ?o1m1_) (v := ?v1m1_) ?h1m1_ (by decide) (by kernel_rfl) (by kernel_rfl) ?f1m1_ ?r1m1_ (fun _ _ _ h => h) (Or.inl ⟨?w1m1_, ?y1m1_⟩) (by assumption) ?t1m1_
    case h1m1_ => simp only [List.getElem?_toArray]; rfl
    case f1m1_ => kernel_rfl
    case r1m1_ => kernel_rfl
    case w1m1_ => rfl
    case y1m1_ => (intro u hu; (have hx := xc0 u hu; go_simp) <;> with_reducible rfl)
    try simp only [Act.put, List.setIfInBounds_toArray, List.set_cons_zero, List.set_cons_succ]
    refine wpAnyK_ahead (i := 2) (oi := ?o2m1_) (v := ?v2m1_) ?h2m1_ (by decide) (by kernel_rfl) (by kernel_rfl) ?f2m1_ ?r2m1_ (fun _ _ _ h => h) (Or.inl ⟨?w2m1_, ?y2m1_⟩) (by assumption) ?t2m1_
    case h2m1_ => simp only [List.getElem?_toArray]; rfl
    case f2m1_ => kernel_rfl
    case r2m1_ => kernel_rfl
    case w2m1_ => rfl
    case y2m1_ => (intro u hu; (go_simp) <;> with_reducible rfl)
    try simp only [Act.put, List.setIfInBounds_toArray, List.set_cons_zero, List.set_cons_succ]
    refine wpAnyK_ahead (i := 3) (oi := ?o3m1_) (v := ?v3m1_) ?h3m1_ (by decide) (by kernel_rfl) (by kernel_rfl) ?f3m1_ ?r3m1_ (fun _ _ _ h => h) (Or.inl ⟨?w3m1_, ?y3m1_⟩) (by assumption) ?t3m1_
    case h3m1_ => simp only [List.getElem?_toArray]; rfl
    case f3m1_ => kernel_rfl
    case r3m1_ => kernel_rfl
    case w3m1_ => rfl
    case y3m1_ => (intro u hu; (have hx := xc1 u hu; go_simp) <;> with_reducible rfl)
    try simp only [Act.put, List.setIfInBounds_toArray, List.set_cons_zero, List.set_cons_succ]
    refine wpAnyK_ahead (i := 4) (oi := ?o4m1_) (v := ?v4m1_) ?h4m1_ (by decide) (by kernel_rfl) (by kernel_rfl) ?f4m1_ ?r4m1_ (fun _ _ _ h => h) (Or.inl ⟨?w4m1_, ?y4m1_⟩) (by assumption) ?t4m1_
    case h4m1_ => simp only [List.getElem?_toArray]; rfl
    case f4m1_ => kernel_rfl
    case r4m1_ => kernel_rfl
    case w4m1_ => rfl
    case y4m1_ => (intro u hu; (go_simp) <;> with_reducible rfl)
    try simp only [Act.put, List.setIfInBounds_toArray, List.set_cons_zero, List.set_cons_succ]
    refine wpAnyK_ahead (i := 5) (oi := ?o5m1_) (v := ?v5m1_) ?h5m1_ (by decide) (by kernel_rfl) (by kernel_rfl) ?f5m1_ ?r5m1_ (fun _ _ _ h => h) (Or.inl ⟨?w5m1_, ?y5m1_⟩) (by assumption) ?t5m1_
    case h5m1_ => simp only [List.getElem?_toArray]; rfl
    case f5m1_ => kernel_rfl
    case r5m1_ => kernel_rfl
    case w5m1_ => rfl
    case y5m1_ => (intro u hu; (have hx := xc2 u hu; go_simp) <;> with_reducible rfl)
    try simp only [Act.put, List.setIfInBounds_toArray, List.set_cons_zero, List.set_cons_succ]
    refine wpAnyK_ahead (i := 6) (oi := ?o6m1_) (v := ?v6m1_) ?h6m1_ (by decide) (by kernel_rfl) (by kernel_rfl) ?f6m1_ ?r6m1_ (fun _ _ _ h => h) (Or.inl ⟨?w6m1_, ?y6m1_⟩) (by assumption) ?t6m1_
    case h6m1_ => simp only [List.getElem?_toArray]; rfl
    case f6m1_ => kernel_rfl
    case r6m1_ => kernel_rfl
    case w6m1_ => rfl
    case y6m1_ => (intro u hu; (go_simp) <;> with_reducible rfl)
    try simp only [Act.put, List.setIfInBounds_toArray, List.set_cons_zero, List.set_cons_succ]
    refine wpAnyK_ahead (i := 7) (oi := ?o7m1_) (v := ?v7m1_) ?h7m1_ (by decide) (by kernel_rfl) (by kernel_rfl) ?f7m1_ ?r7m1_ (fun _ _ _ h => h) (Or.inl ⟨?w7m1_, ?y7m1_⟩) (by assumption) ?t7m1_
    case h7m1_ => simp only [List.getElem?_toArray]; rfl
    case f7m1_ => kernel_rfl
    case r7m1_ => kernel_rfl
    case w7m1_ => rfl
    case y7m1_ => (intro u hu; (have hx := xc3 u hu; go_simp) <;> with_reducible rfl)
    try simp only [Act.put, List.setIfInBounds_toArray, List.set_cons_zero, List.set_cons_succ]
    refine wpAnyK_ahead (i := 8) (oi := ?o8m1_) (v := ?v8m1_) ?h8m1_ (by decide) (by kernel_rfl) (by kernel_rfl) ?f8m1_ ?r8m1_ (fun _ _ _ h => h) (Or.inl ⟨?w8m1_, ?y8m1_⟩) (by assumption) ?t8m1_
    case h8m1_ => simp only [List.getElem?_toArray]; rfl
    case f8m1_ => kernel_rfl
    case r8m1_ => kernel_rfl
    case w8m1_ => rfl
    case y8m1_ => (intro u hu; (go_simp) <;> with_reducible rfl)
    try simp only [Act.put, List.setIfInBounds_toArray, List.set_cons_zero, List.set_cons_succ]
    refine wpAnyK_ahead (i := 9) (oi := ?o9m1_) (v := ?v9m1_) ?h9m1_ (by decide) (by kernel_rfl) (by kernel_rfl) ?f9m1_ ?r9m1_ (fun _ _ _ h => h) (Or.inl ⟨?w9m1_, ?y9m1_⟩) (by assumption) ?t9m1_
    case h9m1_ => simp only [List.getElem?_toArray]; rfl
    case f9m1_ => kernel_rfl
    case r9m1_ => kernel_rfl
    case w9m1_ => rfl
    case y9m1_ => (intro u hu; (have hx := xt0 u hu; go_simp) <;> with_reducible rfl)
    try simp only [Act.put, List.setIfInBounds_toArray, List.set_cons_zero, List.set_cons_succ]
    refine wpAnyK_ahead (i := 10) (oi := ?o10m1_) (v := ?v10m1_) ?h10m1_ (by decide) (by kernel_rfl) (by kernel_rfl) ?f10m1_ ?r10m1_ (fun _ _ _ h => h) (Or.inl ⟨?w10m1_, ?y10m1_⟩) (by assumption) ?t10m1_
    case h10m1_ => simp only [List.getElem?_toArray]; rfl
    case f10m1_ => kernel_rfl
    case r10m1_ => kernel_rfl
    case w10m1_ => rfl
    case y10m1_ => (intro u hu; (go_simp) <;> with_reducible rfl)
    try simp only [Act.put, List.setIfInBounds_toArray, List.set_cons_zero, List.set_cons_succ]
    refine wpAnyK_ahead (i := 11) (oi := ?o11m1_) (v := ?v11m1_) ?h11m1_ (by decide) (by kernel_rfl) (by kernel_rfl) ?f11m1_ ?r11m1_ (fun _ _ _ h => h) (Or.inl ⟨?w11m1_, ?y11m1_⟩) (by assumption) ?t11m1_
    case h11m1_ => simp only [List.getElem?_toArray]; rfl
    case f11m1_ => kernel_rfl
    case r11m1_ => kernel_rfl
    case w11m1_ => rfl
    case y11m1_ => (intro u hu; (have hx := xd0 u hu; go_simp) <;> with_reducible rfl)
    try simp only [Act.put, List.setIfInBounds_toArray, List.set_cons_zero, List.set_cons_succ]
    refine wpAnyK_ahead (i := 12) (oi := ?o12m1_) (v := ?v12m1_) ?h12m1_ (by decide) (by kernel_rfl) (by kernel_rfl) ?f12m1_ ?r12m1_ (fun _ _ _ h => h) (Or.inl ⟨?w12m1_, ?y12m1_⟩) (by assumption) ?t12m1_
    case h12m1_ => simp only [List.getElem?_toArray]; rfl
    case f12m1_ => kernel_rfl
    case r12m1_ => kernel_rfl
    case w12m1_ => rfl
    case y12m1_ => (intro u hu; (go_simp) <;> with_reducible rfl)
    try simp only [Act.put, List.setIfInBounds_toArray, List.set_cons_zero, List.set_cons_succ]
    refine wpAnyK_ahead (i := 13) (oi := ?o13m1_) (v := ?v13m1_) ?h13m1_ (by decide) (by kernel_rfl) (by kernel_rfl) ?f13m1_ ?r13m1_ (fun _ _ _ h => h) (Or.inl ⟨?w13m1_, ?y13m1_⟩) (by assumption) ?t13m1_
    case h13m1_ => simp only [List.getElem?_toArray]; rfl
    case f13m1_ => kernel_rfl
    case r13m1_ => kernel_rfl
    case w13m1_ => rfl
    case y13m1_ => (intro u hu; (have hx := xt1 u hu; go_simp) <;> with_reducible rfl)
    try simp only [Act.put, List.setIfInBounds_toArray, List.set_cons_zero, List.set_cons_succ]
    refine wpAnyK_ahead (i := 14) (oi := ?o14m1_) (v := ?v14m1_) ?h14m1_ (by decide) (by kernel_rfl) (by kernel_rfl) ?f14m1_ ?r14m1_ (fun _ _ _ h => h) (Or.inl ⟨?w14m1_, ?y14m1_⟩) (by assumption) ?t14m1_
    case h14m1_ => simp only [List.getElem?_toArray]; rfl
    case f14m1_ => kernel_rfl
    case r14m1_ => kernel_rfl
    case w14m1_ => rfl
    case y14m1_ => (intro u hu; (go_simp) <;> with_reducible rfl)
    try simp only [Act.put, List.setIfInBounds_toArray, List.set_cons_zero, List.set_cons_succ]
    refine wpAnyK_ahead (i := 15) (oi := ?o15m1_) (v := ?v15m1_) ?h15m1_ (by decide) (by kernel_rfl) (by kernel_rfl) ?f15m1_ ?r15m1_ (fun _ _ _ h => h) (Or.inl ⟨?w15m1_, ?y15m1_⟩) (by assumption) ?t15m1_
    case h15m1_ => simp only [List.getElem?_toArray]; rfl
    case f15m1_ => kernel_rfl
    case r15m1_ => kernel_rfl
    case w15m1_ => rfl
    case y15m1_ => (intro u hu; (have hx := xd1 u hu; go_simp) <;> with_reducible rfl)
    try simp only [Act.put, List.setIfInBounds_toArray, List.set_cons_zero, List.set_cons_succ]
    clear xc0 xc1 xc2 xc3 xt0 xt1 xd0 xd1
    refine wpAnyK_one (i := 16) (o := ?o16m1_) ?h16m1_ (by decide) (by kernel_rfl) (fun K hK => ?_)
    case h16m1_ => simp only [List.getElem?_toArray]; rfl
    go_simp
    refine (quarter7_c x0 x1 x2 x3 y0 y1 r0 r1 r2 r3 ry0 ry1 _).mono ?_
    rintro e V ⟨p, q, r, t, rfl, HQ, -, -, -, -, hb⟩
    refine hK.out _ _ (hH.trans hb) (fun hH' => ?_)
    clear hK K hH
    have hH := hH'
    clear hH'
    try simp only [List.setIfInBounds_toArray, List.set]
    refine wpAnyK_ahead (i := 17) (oi := ?o17m1_) (v := ?v17m1_) ?h17m1_ (by decide) (by kernel_rfl) (by kernel_rfl) ?f17m1_ ?r17m1_ (fun _ _ _ h => h) (Or.inl ⟨?w17m1_, ?y17m1_⟩) (by assumption) ?t17m1_
    case h17m1_ => simp only [List.getElem?_toArray]; rfl
    case f17m1_ => kernel_rfl
    case r17m1_ => kernel_rfl
    case w17m1_ => rfl
    case y17m1_ => (intro u hu; (go_simp) <;> with_reducible rfl)
    try simp only [Act.put, List.setIfInBounds_toArray, List.set_cons_zero, List.set_cons_succ]
    refine wpAnyK_ahead (i := 18) (oi := ?o18m1_) (v := ?v18m1_) ?h18m1_ (by decide) (by kernel_rfl) (by kernel_rfl) ?f18m1_ ?r18m1_ (fun _ _ _ h => h) (Or.inl ⟨?w18m1_, ?y18m1_⟩) (by assumption) ?t18m1_
    case h18m1_ => simp only [List.getElem?_toArray]; rfl
    case f18m1_ => kernel_rfl
    case r18m1_ => kernel_rfl
    case w18m1_ => rfl
    case y18m1_ => (intro u hu; (go_simp) <;> with_reducible rfl)
    try simp only [Act.put, List.setIfInBounds_toArray, List.set_cons_zero, List.set_cons_succ]
    refine wpAnyK_take (i := 19) (oi := ?o19m1_) (v := ?v19m1_) ?h19m1_ (by decide) (by kernel_rfl) ?f19m1_ ?r19m1_ (fun _ _ _ h => h) (fun _ h => h.extB _) (Or.inl ⟨?w19m1_, ?y19m1_⟩) (by assumption) ?t19m1_
    case h19m1_ => simp only [List.getElem?_toArray]; rfl
    case f19m1_ => kernel_rfl
    case r19m1_ => kernel_rfl
    case w19m1_ => rfl
    case y19m1_ => (intro u hu; (go_simp) <;> with_reducible rfl)
    try simp only [Act.put, List.setIfInBounds_toArray, List.set_cons_zero, List.set_cons_succ]
    refine wpAnyK_take (i := 20) (oi := ?o20m1_) (v := ?v20m1_) ?h20m1_ (by decide) (by kernel_rfl) ?f20m1_ ?r20m1_ (fun _ _ _ h => h) (fun _ h => h.extB _) (Or.inl ⟨?w20m1_, ?y20m1_⟩) (by assumption) ?t20m1_
    case h20m1_ => simp only [List.getElem?_toArray]; rfl
    case f20m1_ => kernel_rfl
    case r20m1_ => kernel_rfl
    case w20m1_ => rfl
    case y20m1_ => (intro u hu; (go_simp) <;> with_reducible rfl)
    try simp only [Act.put, List.setIfInBounds_toArray, List.set_cons_zero, List.set_cons_succ]
    refine wpAnyK_take (i := 21) (oi := ?o21m1_) (v := ?v21m1_) ?h21m1_ (by decide) (by kernel_rfl) ?f21m1_ ?r21m1_ (fun _ _ _ h => h) (fun _ h => h.extB _) (Or.inl ⟨?w21m1_, ?y21m1_⟩) (by assumption) ?t21m1_
    case h21m1_ => simp only [List.getElem?_toArray]; rfl
    case f21m1_ => kernel_rfl
    case r21m1_ => kernel_rfl
    case w21m1_ => rfl
    case y21m1_ => (intro u hu; (go_simp) <;> with_reducible rfl)
    try simp only [Act.put, List.setIfInBounds_toArray, List.set_cons_zero, List.set_cons_succ]
    refine wpAnyK_ahead (i := 22) (oi := ?o22m1_) (v := ?v22m1_) ?h22m1_ (by decide) (by kernel_rfl) (by kernel_rfl) ?f22m1_ ?r22m1_ (fun _ _ _ h => h) (Or.inl ⟨?w22m1_, ?y22m1_⟩) (by assumption) ?t22m1_
    case h22m1_ => simp only [List.getElem?_toArray]; rfl
    case f22m1_ => kernel_rfl
    case r22m1_ => kernel_rfl
    case w22m1_ => rfl
    case y22m1_ => (intro u hu; (go_simp) <;> with_reducible rfl)
    try simp only [Act.put, List.setIfInBounds_toArray, List.set_cons_zero, List.set_cons_succ]
    replace HM := HM.out.later hH
    replace c0 := cell_later hH c0
    replace f0 := froz_later hH hlt f0
    replace c1 := cell_later hH c1
    replace f1 := froz_later hH hlt f1
    replace c2 := cell_later hH c2
    replace f2 := froz_later hH hlt f2
    replace c3 := cell_later hH c3
    replace f3 := froz_later hH hlt f3
    clear hb
    refine wpAnyK_last (k := 23) (o := ?o23m1_) ?h23m1_ (by kernel_rfl) (fun K hK => ?_)
    case h23m1_ => simp only [List.getElem?_toArray]; rfl
    go_simp
    refine hK.out _ _ ((hH.extB _).set 1 _) (fun hH' => ?_)
    clear hK K hH
    have hH := hH'
    clear hH'
    try simp only [List.setIfInBounds_toArray, List.set]
    refine wpAnyH_take (i := 24) (oi := ?o24m1_) (v := ?v24m1_) ?h24m1_ (by kernel_rfl) ?f24m1_ ?r24m1_ (fun _ _ _ h => h) (Or.inl ⟨?w24m1_, ?y24m1_⟩) (by assumption) ?t24m1_
    case h24m1_ => simp only [List.getElem?_toArray]; rfl
    case f24m1_ => kernel_rfl
    case r24m1_ => kernel_rfl
    case w24m1_ => rfl
    case y24m1_ => (intro u hu; (go_simp) <;> with_reducible rfl)
    try simp only [Act.put, List.setIfInBounds_toArray, List.set_cons_zero, List.set_cons_succ]
    refine wpAnyH_ready (rs := [25]) (by kernel_rfl) (by simp) ?_
    refine AllReadyH.cons (o := ?o25m1_) ?h25m1_ (fun K hK => ?_) AllReadyH.nil
    case h25m1_ => simp only [List.getElem?_toArray]; rfl
    go_simp
    refine hK.out _ _ (hH.set 5 _) (fun hH' => ?_)
    clear hK K hH
    have hH := hH'
    clear hH'
    try simp only [List.setIfInBounds_toArray, List.set]
    refine wpAnyH_take (i := 26) (oi := ?o26m1_) (v := ?v26m1_) ?h26m1_ (by kernel_rfl) ?f26m1_ ?r26m1_ (fun _ _ _ h => h) (Or.inl ⟨?w26m1_, ?y26m1_⟩) (by assumption) ?t26m1_
    case h26m1_ => simp only [List.getElem?_toArray]; rfl
    case f26m1_ => kernel_rfl
    case r26m1_ => kernel_rfl
    case w26m1_ => rfl
    case y26m1_ => (intro u hu; (go_simp) <;> with_reducible rfl)
    try simp only [Act.put, List.setIfInBounds_toArray, List.set_cons_zero, List.set_cons_succ]
    refine wpAnyH_ready (rs := [27]) (by kernel_rfl) (by simp) ?_
    refine AllReadyH.cons (o := ?o27m1_) ?h27m1_ (fun K hK => ?_) AllReadyH.nil
    case h27m1_ => simp only [List.getElem?_toArray]; rfl
    go_simp
    refine hK.out _ _ (hH.set 9 _) (fun hH' => ?_)
    clear hK K hH
    have hH := hH'
    clear hH'
    try simp only [List.setIfInBounds_toArray, List.set]
    refine wpAnyH_take (i := 28) (oi := ?o28m1_) (v := ?v28m1_) ?h28m1_ (by kernel_rfl) ?f28m1_ ?r28m1_ (fun _ _ _ h => h) (Or.inl ⟨?w28m1_, ?y28m1_⟩) (by assumption) ?t28m1_
    case h28m1_ => simp only [List.getElem?_toArray]; rfl
    case f28m1_ => kernel_rfl
    case r28m1_ => kernel_rfl
    case w28m1_ => rfl
    case y28m1_ => (intro u hu; (go_simp) <;> with_reducible rfl)
    try simp only [Act.put, List.setIfInBounds_toArray, List.set_cons_zero, List.set_cons_succ]
    refine wpAnyH_ready (rs := [29]) (by kernel_rfl) (by simp) ?_
    refine AllReadyH.cons (o := ?o29m1_) ?h29m1_ (fun K hK => ?_) AllReadyH.nil
    case h29m1_ => simp only [List.getElem?_toArray]; rfl
    go_simp
    refine hK.out _ _ (hH.set 13 _) (fun hH' => ?_)
    clear hK K hH
    have hH := hH'
    clear hH'
    try simp only [List.setIfInBounds_toArray, List.set]
    refine wpAnyH_done (by kernel_rfl) ?_ _
    refine NoPanic.normal ?_
    have HM' := HM.mixed k1 k2 k3 1 5 9 13 (by decide) (by decide) (by decide) (by decide) HX0.out HX1.out HX2.out HX3.out HQ.out
    go_wp2_with fail
    go_meet
    case rel => exact ⟨bg7 L1 1 5 9 13 y0 y1, by unfold Hid; rw [HY0.out, HY1.out, HN0.out, HN1.out, HL.out]; rfl, bg7_w HW.out _ _ _ _ _ _, HM'⟩
  case rest =>
  obtain ⟨L2, HL, HW, HM⟩ := hcut
  refine (‹∀ (a : Act) (w : World), Code.wp Tryd.prog _ _ a w → _› _ _ ?_)
  refine cast_code (c := bodyAt 3 Tryd.f60.body) (by kernel_rfl) ?_
  exact mixed_t2 L M s HWM HSO w q1 q2 q3 k1 k2 k3 wc L2 HL HW HM u7 u8 u9 u10 u11 u12 u13 u14 u15 u16 u17 u18 u19 u20 u21 u22 u23 u24 u25 u26 u27 u28 u29 u30 u31 u32 u33 u34 u35 u36 u37 u38 u39 u40 u41 u42 u43 u44 u45 u46 u47 u48 u49 u50 u51 u52 u53 u54 u55 u56 u57 u58 u59 u60 u61 u62 u63 u64 u65 u66 u67 u68 u69 u70 u71 u72 u73 u74 u75 u76 u77 u78 u79 u80 u81 u82 u83 u84 u85 u86 u87 u88 u89 u90 u91 u92 u93 u94 u95 u96 u97 u98 u99 u100 u101 u102 u103 u104 u105 u106 u107 u108 u109 u110 u111 u112 u113 u114 u115 u116 u117 u118 u119 u120 u121 u122 u123 u124 u125 u126 u127 u128 u129 u130 u131 u132 u133 u134 u135 u136 u137 u138 u139 u140 u141 u142 u143 u144 u145 u146 u147 u148 u149 u150 u151 u152 u153 u154 u155 u156 u157 u158 u159 u160 u161 u162 u163 u164 u165 u166 u167 u168 u169 u170 u171 u172 u173 u174 u175 u176 u177 u178 u179 u180 u181 u182 u183 u184 u185 u186 u187 u188 u189 u190 u191 u192 u193 u194 u195 u196 u197 u198 u199 u200 u201 u202 u203 u204 u205 u206 u207 u208 u209 u210 u211 u212 u213 u214 u215
end Go.Proofs.YtmibjgkakolhiaaDoor
