/-
  Stretches of the last statement of FieldLaws, each from whatever frame. No statement of the seat is proved here.
-/
import Derived.Test.YtgnfbnjhmiggbaaLLawsOps
namespace Go.Proofs.Ytgnfbnjhmiggbaa
open Go.RowKit

set_option maxRecDepth 20000 in
set_option maxHeartbeats 4000000 in
theorem laws_s0 (W : World) (x y z v : Int) (hx : El x) (hy : El y) (_hz : El z) (_hv : El v) (b11 b12 b13 b14 : Nat) (V11 : Hid (Var W b11 x)) (V12 : Hid (Var W b12 y)) (_V13 : Hid (Var W b13 z)) (_V14 : Hid (Var W b14 v))
    (u0 u1 u2 u3 u4 u5 u6 u7 u8 u9 u10 u15 u16 u17 u18 u19 u20 u21 u22 u23 u24 u25 u26 u27 u28 u29 u30 u31 u32 u33 u34 u35 u36 u37 u38 u39 u40 u41 u42 u43 u44 u45 u46 u47 u48 u49 u50 u51 u52 u53 u54 u55 u56 u57 u58 u59 u60 u61 u62 u63 u64 u65 u66 u67 u68 u69 u70 u71 u72 u73 u74 u75 u76 u77 u78 u79 u80 u81 u82 u83 u84 u85 u86 u87 u88 u89 u90 u91 u92 u93 u94 u95 u96 u97 u98 u99 u100 u101 u102 u103 u104 u105 u106 u107 u108 u109 u110 u111 u112 u113 u114 u115 u116 u117 u118 u119 u120 u121 u122 u123 u124 u125 u126 u127 u128 u129 u130 u131 u132 : Value) (Q : Exit → Act → World → Prop) (w0 : World) (hH : Ext W w0)
    (H : ∀ (r33 r34 r35 r36 r37 r38 r39 r40 r41 r42 : Value) (w1 : World), Ext W w1 → wpAnyH Try.prog .any ops6 (NoPanic Q) (Ext W) 90 #[true, true, true, true, true, true, true, true, true, true, true, false, false, false, false, false, false, false, false, false, false, false, false, false, false, false, false, false, false, false, false, false, false, false, false, false, false, false, false, false, false, false, false, false, false, false, false, false, false, false, false, false, false, false, false, false, false, false, false, false, false, false, false, false, false, false, false, false, false, false, false, false, false, false, false, false, false, false, false, false, false, false, false, false, false, false, false, false, false, false, false, false, false, false, false, false, false, false, false, false, false] ⟨#[u0, u1, u2, u3, u4, u5, u6, u7, u8, u9, u10, .pointer (some ⟨b11, 0, none⟩), .pointer (some ⟨b12, 0, none⟩), .pointer (some ⟨b13, 0, none⟩), .pointer (some ⟨b14, 0, none⟩), u15, u16, u17, u18, u19, u20, u21, u22, u23, u24, u25, u26, u27, u28, u29, u30, u31, u32, r33, r34, r35, r36, r37, r38, r39, r40, r41, r42, .bool true, u44, u45, u46, u47, u48, u49, u50, u51, u52, u53, u54, u55, u56, u57, u58, u59, u60, u61, u62, u63, u64, u65, u66, u67, u68, u69, u70, u71, u72, u73, u74, u75, u76, u77, u78, u79, u80, u81, u82, u83, u84, u85, u86, u87, u88, u89, u90, u91, u92, u93, u94, u95, u96, u97, u98, u99, u100, u101, u102, u103, u104, u105, u106, u107, u108, u109, u110, u111, u112, u113, u114, u115, u116, u117, u118, u119, u120, u121, u122, u123, u124, u125, u126, u127, u128, u129, u130, u131, u132], []⟩ w1) :
    wpAnyH Try.prog .any ops6 (NoPanic Q) (Ext W) 101 #[false, false, false, false, false, false, false, false, false, false, false, false, false, false, false, false, false, false, false, false, false, false, false, false, false, false, false, false, false, false, false, false, false, false, false, false, false, false, false, false, false, false, false, false, false, false, false, false, false, false, false, false, false, false, false, false, false, false, false, false, false, false, false, false, false, false, false, false, false, false, false, false, false, false, false, false, false, false, false, false, false, false, false, false, false, false, false, false, false, false, false, false, false, false, false, false, false, false, false, false, false] ⟨#[u0, u1, u2, u3, u4, u5, u6, u7, u8, u9, u10, .pointer (some ⟨b11, 0, none⟩), .pointer (some ⟨b12, 0, none⟩), .pointer (some ⟨b13, 0, none⟩), .pointer (some ⟨b14, 0, none⟩), u15, u16, u17, u18, u19, u20, u21, u22, u23, u24, u25, u26, u27, u28, u29, u30, u31, u32, u33, u34, u35, u36, u37, u38, u39, u40, u41, u42, u43, u44, u45, u46, u47, u48, u49, u50, u51, u52, u53, u54, u55, u56, u57, u58, u59, u60, u61, u62, u63, u64, u65, u66, u67, u68, u69, u70, u71, u72, u73, u74, u75, u76, u77, u78, u79, u80, u81, u82, u83, u84, u85, u86, u87, u88, u89, u90, u91, u92, u93, u94, u95, u96, u97, u98, u99, u100, u101, u102, u103, u104, u105, u106, u107, u108, u109, u110, u111, u112, u113, u114, u115, u116, u117, u118, u119, u120, u121, u122, u123, u124, u125, u126, u127, u128, u129, u130, u131, u132], []⟩ w0 := by
  obtain ⟨V11c0, V11c1, V11c2, V11c3⟩ := V11.out
  have V11u0 : ∀ u, Ext W u → u.cell? ⟨b11, 0, none⟩ = some (.int .u64 (e0 x)) := fun u hu => hu.cell V11c0
  have V11u1 : ∀ u, Ext W u → u.cell? ⟨b11, 1, none⟩ = some (.int .u64 (e1 x)) := fun u hu => hu.cell V11c1
  have V11u2 : ∀ u, Ext W u → u.cell? ⟨b11, 2, none⟩ = some (.int .u64 (e2 x)) := fun u hu => hu.cell V11c2
  have V11u3 : ∀ u, Ext W u → u.cell? ⟨b11, 3, none⟩ = some (.int .u64 (e3 x)) := fun u hu => hu.cell V11c3
  clear V11c0 V11c1 V11c2 V11c3
  obtain ⟨V12c0, V12c1, V12c2, V12c3⟩ := V12.out
  have V12u0 : ∀ u, Ext W u → u.cell? ⟨b12, 0, none⟩ = some (.int .u64 (e0 y)) := fun u hu => hu.cell V12c0
  have V12u1 : ∀ u, Ext W u → u.cell? ⟨b12, 1, none⟩ = some (.int .u64 (e1 y)) := fun u hu => hu.cell V12c1
  have V12u2 : ∀ u, Ext W u → u.cell? ⟨b12, 2, none⟩ = some (.int .u64 (e2 y)) := fun u hu => hu.cell V12c2
  have V12u3 : ∀ u, Ext W u → u.cell? ⟨b12, 3, none⟩ = some (.int .u64 (e3 y)) := fun u hu => hu.cell V12c3
  clear V12c0 V12c1 V12c2 V12c3
  unfold ops6
  refine wpAnyH_ready (rs := [0]) (by kernel_rfl) (by simp) ?_
  refine AllReadyH.cons (o := ?o0s0) ?h0s0 (fun K hK => ?_) AllReadyH.nil
  case h0s0 => simp only [List.getElem?_toArray]; rfl
  go_simp
  refine (known_any _).mono ?_
  rintro e c0 ⟨rfl, hb0⟩
  refine hK.out _ _ (hH.trans hb0) (fun hH' => ?_)
  clear hK K hH
  have hH := hH'
  clear hH'
  try simp only [List.setIfInBounds_toArray, List.set]
  clear hb0
  refine wpAnyH_take (i := 1) (oi := ?o1s0) (v := ?v1s0) ?h1s0 (by kernel_rfl) ?f1s0 ?r1s0 (fun _ _ _ h => h) (Or.inl ⟨?w1s0, ?y1s0⟩) (by assumption) ?t1s0
  case h1s0 => simp only [List.getElem?_toArray]; rfl
  case f1s0 => kernel_rfl
  case r1s0 => kernel_rfl
  case w1s0 => rfl
  case y1s0 => (intro u hu; (go_simp) <;> with_reducible rfl)
  try simp only [Act.put, List.setIfInBounds_toArray, List.set_cons_zero, List.set_cons_succ]
  refine wpAnyH_take (i := 2) (oi := ?o2s0) (v := ?v2s0) ?h2s0 (by kernel_rfl) ?f2s0 ?r2s0 (fun _ _ _ h => h) (Or.inl ⟨?w2s0, ?y2s0⟩) (by assumption) ?t2s0
  case h2s0 => simp only [List.getElem?_toArray]; rfl
  case f2s0 => kernel_rfl
  case r2s0 => kernel_rfl
  case w2s0 => rfl
  case y2s0 => (intro u hu; (go_simp) <;> with_reducible rfl)
  try simp only [Act.put, List.setIfInBounds_toArray, List.set_cons_zero, List.set_cons_succ]
  refine wpAnyH_take (i := 3) (oi := ?o3s0) (v := ?v3s0) ?h3s0 (by kernel_rfl) ?f3s0 ?r3s0 (fun _ _ _ h => h) (Or.inl ⟨?w3s0, ?y3s0⟩) (by assumption) ?t3s0
  case h3s0 => simp only [List.getElem?_toArray]; rfl
  case f3s0 => kernel_rfl
  case r3s0 => kernel_rfl
  case w3s0 => rfl
  case y3s0 => (intro u hu; (go_simp) <;> with_reducible rfl)
  try simp only [Act.put, List.setIfInBounds_toArray, List.set_cons_zero, List.set_cons_succ]
  refine wpAnyH_take (i := 5) (oi := ?o5s0) (v := ?v5s0) ?h5s0 (by kernel_rfl) ?f5s0 ?r5s0 (fun _ _ _ h => h) (Or.inl ⟨?w5s0, ?y5s0⟩) (by assumption) ?t5s0
  case h5s0 => simp only [List.getElem?_toArray]; rfl
  case f5s0 => kernel_rfl
  case r5s0 => kernel_rfl
  case w5s0 => rfl
  case y5s0 => (intro u hu; (go_simp) <;> with_reducible rfl)
  try simp only [Act.put, List.setIfInBounds_toArray, List.set_cons_zero, List.set_cons_succ]
  refine wpAnyH_take (i := 6) (oi := ?o6s0) (v := ?v6s0) ?h6s0 (by kernel_rfl) ?f6s0 ?r6s0 (fun _ _ _ h => h) (Or.inl ⟨?w6s0, ?y6s0⟩) (by assumption) ?t6s0
  case h6s0 => simp only [List.getElem?_toArray]; rfl
  case f6s0 => kernel_rfl
  case r6s0 => kernel_rfl
  case w6s0 => rfl
  case y6s0 => (intro u hu; (go_simp) <;> with_reducible rfl)
  try simp only [Act.put, List.setIfInBounds_toArray, List.set_cons_zero, List.set_cons_succ]
  refine wpAnyH_ready (rs := [4]) (by kernel_rfl) (by simp) ?_
  refine AllReadyH.cons (o := ?o4s0) ?h4s0 (fun K hK => ?_) AllReadyH.nil
  case h4s0 => simp only [List.getElem?_toArray]; rfl
  go_simp
  refine (add_e x y hx hy _).mono ?_
  rintro e c4 ⟨z37, rfl, hz37, Hz37, hb4⟩
  refine hK.out _ _ (hH.trans hb4) (fun hH' => ?_)
  clear hK K hH
  have hH := hH'
  clear hH'
  try simp only [List.setIfInBounds_toArray, List.set]
  clear hb4
  refine wpAnyH_ready (rs := [7]) (by kernel_rfl) (by simp) ?_
  refine AllReadyH.cons (o := ?o7s0) ?h7s0 (fun K hK => ?_) AllReadyH.nil
  case h7s0 => simp only [List.getElem?_toArray]; rfl
  go_simp
  refine (add_e y x hy hx _).mono ?_
  rintro e c7 ⟨z40, rfl, hz40, Hz40, hb7⟩
  refine hK.out _ _ (hH.trans hb7) (fun hH' => ?_)
  clear hK K hH
  have hH := hH'
  clear hH'
  try simp only [List.setIfInBounds_toArray, List.set]
  clear hb7
  refine wpAnyH_ready (rs := [8]) (by kernel_rfl) (by simp) ?_
  refine AllReadyH.cons (o := ?o8s0) ?h8s0 (fun K hK => ?_) AllReadyH.nil
  case h8s0 => simp only [List.getElem?_toArray]; rfl
  go_simp
  refine (equal_e z37 z40 hz37 hz40 _).mono ?_
  rintro e c8 ⟨rfl, hb8⟩
  rw [show same z37 z40 = true from same_t (by rw [Hz37.out, Hz40.out, Int.add_comm])]
  refine hK.out _ _ (hH.trans hb8) (fun hH' => ?_)
  clear hK K hH
  have hH := hH'
  clear hH'
  try simp only [List.setIfInBounds_toArray, List.set]
  clear hb8
  refine wpAnyH_take (i := 9) (oi := ?o9s0) (v := ?v9s0) ?h9s0 (by kernel_rfl) ?f9s0 ?r9s0 (fun _ _ _ h => h) (Or.inl ⟨?w9s0, ?y9s0⟩) (by assumption) ?t9s0
  case h9s0 => simp only [List.getElem?_toArray]; rfl
  case f9s0 => kernel_rfl
  case r9s0 => kernel_rfl
  case w9s0 => rfl
  case y9s0 => (intro u hu; (go_simp) <;> with_reducible rfl)
  try simp only [Act.put, List.setIfInBounds_toArray, List.set_cons_zero, List.set_cons_succ]
  refine wpAnyH_take (i := 10) (oi := ?o10s0) (v := ?v10s0) ?h10s0 (by kernel_rfl) ?f10s0 ?r10s0 (fun _ _ _ h => h) (Or.inl ⟨?w10s0, ?y10s0⟩) (by assumption) ?t10s0
  case h10s0 => simp only [List.getElem?_toArray]; rfl
  case f10s0 => kernel_rfl
  case r10s0 => kernel_rfl
  case w10s0 => rfl
  case y10s0 => (intro u hu; (go_simp) <;> with_reducible rfl)
  try simp only [Act.put, List.setIfInBounds_toArray, List.set_cons_zero, List.set_cons_succ]
  exact H _ _ _ _ _ _ _ _ _ _ _ hH

set_option maxRecDepth 20000 in
set_option maxHeartbeats 4000000 in
theorem laws_s1 (W : World) (x y z v : Int) (hx : El x) (hy : El y) (_hz : El z) (_hv : El v) (b11 b12 b13 b14 : Nat) (V11 : Hid (Var W b11 x)) (V12 : Hid (Var W b12 y)) (_V13 : Hid (Var W b13 z)) (_V14 : Hid (Var W b14 v))
    (u0 u1 u2 u3 u4 u5 u6 u7 u8 u9 u10 u15 u16 u17 u18 u19 u20 u21 u22 u23 u24 u25 u26 u27 u28 u29 u30 u31 u32 u33 u34 u35 u36 u37 u38 u39 u40 u41 u42 u44 u45 u46 u47 u48 u49 u50 u51 u52 u53 u54 u55 u56 u57 u58 u59 u60 u61 u62 u63 u64 u65 u66 u67 u68 u69 u70 u71 u72 u73 u74 u75 u76 u77 u78 u79 u80 u81 u82 u83 u84 u85 u86 u87 u88 u89 u90 u91 u92 u93 u94 u95 u96 u97 u98 u99 u100 u101 u102 u103 u104 u105 u106 u107 u108 u109 u110 u111 u112 u113 u114 u115 u116 u117 u118 u119 u120 u121 u122 u123 u124 u125 u126 u127 u128 u129 u130 u131 u132 : Value) (Q : Exit → Act → World → Prop) (w0 : World) (hH : Ext W w0)
    (H : ∀ (r44 r45 r46 r47 r48 r49 r50 r51 : Value) (w1 : World), Ext W w1 → wpAnyH Try.prog .any ops6 (NoPanic Q) (Ext W) 81 #[true, true, true, true, true, true, true, true, true, true, true, true, true, true, true, true, true, true, true, true, false, false, false, false, false, false, false, false, false, false, false, false, false, false, false, false, false, false, false, false, false, false, false, false, false, false, false, false, false, false, false, false, false, false, false, false, false, false, false, false, false, false, false, false, false, false, false, false, false, false, false, false, false, false, false, false, false, false, false, false, false, false, false, false, false, false, false, false, false, false, false, false, false, false, false, false, false, false, false, false, false] ⟨#[u0, u1, u2, u3, u4, u5, u6, u7, u8, u9, u10, .pointer (some ⟨b11, 0, none⟩), .pointer (some ⟨b12, 0, none⟩), .pointer (some ⟨b13, 0, none⟩), .pointer (some ⟨b14, 0, none⟩), u15, u16, u17, u18, u19, u20, u21, u22, u23, u24, u25, u26, u27, u28, u29, u30, u31, u32, u33, u34, u35, u36, u37, u38, u39, u40, u41, u42, .bool true, r44, r45, r46, r47, r48, r49, r50, r51, .bool true, u53, u54, u55, u56, u57, u58, u59, u60, u61, u62, u63, u64, u65, u66, u67, u68, u69, u70, u71, u72, u73, u74, u75, u76, u77, u78, u79, u80, u81, u82, u83, u84, u85, u86, u87, u88, u89, u90, u91, u92, u93, u94, u95, u96, u97, u98, u99, u100, u101, u102, u103, u104, u105, u106, u107, u108, u109, u110, u111, u112, u113, u114, u115, u116, u117, u118, u119, u120, u121, u122, u123, u124, u125, u126, u127, u128, u129, u130, u131, u132], []⟩ w1) :
    wpAnyH Try.prog .any ops6 (NoPanic Q) (Ext W) 90 #[true, true, true, true, true, true, true, true, true, true, true, false, false, false, false, false, false, false, false, false, false, false, false, false, false, false, false, false, false, false, false, false, false, false, false, false, false, false, false, false, false, false, false, false, false, false, false, false, false, false, false, false, false, false, false, false, false, false, false, false, false, false, false, false, false, false, false, false, false, false, false, false, false, false, false, false, false, false, false, false, false, false, false, false, false, false, false, false, false, false, false, false, false, false, false, false, false, false, false, false, false] ⟨#[u0, u1, u2, u3, u4, u5, u6, u7, u8, u9, u10, .pointer (some ⟨b11, 0, none⟩), .pointer (some ⟨b12, 0, none⟩), .pointer (some ⟨b13, 0, none⟩), .pointer (some ⟨b14, 0, none⟩), u15, u16, u17, u18, u19, u20, u21, u22, u23, u24, u25, u26, u27, u28, u29, u30, u31, u32, u33, u34, u35, u36, u37, u38, u39, u40, u41, u42, .bool true, u44, u45, u46, u47, u48, u49, u50, u51, u52, u53, u54, u55, u56, u57, u58, u59, u60, u61, u62, u63, u64, u65, u66, u67, u68, u69, u70, u71, u72, u73, u74, u75, u76, u77, u78, u79, u80, u81, u82, u83, u84, u85, u86, u87, u88, u89, u90, u91, u92, u93, u94, u95, u96, u97, u98, u99, u100, u101, u102, u103, u104, u105, u106, u107, u108, u109, u110, u111, u112, u113, u114, u115, u116, u117, u118, u119, u120, u121, u122, u123, u124, u125, u126, u127, u128, u129, u130, u131, u132], []⟩ w0 := by
  obtain ⟨V11c0, V11c1, V11c2, V11c3⟩ := V11.out
  have V11u0 : ∀ u, Ext W u → u.cell? ⟨b11, 0, none⟩ = some (.int .u64 (e0 x)) := fun u hu => hu.cell V11c0
  have V11u1 : ∀ u, Ext W u → u.cell? ⟨b11, 1, none⟩ = some (.int .u64 (e1 x)) := fun u hu => hu.cell V11c1
  have V11u2 : ∀ u, Ext W u → u.cell? ⟨b11, 2, none⟩ = some (.int .u64 (e2 x)) := fun u hu => hu.cell V11c2
  have V11u3 : ∀ u, Ext W u → u.cell? ⟨b11, 3, none⟩ = some (.int .u64 (e3 x)) := fun u hu => hu.cell V11c3
  clear V11c0 V11c1 V11c2 V11c3
  obtain ⟨V12c0, V12c1, V12c2, V12c3⟩ := V12.out
  have V12u0 : ∀ u, Ext W u → u.cell? ⟨b12, 0, none⟩ = some (.int .u64 (e0 y)) := fun u hu => hu.cell V12c0
  have V12u1 : ∀ u, Ext W u → u.cell? ⟨b12, 1, none⟩ = some (.int .u64 (e1 y)) := fun u hu => hu.cell V12c1
  have V12u2 : ∀ u, Ext W u → u.cell? ⟨b12, 2, none⟩ = some (.int .u64 (e2 y)) := fun u hu => hu.cell V12c2
  have V12u3 : ∀ u, Ext W u → u.cell? ⟨b12, 3, none⟩ = some (.int .u64 (e3 y)) := fun u hu => hu.cell V12c3
  clear V12c0 V12c1 V12c2 V12c3
  unfold ops6
  refine wpAnyH_take (i := 11) (oi := ?o11s1) (v := ?v11s1) ?h11s1 (by kernel_rfl) ?f11s1 ?r11s1 (fun _ _ _ h => h) (Or.inl ⟨?w11s1, ?y11s1⟩) (by assumption) ?t11s1
  case h11s1 => simp only [List.getElem?_toArray]; rfl
  case f11s1 => kernel_rfl
  case r11s1 => kernel_rfl
  case w11s1 => rfl
  case y11s1 => (intro u hu; (go_simp) <;> with_reducible rfl)
  try simp only [Act.put, List.setIfInBounds_toArray, List.set_cons_zero, List.set_cons_succ]
  refine wpAnyH_take (i := 12) (oi := ?o12s1) (v := ?v12s1) ?h12s1 (by kernel_rfl) ?f12s1 ?r12s1 (fun _ _ _ h => h) (Or.inl ⟨?w12s1, ?y12s1⟩) (by assumption) ?t12s1
  case h12s1 => simp only [List.getElem?_toArray]; rfl
  case f12s1 => kernel_rfl
  case r12s1 => kernel_rfl
  case w12s1 => rfl
  case y12s1 => (intro u hu; (go_simp) <;> with_reducible rfl)
  try simp only [Act.put, List.setIfInBounds_toArray, List.set_cons_zero, List.set_cons_succ]
  refine wpAnyH_take (i := 14) (oi := ?o14s1) (v := ?v14s1) ?h14s1 (by kernel_rfl) ?f14s1 ?r14s1 (fun _ _ _ h => h) (Or.inl ⟨?w14s1, ?y14s1⟩) (by assumption) ?t14s1
  case h14s1 => simp only [List.getElem?_toArray]; rfl
  case f14s1 => kernel_rfl
  case r14s1 => kernel_rfl
  case w14s1 => rfl
  case y14s1 => (intro u hu; (go_simp) <;> with_reducible rfl)
  try simp only [Act.put, List.setIfInBounds_toArray, List.set_cons_zero, List.set_cons_succ]
  refine wpAnyH_take (i := 15) (oi := ?o15s1) (v := ?v15s1) ?h15s1 (by kernel_rfl) ?f15s1 ?r15s1 (fun _ _ _ h => h) (Or.inl ⟨?w15s1, ?y15s1⟩) (by assumption) ?t15s1
  case h15s1 => simp only [List.getElem?_toArray]; rfl
  case f15s1 => kernel_rfl
  case r15s1 => kernel_rfl
  case w15s1 => rfl
  case y15s1 => (intro u hu; (go_simp) <;> with_reducible rfl)
  try simp only [Act.put, List.setIfInBounds_toArray, List.set_cons_zero, List.set_cons_succ]
  refine wpAnyH_ready (rs := [13]) (by kernel_rfl) (by simp) ?_
  refine AllReadyH.cons (o := ?o13s1) ?h13s1 (fun K hK => ?_) AllReadyH.nil
  case h13s1 => simp only [List.getElem?_toArray]; rfl
  go_simp
  refine (mul_e x y hx hy _).mono ?_
  rintro e c13 ⟨z46, rfl, hz46, Hz46, hb13⟩
  refine hK.out _ _ (hH.trans hb13) (fun hH' => ?_)
  clear hK K hH
  have hH := hH'
  clear hH'
  try simp only [List.setIfInBounds_toArray, List.set]
  clear hb13
  refine wpAnyH_ready (rs := [16]) (by kernel_rfl) (by simp) ?_
  refine AllReadyH.cons (o := ?o16s1) ?h16s1 (fun K hK => ?_) AllReadyH.nil
  case h16s1 => simp only [List.getElem?_toArray]; rfl
  go_simp
  refine (mul_e y x hy hx _).mono ?_
  rintro e c16 ⟨z49, rfl, hz49, Hz49, hb16⟩
  refine hK.out _ _ (hH.trans hb16) (fun hH' => ?_)
  clear hK K hH
  have hH := hH'
  clear hH'
  try simp only [List.setIfInBounds_toArray, List.set]
  clear hb16
  refine wpAnyH_ready (rs := [17]) (by kernel_rfl) (by simp) ?_
  refine AllReadyH.cons (o := ?o17s1) ?h17s1 (fun K hK => ?_) AllReadyH.nil
  case h17s1 => simp only [List.getElem?_toArray]; rfl
  go_simp
  refine (equal_e z46 z49 hz46 hz49 _).mono ?_
  rintro e c17 ⟨rfl, hb17⟩
  rw [show same z46 z49 = true from same_t (by rw [Hz46.out, Hz49.out, Int.mul_comm])]
  refine hK.out _ _ (hH.trans hb17) (fun hH' => ?_)
  clear hK K hH
  have hH := hH'
  clear hH'
  try simp only [List.setIfInBounds_toArray, List.set]
  clear hb17
  refine wpAnyH_take (i := 18) (oi := ?o18s1) (v := ?v18s1) ?h18s1 (by kernel_rfl) ?f18s1 ?r18s1 (fun _ _ _ h => h) (Or.inl ⟨?w18s1, ?y18s1⟩) (by assumption) ?t18s1
  case h18s1 => simp only [List.getElem?_toArray]; rfl
  case f18s1 => kernel_rfl
  case r18s1 => kernel_rfl
  case w18s1 => rfl
  case y18s1 => (intro u hu; (go_simp) <;> with_reducible rfl)
  try simp only [Act.put, List.setIfInBounds_toArray, List.set_cons_zero, List.set_cons_succ]
  refine wpAnyH_take (i := 19) (oi := ?o19s1) (v := ?v19s1) ?h19s1 (by kernel_rfl) ?f19s1 ?r19s1 (fun _ _ _ h => h) (Or.inl ⟨?w19s1, ?y19s1⟩) (by assumption) ?t19s1
  case h19s1 => simp only [List.getElem?_toArray]; rfl
  case f19s1 => kernel_rfl
  case r19s1 => kernel_rfl
  case w19s1 => rfl
  case y19s1 => (intro u hu; (go_simp) <;> with_reducible rfl)
  try simp only [Act.put, List.setIfInBounds_toArray, List.set_cons_zero, List.set_cons_succ]
  exact H _ _ _ _ _ _ _ _ _ hH

set_option maxRecDepth 20000 in
set_option maxHeartbeats 4000000 in
theorem laws_s2 (W : World) (x y z v : Int) (hx : El x) (hy : El y) (hz : El z) (_hv : El v) (b11 b12 b13 b14 : Nat) (V11 : Hid (Var W b11 x)) (V12 : Hid (Var W b12 y)) (V13 : Hid (Var W b13 z)) (_V14 : Hid (Var W b14 v))
    (u0 u1 u2 u3 u4 u5 u6 u7 u8 u9 u10 u15 u16 u17 u18 u19 u20 u21 u22 u23 u24 u25 u26 u27 u28 u29 u30 u31 u32 u33 u34 u35 u36 u37 u38 u39 u40 u41 u42 u43 u44 u45 u46 u47 u48 u49 u50 u51 u53 u54 u55 u56 u57 u58 u59 u60 u61 u62 u63 u64 u65 u66 u67 u68 u69 u70 u71 u72 u73 u74 u75 u76 u77 u78 u79 u80 u81 u82 u83 u84 u85 u86 u87 u88 u89 u90 u91 u92 u93 u94 u95 u96 u97 u98 u99 u100 u101 u102 u103 u104 u105 u106 u107 u108 u109 u110 u111 u112 u113 u114 u115 u116 u117 u118 u119 u120 u121 u122 u123 u124 u125 u126 u127 u128 u129 u130 u131 u132 : Value) (Q : Exit → Act → World → Prop) (w0 : World) (hH : Ext W w0)
    (H : ∀ (r53 r54 r55 r56 r57 r58 r59 r60 r61 r62 r63 r64 : Value) (w1 : World), Ext W w1 → wpAnyH Try.prog .any ops6 (NoPanic Q) (Ext W) 68 #[true, true, true, true, true, true, true, true, true, true, true, true, true, true, true, true, true, true, true, true, true, true, true, true, true, true, true, true, true, true, true, true, true, false, false, false, false, false, false, false, false, false, false, false, false, false, false, false, false, false, false, false, false, false, false, false, false, false, false, false, false, false, false, false, false, false, false, false, false, false, false, false, false, false, false, false, false, false, false, false, false, false, false, false, false, false, false, false, false, false, false, false, false, false, false, false, false, false, false, false, false] ⟨#[u0, u1, u2, u3, u4, u5, u6, u7, u8, u9, u10, .pointer (some ⟨b11, 0, none⟩), .pointer (some ⟨b12, 0, none⟩), .pointer (some ⟨b13, 0, none⟩), .pointer (some ⟨b14, 0, none⟩), u15, u16, u17, u18, u19, u20, u21, u22, u23, u24, u25, u26, u27, u28, u29, u30, u31, u32, u33, u34, u35, u36, u37, u38, u39, u40, u41, u42, u43, u44, u45, u46, u47, u48, u49, u50, u51, .bool true, r53, r54, r55, r56, r57, r58, r59, r60, r61, r62, r63, r64, .bool true, u66, u67, u68, u69, u70, u71, u72, u73, u74, u75, u76, u77, u78, u79, u80, u81, u82, u83, u84, u85, u86, u87, u88, u89, u90, u91, u92, u93, u94, u95, u96, u97, u98, u99, u100, u101, u102, u103, u104, u105, u106, u107, u108, u109, u110, u111, u112, u113, u114, u115, u116, u117, u118, u119, u120, u121, u122, u123, u124, u125, u126, u127, u128, u129, u130, u131, u132], []⟩ w1) :
    wpAnyH Try.prog .any ops6 (NoPanic Q) (Ext W) 81 #[true, true, true, true, true, true, true, true, true, true, true, true, true, true, true, true, true, true, true, true, false, false, false, false, false, false, false, false, false, false, false, false, false, false, false, false, false, false, false, false, false, false, false, false, false, false, false, false, false, false, false, false, false, false, false, false, false, false, false, false, false, false, false, false, false, false, false, false, false, false, false, false, false, false, false, false, false, false, false, false, false, false, false, false, false, false, false, false, false, false, false, false, false, false, false, false, false, false, false, false, false] ⟨#[u0, u1, u2, u3, u4, u5, u6, u7, u8, u9, u10, .pointer (some ⟨b11, 0, none⟩), .pointer (some ⟨b12, 0, none⟩), .pointer (some ⟨b13, 0, none⟩), .pointer (some ⟨b14, 0, none⟩), u15, u16, u17, u18, u19, u20, u21, u22, u23, u24, u25, u26, u27, u28, u29, u30, u31, u32, u33, u34, u35, u36, u37, u38, u39, u40, u41, u42, u43, u44, u45, u46, u47, u48, u49, u50, u51, .bool true, u53, u54, u55, u56, u57, u58, u59, u60, u61, u62, u63, u64, u65, u66, u67, u68, u69, u70, u71, u72, u73, u74, u75, u76, u77, u78, u79, u80, u81, u82, u83, u84, u85, u86, u87, u88, u89, u90, u91, u92, u93, u94, u95, u96, u97, u98, u99, u100, u101, u102, u103, u104, u105, u106, u107, u108, u109, u110, u111, u112, u113, u114, u115, u116, u117, u118, u119, u120, u121, u122, u123, u124, u125, u126, u127, u128, u129, u130, u131, u132], []⟩ w0 := by
  obtain ⟨V11c0, V11c1, V11c2, V11c3⟩ := V11.out
  have V11u0 : ∀ u, Ext W u → u.cell? ⟨b11, 0, none⟩ = some (.int .u64 (e0 x)) := fun u hu => hu.cell V11c0
  have V11u1 : ∀ u, Ext W u → u.cell? ⟨b11, 1, none⟩ = some (.int .u64 (e1 x)) := fun u hu => hu.cell V11c1
  have V11u2 : ∀ u, Ext W u → u.cell? ⟨b11, 2, none⟩ = some (.int .u64 (e2 x)) := fun u hu => hu.cell V11c2
  have V11u3 : ∀ u, Ext W u → u.cell? ⟨b11, 3, none⟩ = some (.int .u64 (e3 x)) := fun u hu => hu.cell V11c3
  clear V11c0 V11c1 V11c2 V11c3
  obtain ⟨V12c0, V12c1, V12c2, V12c3⟩ := V12.out
  have V12u0 : ∀ u, Ext W u → u.cell? ⟨b12, 0, none⟩ = some (.int .u64 (e0 y)) := fun u hu => hu.cell V12c0
  have V12u1 : ∀ u, Ext W u → u.cell? ⟨b12, 1, none⟩ = some (.int .u64 (e1 y)) := fun u hu => hu.cell V12c1
  have V12u2 : ∀ u, Ext W u → u.cell? ⟨b12, 2, none⟩ = some (.int .u64 (e2 y)) := fun u hu => hu.cell V12c2
  have V12u3 : ∀ u, Ext W u → u.cell? ⟨b12, 3, none⟩ = some (.int .u64 (e3 y)) := fun u hu => hu.cell V12c3
  clear V12c0 V12c1 V12c2 V12c3
  obtain ⟨V13c0, V13c1, V13c2, V13c3⟩ := V13.out
  have V13u0 : ∀ u, Ext W u → u.cell? ⟨b13, 0, none⟩ = some (.int .u64 (e0 z)) := fun u hu => hu.cell V13c0
  have V13u1 : ∀ u, Ext W u → u.cell? ⟨b13, 1, none⟩ = some (.int .u64 (e1 z)) := fun u hu => hu.cell V13c1
  have V13u2 : ∀ u, Ext W u → u.cell? ⟨b13, 2, none⟩ = some (.int .u64 (e2 z)) := fun u hu => hu.cell V13c2
  have V13u3 : ∀ u, Ext W u → u.cell? ⟨b13, 3, none⟩ = some (.int .u64 (e3 z)) := fun u hu => hu.cell V13c3
  clear V13c0 V13c1 V13c2 V13c3
  unfold ops6
  refine wpAnyH_take (i := 20) (oi := ?o20s2) (v := ?v20s2) ?h20s2 (by kernel_rfl) ?f20s2 ?r20s2 (fun _ _ _ h => h) (Or.inl ⟨?w20s2, ?y20s2⟩) (by assumption) ?t20s2
  case h20s2 => simp only [List.getElem?_toArray]; rfl
  case f20s2 => kernel_rfl
  case r20s2 => kernel_rfl
  case w20s2 => rfl
  case y20s2 => (intro u hu; (go_simp) <;> with_reducible rfl)
  try simp only [Act.put, List.setIfInBounds_toArray, List.set_cons_zero, List.set_cons_succ]
  refine wpAnyH_take (i := 21) (oi := ?o21s2) (v := ?v21s2) ?h21s2 (by kernel_rfl) ?f21s2 ?r21s2 (fun _ _ _ h => h) (Or.inl ⟨?w21s2, ?y21s2⟩) (by assumption) ?t21s2
  case h21s2 => simp only [List.getElem?_toArray]; rfl
  case f21s2 => kernel_rfl
  case r21s2 => kernel_rfl
  case w21s2 => rfl
  case y21s2 => (intro u hu; (go_simp) <;> with_reducible rfl)
  try simp only [Act.put, List.setIfInBounds_toArray, List.set_cons_zero, List.set_cons_succ]
  refine wpAnyH_take (i := 23) (oi := ?o23s2) (v := ?v23s2) ?h23s2 (by kernel_rfl) ?f23s2 ?r23s2 (fun _ _ _ h => h) (Or.inl ⟨?w23s2, ?y23s2⟩) (by assumption) ?t23s2
  case h23s2 => simp only [List.getElem?_toArray]; rfl
  case f23s2 => kernel_rfl
  case r23s2 => kernel_rfl
  case w23s2 => rfl
  case y23s2 => (intro u hu; (go_simp) <;> with_reducible rfl)
  try simp only [Act.put, List.setIfInBounds_toArray, List.set_cons_zero, List.set_cons_succ]
  refine wpAnyH_take (i := 25) (oi := ?o25s2) (v := ?v25s2) ?h25s2 (by kernel_rfl) ?f25s2 ?r25s2 (fun _ _ _ h => h) (Or.inl ⟨?w25s2, ?y25s2⟩) (by assumption) ?t25s2
  case h25s2 => simp only [List.getElem?_toArray]; rfl
  case f25s2 => kernel_rfl
  case r25s2 => kernel_rfl
  case w25s2 => rfl
  case y25s2 => (intro u hu; (go_simp) <;> with_reducible rfl)
  try simp only [Act.put, List.setIfInBounds_toArray, List.set_cons_zero, List.set_cons_succ]
  refine wpAnyH_take (i := 26) (oi := ?o26s2) (v := ?v26s2) ?h26s2 (by kernel_rfl) ?f26s2 ?r26s2 (fun _ _ _ h => h) (Or.inl ⟨?w26s2, ?y26s2⟩) (by assumption) ?t26s2
  case h26s2 => simp only [List.getElem?_toArray]; rfl
  case f26s2 => kernel_rfl
  case r26s2 => kernel_rfl
  case w26s2 => rfl
  case y26s2 => (intro u hu; (go_simp) <;> with_reducible rfl)
  try simp only [Act.put, List.setIfInBounds_toArray, List.set_cons_zero, List.set_cons_succ]
  refine wpAnyH_take (i := 27) (oi := ?o27s2) (v := ?v27s2) ?h27s2 (by kernel_rfl) ?f27s2 ?r27s2 (fun _ _ _ h => h) (Or.inl ⟨?w27s2, ?y27s2⟩) (by assumption) ?t27s2
  case h27s2 => simp only [List.getElem?_toArray]; rfl
  case f27s2 => kernel_rfl
  case r27s2 => kernel_rfl
  case w27s2 => rfl
  case y27s2 => (intro u hu; (go_simp) <;> with_reducible rfl)
  try simp only [Act.put, List.setIfInBounds_toArray, List.set_cons_zero, List.set_cons_succ]
  refine wpAnyH_ready (rs := [22]) (by kernel_rfl) (by simp) ?_
  refine AllReadyH.cons (o := ?o22s2) ?h22s2 (fun K hK => ?_) AllReadyH.nil
  case h22s2 => simp only [List.getElem?_toArray]; rfl
  go_simp
  refine (add_e x y hx hy _).mono ?_
  rintro e c22 ⟨z55, rfl, hz55, Hz55, hb22⟩
  refine hK.out _ _ (hH.trans hb22) (fun hH' => ?_)
  clear hK K hH
  have hH := hH'
  clear hH'
  try simp only [List.setIfInBounds_toArray, List.set]
  clear hb22
  refine wpAnyH_ready (rs := [24]) (by kernel_rfl) (by simp) ?_
  refine AllReadyH.cons (o := ?o24s2) ?h24s2 (fun K hK => ?_) AllReadyH.nil
  case h24s2 => simp only [List.getElem?_toArray]; rfl
  go_simp
  refine (add_e z55 z hz55 hz _).mono ?_
  rintro e c24 ⟨z57, rfl, hz57, Hz57, hb24⟩
  refine hK.out _ _ (hH.trans hb24) (fun hH' => ?_)
  clear hK K hH
  have hH := hH'
  clear hH'
  try simp only [List.setIfInBounds_toArray, List.set]
  clear hb24
  refine wpAnyH_ready (rs := [28]) (by kernel_rfl) (by simp) ?_
  refine AllReadyH.cons (o := ?o28s2) ?h28s2 (fun K hK => ?_) AllReadyH.nil
  case h28s2 => simp only [List.getElem?_toArray]; rfl
  go_simp
  refine (add_e y z hy hz _).mono ?_
  rintro e c28 ⟨z61, rfl, hz61, Hz61, hb28⟩
  refine hK.out _ _ (hH.trans hb28) (fun hH' => ?_)
  clear hK K hH
  have hH := hH'
  clear hH'
  try simp only [List.setIfInBounds_toArray, List.set]
  clear hb28
  refine wpAnyH_ready (rs := [29]) (by kernel_rfl) (by simp) ?_
  refine AllReadyH.cons (o := ?o29s2) ?h29s2 (fun K hK => ?_) AllReadyH.nil
  case h29s2 => simp only [List.getElem?_toArray]; rfl
  go_simp
  refine (add_e x z61 hx hz61 _).mono ?_
  rintro e c29 ⟨z62, rfl, hz62, Hz62, hb29⟩
  refine hK.out _ _ (hH.trans hb29) (fun hH' => ?_)
  clear hK K hH
  have hH := hH'
  clear hH'
  try simp only [List.setIfInBounds_toArray, List.set]
  clear hb29
  refine wpAnyH_ready (rs := [30]) (by kernel_rfl) (by simp) ?_
  refine AllReadyH.cons (o := ?o30s2) ?h30s2 (fun K hK => ?_) AllReadyH.nil
  case h30s2 => simp only [List.getElem?_toArray]; rfl
  go_simp
  refine (equal_e z57 z62 hz57 hz62 _).mono ?_
  rintro e c30 ⟨rfl, hb30⟩
  rw [show same z57 z62 = true from same_t (by rw [Hz57.out, Hz55.out, Hz62.out, Hz61.out, em_add_l, em_add_r, Int.add_assoc])]
  refine hK.out _ _ (hH.trans hb30) (fun hH' => ?_)
  clear hK K hH
  have hH := hH'
  clear hH'
  try simp only [List.setIfInBounds_toArray, List.set]
  clear hb30
  refine wpAnyH_take (i := 31) (oi := ?o31s2) (v := ?v31s2) ?h31s2 (by kernel_rfl) ?f31s2 ?r31s2 (fun _ _ _ h => h) (Or.inl ⟨?w31s2, ?y31s2⟩) (by assumption) ?t31s2
  case h31s2 => simp only [List.getElem?_toArray]; rfl
  case f31s2 => kernel_rfl
  case r31s2 => kernel_rfl
  case w31s2 => rfl
  case y31s2 => (intro u hu; (go_simp) <;> with_reducible rfl)
  try simp only [Act.put, List.setIfInBounds_toArray, List.set_cons_zero, List.set_cons_succ]
  refine wpAnyH_take (i := 32) (oi := ?o32s2) (v := ?v32s2) ?h32s2 (by kernel_rfl) ?f32s2 ?r32s2 (fun _ _ _ h => h) (Or.inl ⟨?w32s2, ?y32s2⟩) (by assumption) ?t32s2
  case h32s2 => simp only [List.getElem?_toArray]; rfl
  case f32s2 => kernel_rfl
  case r32s2 => kernel_rfl
  case w32s2 => rfl
  case y32s2 => (intro u hu; (go_simp) <;> with_reducible rfl)
  try simp only [Act.put, List.setIfInBounds_toArray, List.set_cons_zero, List.set_cons_succ]
  exact H _ _ _ _ _ _ _ _ _ _ _ _ _ hH
end Go.Proofs.Ytgnfbnjhmiggbaa
