/-
  Stretches of the last statement of FieldLaws, each from whatever frame. No statement of the seat is proved here.
-/
import Derived.Test.YtgnfbnjhmiggbaaLLawsOps
namespace Go.Proofs.Ytgnfbnjhmiggbaa
open Go.RowKit

set_option maxRecDepth 20000 in
set_option maxHeartbeats 4000000 in
theorem laws_s3 (W : World) (x y z v : Int) (hx : El x) (hy : El y) (hz : El z) (_hv : El v) (b11 b12 b13 b14 : Nat) (V11 : Hid (Var W b11 x)) (V12 : Hid (Var W b12 y)) (V13 : Hid (Var W b13 z)) (_V14 : Hid (Var W b14 v))
    (u0 u1 u2 u3 u4 u5 u6 u7 u8 u9 u10 u15 u16 u17 u18 u19 u20 u21 u22 u23 u24 u25 u26 u27 u28 u29 u30 u31 u32 u33 u34 u35 u36 u37 u38 u39 u40 u41 u42 u43 u44 u45 u46 u47 u48 u49 u50 u51 u52 u53 u54 u55 u56 u57 u58 u59 u60 u61 u62 u63 u64 u66 u67 u68 u69 u70 u71 u72 u73 u74 u75 u76 u77 u78 u79 u80 u81 u82 u83 u84 u85 u86 u87 u88 u89 u90 u91 u92 u93 u94 u95 u96 u97 u98 u99 u100 u101 u102 u103 u104 u105 u106 u107 u108 u109 u110 u111 u112 u113 u114 u115 u116 u117 u118 u119 u120 u121 u122 u123 u124 u125 u126 u127 u128 u129 u130 u131 u132 : Value) (Q : Exit → Act → World → Prop) (w0 : World) (hH : Ext W w0)
    (H : ∀ (r66 r67 r68 r69 r70 r71 r72 r73 r74 r75 r76 r77 : Value) (w1 : World), Ext W w1 → wpAnyH Try.prog .any ops6 (NoPanic Q) (Ext W) 55 #[true, true, true, true, true, true, true, true, true, true, true, true, true, true, true, true, true, true, true, true, true, true, true, true, true, true, true, true, true, true, true, true, true, true, true, true, true, true, true, true, true, true, true, true, true, true, false, false, false, false, false, false, false, false, false, false, false, false, false, false, false, false, false, false, false, false, false, false, false, false, false, false, false, false, false, false, false, false, false, false, false, false, false, false, false, false, false, false, false, false, false, false, false, false, false, false, false, false, false, false, false] ⟨#[u0, u1, u2, u3, u4, u5, u6, u7, u8, u9, u10, .pointer (some ⟨b11, 0, none⟩), .pointer (some ⟨b12, 0, none⟩), .pointer (some ⟨b13, 0, none⟩), .pointer (some ⟨b14, 0, none⟩), u15, u16, u17, u18, u19, u20, u21, u22, u23, u24, u25, u26, u27, u28, u29, u30, u31, u32, u33, u34, u35, u36, u37, u38, u39, u40, u41, u42, u43, u44, u45, u46, u47, u48, u49, u50, u51, u52, u53, u54, u55, u56, u57, u58, u59, u60, u61, u62, u63, u64, .bool true, r66, r67, r68, r69, r70, r71, r72, r73, r74, r75, r76, r77, .bool true, u79, u80, u81, u82, u83, u84, u85, u86, u87, u88, u89, u90, u91, u92, u93, u94, u95, u96, u97, u98, u99, u100, u101, u102, u103, u104, u105, u106, u107, u108, u109, u110, u111, u112, u113, u114, u115, u116, u117, u118, u119, u120, u121, u122, u123, u124, u125, u126, u127, u128, u129, u130, u131, u132], []⟩ w1) :
    wpAnyH Try.prog .any ops6 (NoPanic Q) (Ext W) 68 #[true, true, true, true, true, true, true, true, true, true, true, true, true, true, true, true, true, true, true, true, true, true, true, true, true, true, true, true, true, true, true, true, true, false, false, false, false, false, false, false, false, false, false, false, false, false, false, false, false, false, false, false, false, false, false, false, false, false, false, false, false, false, false, false, false, false, false, false, false, false, false, false, false, false, false, false, false, false, false, false, false, false, false, false, false, false, false, false, false, false, false, false, false, false, false, false, false, false, false, false, false] ⟨#[u0, u1, u2, u3, u4, u5, u6, u7, u8, u9, u10, .pointer (some ⟨b11, 0, none⟩), .pointer (some ⟨b12, 0, none⟩), .pointer (some ⟨b13, 0, none⟩), .pointer (some ⟨b14, 0, none⟩), u15, u16, u17, u18, u19, u20, u21, u22, u23, u24, u25, u26, u27, u28, u29, u30, u31, u32, u33, u34, u35, u36, u37, u38, u39, u40, u41, u42, u43, u44, u45, u46, u47, u48, u49, u50, u51, u52, u53, u54, u55, u56, u57, u58, u59, u60, u61, u62, u63, u64, .bool true, u66, u67, u68, u69, u70, u71, u72, u73, u74, u75, u76, u77, u78, u79, u80, u81, u82, u83, u84, u85, u86, u87, u88, u89, u90, u91, u92, u93, u94, u95, u96, u97, u98, u99, u100, u101, u102, u103, u104, u105, u106, u107, u108, u109, u110, u111, u112, u113, u114, u115, u116, u117, u118, u119, u120, u121, u122, u123, u124, u125, u126, u127, u128, u129, u130, u131, u132], []⟩ w0 := by
  obtain ⟨V11c0, V11c1, V11c2, V11c3⟩ := V11.out
  have V11u0 : ∀ u, Ext W u → u.cell? ⟨b11, 0, none⟩ = some (.int .u64 (e0 x)) := fun u hu => hu.cell V11c0
  have V11u1 : ∀ u, Ext W u → u.cell? ⟨b11, 1, none⟩ = some (.int .u64 (e1 x)) := fun u hu => hu.cell V11c1
  have V11u2 : ∀ u, Ext W u → u.cell? ⟨b11, 2, none⟩ = some (.int .u64 (e2 x)) := fun u hu => hu.cell V11c2
  have V11u3 : ∀ u, Ext W u → u.cell? ⟨b11, 3, none⟩ = some (.int .u64 (e3 x)) := fun u hu => hu.cell V11c3
  clear V11c0 V11c1 V11c2 V11c3
  obtain ⟨V12c0, V12c1, V12c2, V12c3⟩ := V12.out
  have V12u0 : ∀ u, Ext W u → u.cell? ⟨b12, 0, none⟩ = some (.int .u64 (e0 y)) := fun u hu => hu.cell V12c0
  have V12u1 : ∀ u, Ext W u → u.cell? ⟨b12, 1, none⟩ = some (.int .u64 (e1 y)) := fun u hu => hu.cell V12c1
  have V12u2 : ∀ u, Ext W u → u.cell? ⟨b12, 2, none⟩ = some (.int .u64 (e2 y)) := fun u hu => hu.cell V12c2
  have V12u3 : ∀ u, Ext W u → u.cell? ⟨b12, 3, none⟩ = some (.int .u64 (e3 y)) := fun u hu => hu.cell V12c3
  clear V12c0 V12c1 V12c2 V12c3
  obtain ⟨V13c0, V13c1, V13c2, V13c3⟩ := V13.out
  have V13u0 : ∀ u, Ext W u → u.cell? ⟨b13, 0, none⟩ = some (.int .u64 (e0 z)) := fun u hu => hu.cell V13c0
  have V13u1 : ∀ u, Ext W u → u.cell? ⟨b13, 1, none⟩ = some (.int .u64 (e1 z)) := fun u hu => hu.cell V13c1
  have V13u2 : ∀ u, Ext W u → u.cell? ⟨b13, 2, none⟩ = some (.int .u64 (e2 z)) := fun u hu => hu.cell V13c2
  have V13u3 : ∀ u, Ext W u → u.cell? ⟨b13, 3, none⟩ = some (.int .u64 (e3 z)) := fun u hu => hu.cell V13c3
  clear V13c0 V13c1 V13c2 V13c3
  unfold ops6
  refine wpAnyH_take (i := 33) (oi := ?o33s3) (v := ?v33s3) ?h33s3 (by kernel_rfl) ?f33s3 ?r33s3 (fun _ _ _ h => h) (Or.inl ⟨?w33s3, ?y33s3⟩) (by assumption) ?t33s3
  case h33s3 => simp only [List.getElem?_toArray]; rfl
  case f33s3 => kernel_rfl
  case r33s3 => kernel_rfl
  case w33s3 => rfl
  case y33s3 => (intro u hu; (go_simp) <;> with_reducible rfl)
  try simp only [Act.put, List.setIfInBounds_toArray, List.set_cons_zero, List.set_cons_succ]
  refine wpAnyH_take (i := 34) (oi := ?o34s3) (v := ?v34s3) ?h34s3 (by kernel_rfl) ?f34s3 ?r34s3 (fun _ _ _ h => h) (Or.inl ⟨?w34s3, ?y34s3⟩) (by assumption) ?t34s3
  case h34s3 => simp only [List.getElem?_toArray]; rfl
  case f34s3 => kernel_rfl
  case r34s3 => kernel_rfl
  case w34s3 => rfl
  case y34s3 => (intro u hu; (go_simp) <;> with_reducible rfl)
  try simp only [Act.put, List.setIfInBounds_toArray, List.set_cons_zero, List.set_cons_succ]
  refine wpAnyH_take (i := 36) (oi := ?o36s3) (v := ?v36s3) ?h36s3 (by kernel_rfl) ?f36s3 ?r36s3 (fun _ _ _ h => h) (Or.inl ⟨?w36s3, ?y36s3⟩) (by assumption) ?t36s3
  case h36s3 => simp only [List.getElem?_toArray]; rfl
  case f36s3 => kernel_rfl
  case r36s3 => kernel_rfl
  case w36s3 => rfl
  case y36s3 => (intro u hu; (go_simp) <;> with_reducible rfl)
  try simp only [Act.put, List.setIfInBounds_toArray, List.set_cons_zero, List.set_cons_succ]
  refine wpAnyH_take (i := 38) (oi := ?o38s3) (v := ?v38s3) ?h38s3 (by kernel_rfl) ?f38s3 ?r38s3 (fun _ _ _ h => h) (Or.inl ⟨?w38s3, ?y38s3⟩) (by assumption) ?t38s3
  case h38s3 => simp only [List.getElem?_toArray]; rfl
  case f38s3 => kernel_rfl
  case r38s3 => kernel_rfl
  case w38s3 => rfl
  case y38s3 => (intro u hu; (go_simp) <;> with_reducible rfl)
  try simp only [Act.put, List.setIfInBounds_toArray, List.set_cons_zero, List.set_cons_succ]
  refine wpAnyH_take (i := 39) (oi := ?o39s3) (v := ?v39s3) ?h39s3 (by kernel_rfl) ?f39s3 ?r39s3 (fun _ _ _ h => h) (Or.inl ⟨?w39s3, ?y39s3⟩) (by assumption) ?t39s3
  case h39s3 => simp only [List.getElem?_toArray]; rfl
  case f39s3 => kernel_rfl
  case r39s3 => kernel_rfl
  case w39s3 => rfl
  case y39s3 => (intro u hu; (go_simp) <;> with_reducible rfl)
  try simp only [Act.put, List.setIfInBounds_toArray, List.set_cons_zero, List.set_cons_succ]
  refine wpAnyH_take (i := 40) (oi := ?o40s3) (v := ?v40s3) ?h40s3 (by kernel_rfl) ?f40s3 ?r40s3 (fun _ _ _ h => h) (Or.inl ⟨?w40s3, ?y40s3⟩) (by assumption) ?t40s3
  case h40s3 => simp only [List.getElem?_toArray]; rfl
  case f40s3 => kernel_rfl
  case r40s3 => kernel_rfl
  case w40s3 => rfl
  case y40s3 => (intro u hu; (go_simp) <;> with_reducible rfl)
  try simp only [Act.put, List.setIfInBounds_toArray, List.set_cons_zero, List.set_cons_succ]
  refine wpAnyH_ready (rs := [35]) (by kernel_rfl) (by simp) ?_
  refine AllReadyH.cons (o := ?o35s3) ?h35s3 (fun K hK => ?_) AllReadyH.nil
  case h35s3 => simp only [List.getElem?_toArray]; rfl
  go_simp
  refine (mul_e x y hx hy _).mono ?_
  rintro e c35 ⟨z68, rfl, hz68, Hz68, hb35⟩
  refine hK.out _ _ (hH.trans hb35) (fun hH' => ?_)
  clear hK K hH
  have hH := hH'
  clear hH'
  try simp only [List.setIfInBounds_toArray, List.set]
  clear hb35
  refine wpAnyH_ready (rs := [37]) (by kernel_rfl) (by simp) ?_
  refine AllReadyH.cons (o := ?o37s3) ?h37s3 (fun K hK => ?_) AllReadyH.nil
  case h37s3 => simp only [List.getElem?_toArray]; rfl
  go_simp
  refine (mul_e z68 z hz68 hz _).mono ?_
  rintro e c37 ⟨z70, rfl, hz70, Hz70, hb37⟩
  refine hK.out _ _ (hH.trans hb37) (fun hH' => ?_)
  clear hK K hH
  have hH := hH'
  clear hH'
  try simp only [List.setIfInBounds_toArray, List.set]
  clear hb37
  refine wpAnyH_ready (rs := [41]) (by kernel_rfl) (by simp) ?_
  refine AllReadyH.cons (o := ?o41s3) ?h41s3 (fun K hK => ?_) AllReadyH.nil
  case h41s3 => simp only [List.getElem?_toArray]; rfl
  go_simp
  refine (mul_e y z hy hz _).mono ?_
  rintro e c41 ⟨z74, rfl, hz74, Hz74, hb41⟩
  refine hK.out _ _ (hH.trans hb41) (fun hH' => ?_)
  clear hK K hH
  have hH := hH'
  clear hH'
  try simp only [List.setIfInBounds_toArray, List.set]
  clear hb41
  refine wpAnyH_ready (rs := [42]) (by kernel_rfl) (by simp) ?_
  refine AllReadyH.cons (o := ?o42s3) ?h42s3 (fun K hK => ?_) AllReadyH.nil
  case h42s3 => simp only [List.getElem?_toArray]; rfl
  go_simp
  refine (mul_e x z74 hx hz74 _).mono ?_
  rintro e c42 ⟨z75, rfl, hz75, Hz75, hb42⟩
  refine hK.out _ _ (hH.trans hb42) (fun hH' => ?_)
  clear hK K hH
  have hH := hH'
  clear hH'
  try simp only [List.setIfInBounds_toArray, List.set]
  clear hb42
  refine wpAnyH_ready (rs := [43]) (by kernel_rfl) (by simp) ?_
  refine AllReadyH.cons (o := ?o43s3) ?h43s3 (fun K hK => ?_) AllReadyH.nil
  case h43s3 => simp only [List.getElem?_toArray]; rfl
  go_simp
  refine (equal_e z70 z75 hz70 hz75 _).mono ?_
  rintro e c43 ⟨rfl, hb43⟩
  rw [show same z70 z75 = true from same_t (by rw [Hz70.out, Hz68.out, Hz75.out, Hz74.out, em_mul_l, em_mul_r, Int.mul_assoc])]
  refine hK.out _ _ (hH.trans hb43) (fun hH' => ?_)
  clear hK K hH
  have hH := hH'
  clear hH'
  try simp only [List.setIfInBounds_toArray, List.set]
  clear hb43
  refine wpAnyH_take (i := 44) (oi := ?o44s3) (v := ?v44s3) ?h44s3 (by kernel_rfl) ?f44s3 ?r44s3 (fun _ _ _ h => h) (Or.inl ⟨?w44s3, ?y44s3⟩) (by assumption) ?t44s3
  case h44s3 => simp only [List.getElem?_toArray]; rfl
  case f44s3 => kernel_rfl
  case r44s3 => kernel_rfl
  case w44s3 => rfl
  case y44s3 => (intro u hu; (go_simp) <;> with_reducible rfl)
  try simp only [Act.put, List.setIfInBounds_toArray, List.set_cons_zero, List.set_cons_succ]
  refine wpAnyH_take (i := 45) (oi := ?o45s3) (v := ?v45s3) ?h45s3 (by kernel_rfl) ?f45s3 ?r45s3 (fun _ _ _ h => h) (Or.inl ⟨?w45s3, ?y45s3⟩) (by assumption) ?t45s3
  case h45s3 => simp only [List.getElem?_toArray]; rfl
  case f45s3 => kernel_rfl
  case r45s3 => kernel_rfl
  case w45s3 => rfl
  case y45s3 => (intro u hu; (go_simp) <;> with_reducible rfl)
  try simp only [Act.put, List.setIfInBounds_toArray, List.set_cons_zero, List.set_cons_succ]
  exact H _ _ _ _ _ _ _ _ _ _ _ _ _ hH

set_option maxRecDepth 20000 in
set_option maxHeartbeats 4000000 in
theorem laws_s4 (W : World) (x y z v : Int) (hx : El x) (hy : El y) (hz : El z) (_hv : El v) (b11 b12 b13 b14 : Nat) (V11 : Hid (Var W b11 x)) (V12 : Hid (Var W b12 y)) (V13 : Hid (Var W b13 z)) (_V14 : Hid (Var W b14 v))
    (u0 u1 u2 u3 u4 u5 u6 u7 u8 u9 u10 u15 u16 u17 u18 u19 u20 u21 u22 u23 u24 u25 u26 u27 u28 u29 u30 u31 u32 u33 u34 u35 u36 u37 u38 u39 u40 u41 u42 u43 u44 u45 u46 u47 u48 u49 u50 u51 u52 u53 u54 u55 u56 u57 u58 u59 u60 u61 u62 u63 u64 u65 u66 u67 u68 u69 u70 u71 u72 u73 u74 u75 u76 u77 u79 u80 u81 u82 u83 u84 u85 u86 u87 u88 u89 u90 u91 u92 u93 u94 u95 u96 u97 u98 u99 u100 u101 u102 u103 u104 u105 u106 u107 u108 u109 u110 u111 u112 u113 u114 u115 u116 u117 u118 u119 u120 u121 u122 u123 u124 u125 u126 u127 u128 u129 u130 u131 u132 : Value) (Q : Exit → Act → World → Prop) (w0 : World) (hH : Ext W w0)
    (H : ∀ (r79 r80 r81 r82 r83 r84 r85 r86 r87 r88 r89 r90 r91 r92 : Value) (w1 : World), Ext W w1 → wpAnyH Try.prog .any ops6 (NoPanic Q) (Ext W) 40 #[true, true, true, true, true, true, true, true, true, true, true, true, true, true, true, true, true, true, true, true, true, true, true, true, true, true, true, true, true, true, true, true, true, true, true, true, true, true, true, true, true, true, true, true, true, true, true, true, true, true, true, true, true, true, true, true, true, true, true, true, true, false, false, false, false, false, false, false, false, false, false, false, false, false, false, false, false, false, false, false, false, false, false, false, false, false, false, false, false, false, false, false, false, false, false, false, false, false, false, false, false] ⟨#[u0, u1, u2, u3, u4, u5, u6, u7, u8, u9, u10, .pointer (some ⟨b11, 0, none⟩), .pointer (some ⟨b12, 0, none⟩), .pointer (some ⟨b13, 0, none⟩), .pointer (some ⟨b14, 0, none⟩), u15, u16, u17, u18, u19, u20, u21, u22, u23, u24, u25, u26, u27, u28, u29, u30, u31, u32, u33, u34, u35, u36, u37, u38, u39, u40, u41, u42, u43, u44, u45, u46, u47, u48, u49, u50, u51, u52, u53, u54, u55, u56, u57, u58, u59, u60, u61, u62, u63, u64, u65, u66, u67, u68, u69, u70, u71, u72, u73, u74, u75, u76, u77, .bool true, r79, r80, r81, r82, r83, r84, r85, r86, r87, r88, r89, r90, r91, r92, .bool true, u94, u95, u96, u97, u98, u99, u100, u101, u102, u103, u104, u105, u106, u107, u108, u109, u110, u111, u112, u113, u114, u115, u116, u117, u118, u119, u120, u121, u122, u123, u124, u125, u126, u127, u128, u129, u130, u131, u132], []⟩ w1) :
    wpAnyH Try.prog .any ops6 (NoPanic Q) (Ext W) 55 #[true, true, true, true, true, true, true, true, true, true, true, true, true, true, true, true, true, true, true, true, true, true, true, true, true, true, true, true, true, true, true, true, true, true, true, true, true, true, true, true, true, true, true, true, true, true, false, false, false, false, false, false, false, false, false, false, false, false, false, false, false, false, false, false, false, false, false, false, false, false, false, false, false, false, false, false, false, false, false, false, false, false, false, false, false, false, false, false, false, false, false, false, false, false, false, false, false, false, false, false, false] ⟨#[u0, u1, u2, u3, u4, u5, u6, u7, u8, u9, u10, .pointer (some ⟨b11, 0, none⟩), .pointer (some ⟨b12, 0, none⟩), .pointer (some ⟨b13, 0, none⟩), .pointer (some ⟨b14, 0, none⟩), u15, u16, u17, u18, u19, u20, u21, u22, u23, u24, u25, u26, u27, u28, u29, u30, u31, u32, u33, u34, u35, u36, u37, u38, u39, u40, u41, u42, u43, u44, u45, u46, u47, u48, u49, u50, u51, u52, u53, u54, u55, u56, u57, u58, u59, u60, u61, u62, u63, u64, u65, u66, u67, u68, u69, u70, u71, u72, u73, u74, u75, u76, u77, .bool true, u79, u80, u81, u82, u83, u84, u85, u86, u87, u88, u89, u90, u91, u92, u93, u94, u95, u96, u97, u98, u99, u100, u101, u102, u103, u104, u105, u106, u107, u108, u109, u110, u111, u112, u113, u114, u115, u116, u117, u118, u119, u120, u121, u122, u123, u124, u125, u126, u127, u128, u129, u130, u131, u132], []⟩ w0 := by
  obtain ⟨V11c0, V11c1, V11c2, V11c3⟩ := V11.out
  have V11u0 : ∀ u, Ext W u → u.cell? ⟨b11, 0, none⟩ = some (.int .u64 (e0 x)) := fun u hu => hu.cell V11c0
  have V11u1 : ∀ u, Ext W u → u.cell? ⟨b11, 1, none⟩ = some (.int .u64 (e1 x)) := fun u hu => hu.cell V11c1
  have V11u2 : ∀ u, Ext W u → u.cell? ⟨b11, 2, none⟩ = some (.int .u64 (e2 x)) := fun u hu => hu.cell V11c2
  have V11u3 : ∀ u, Ext W u → u.cell? ⟨b11, 3, none⟩ = some (.int .u64 (e3 x)) := fun u hu => hu.cell V11c3
  clear V11c0 V11c1 V11c2 V11c3
  obtain ⟨V12c0, V12c1, V12c2, V12c3⟩ := V12.out
  have V12u0 : ∀ u, Ext W u → u.cell? ⟨b12, 0, none⟩ = some (.int .u64 (e0 y)) := fun u hu => hu.cell V12c0
  have V12u1 : ∀ u, Ext W u → u.cell? ⟨b12, 1, none⟩ = some (.int .u64 (e1 y)) := fun u hu => hu.cell V12c1
  have V12u2 : ∀ u, Ext W u → u.cell? ⟨b12, 2, none⟩ = some (.int .u64 (e2 y)) := fun u hu => hu.cell V12c2
  have V12u3 : ∀ u, Ext W u → u.cell? ⟨b12, 3, none⟩ = some (.int .u64 (e3 y)) := fun u hu => hu.cell V12c3
  clear V12c0 V12c1 V12c2 V12c3
  obtain ⟨V13c0, V13c1, V13c2, V13c3⟩ := V13.out
  have V13u0 : ∀ u, Ext W u → u.cell? ⟨b13, 0, none⟩ = some (.int .u64 (e0 z)) := fun u hu => hu.cell V13c0
  have V13u1 : ∀ u, Ext W u → u.cell? ⟨b13, 1, none⟩ = some (.int .u64 (e1 z)) := fun u hu => hu.cell V13c1
  have V13u2 : ∀ u, Ext W u → u.cell? ⟨b13, 2, none⟩ = some (.int .u64 (e2 z)) := fun u hu => hu.cell V13c2
  have V13u3 : ∀ u, Ext W u → u.cell? ⟨b13, 3, none⟩ = some (.int .u64 (e3 z)) := fun u hu => hu.cell V13c3
  clear V13c0 V13c1 V13c2 V13c3
  unfold ops6
  refine wpAnyH_take (i := 46) (oi := ?o46s4) (v := ?v46s4) ?h46s4 (by kernel_rfl) ?f46s4 ?r46s4 (fun _ _ _ h => h) (Or.inl ⟨?w46s4, ?y46s4⟩) (by assumption) ?t46s4
  case h46s4 => simp only [List.getElem?_toArray]; rfl
  case f46s4 => kernel_rfl
  case r46s4 => kernel_rfl
  case w46s4 => rfl
  case y46s4 => (intro u hu; (go_simp) <;> with_reducible rfl)
  try simp only [Act.put, List.setIfInBounds_toArray, List.set_cons_zero, List.set_cons_succ]
  refine wpAnyH_take (i := 47) (oi := ?o47s4) (v := ?v47s4) ?h47s4 (by kernel_rfl) ?f47s4 ?r47s4 (fun _ _ _ h => h) (Or.inl ⟨?w47s4, ?y47s4⟩) (by assumption) ?t47s4
  case h47s4 => simp only [List.getElem?_toArray]; rfl
  case f47s4 => kernel_rfl
  case r47s4 => kernel_rfl
  case w47s4 => rfl
  case y47s4 => (intro u hu; (go_simp) <;> with_reducible rfl)
  try simp only [Act.put, List.setIfInBounds_toArray, List.set_cons_zero, List.set_cons_succ]
  refine wpAnyH_take (i := 48) (oi := ?o48s4) (v := ?v48s4) ?h48s4 (by kernel_rfl) ?f48s4 ?r48s4 (fun _ _ _ h => h) (Or.inl ⟨?w48s4, ?y48s4⟩) (by assumption) ?t48s4
  case h48s4 => simp only [List.getElem?_toArray]; rfl
  case f48s4 => kernel_rfl
  case r48s4 => kernel_rfl
  case w48s4 => rfl
  case y48s4 => (intro u hu; (go_simp) <;> with_reducible rfl)
  try simp only [Act.put, List.setIfInBounds_toArray, List.set_cons_zero, List.set_cons_succ]
  refine wpAnyH_take (i := 51) (oi := ?o51s4) (v := ?v51s4) ?h51s4 (by kernel_rfl) ?f51s4 ?r51s4 (fun _ _ _ h => h) (Or.inl ⟨?w51s4, ?y51s4⟩) (by assumption) ?t51s4
  case h51s4 => simp only [List.getElem?_toArray]; rfl
  case f51s4 => kernel_rfl
  case r51s4 => kernel_rfl
  case w51s4 => rfl
  case y51s4 => (intro u hu; (go_simp) <;> with_reducible rfl)
  try simp only [Act.put, List.setIfInBounds_toArray, List.set_cons_zero, List.set_cons_succ]
  refine wpAnyH_take (i := 52) (oi := ?o52s4) (v := ?v52s4) ?h52s4 (by kernel_rfl) ?f52s4 ?r52s4 (fun _ _ _ h => h) (Or.inl ⟨?w52s4, ?y52s4⟩) (by assumption) ?t52s4
  case h52s4 => simp only [List.getElem?_toArray]; rfl
  case f52s4 => kernel_rfl
  case r52s4 => kernel_rfl
  case w52s4 => rfl
  case y52s4 => (intro u hu; (go_simp) <;> with_reducible rfl)
  try simp only [Act.put, List.setIfInBounds_toArray, List.set_cons_zero, List.set_cons_succ]
  refine wpAnyH_take (i := 54) (oi := ?o54s4) (v := ?v54s4) ?h54s4 (by kernel_rfl) ?f54s4 ?r54s4 (fun _ _ _ h => h) (Or.inl ⟨?w54s4, ?y54s4⟩) (by assumption) ?t54s4
  case h54s4 => simp only [List.getElem?_toArray]; rfl
  case f54s4 => kernel_rfl
  case r54s4 => kernel_rfl
  case w54s4 => rfl
  case y54s4 => (intro u hu; (go_simp) <;> with_reducible rfl)
  try simp only [Act.put, List.setIfInBounds_toArray, List.set_cons_zero, List.set_cons_succ]
  refine wpAnyH_take (i := 55) (oi := ?o55s4) (v := ?v55s4) ?h55s4 (by kernel_rfl) ?f55s4 ?r55s4 (fun _ _ _ h => h) (Or.inl ⟨?w55s4, ?y55s4⟩) (by assumption) ?t55s4
  case h55s4 => simp only [List.getElem?_toArray]; rfl
  case f55s4 => kernel_rfl
  case r55s4 => kernel_rfl
  case w55s4 => rfl
  case y55s4 => (intro u hu; (go_simp) <;> with_reducible rfl)
  try simp only [Act.put, List.setIfInBounds_toArray, List.set_cons_zero, List.set_cons_succ]
  refine wpAnyH_ready (rs := [49]) (by kernel_rfl) (by simp) ?_
  refine AllReadyH.cons (o := ?o49s4) ?h49s4 (fun K hK => ?_) AllReadyH.nil
  case h49s4 => simp only [List.getElem?_toArray]; rfl
  go_simp
  refine (add_e y z hy hz _).mono ?_
  rintro e c49 ⟨z82, rfl, hz82, Hz82, hb49⟩
  refine hK.out _ _ (hH.trans hb49) (fun hH' => ?_)
  clear hK K hH
  have hH := hH'
  clear hH'
  try simp only [List.setIfInBounds_toArray, List.set]
  clear hb49
  refine wpAnyH_ready (rs := [50]) (by kernel_rfl) (by simp) ?_
  refine AllReadyH.cons (o := ?o50s4) ?h50s4 (fun K hK => ?_) AllReadyH.nil
  case h50s4 => simp only [List.getElem?_toArray]; rfl
  go_simp
  refine (mul_e x z82 hx hz82 _).mono ?_
  rintro e c50 ⟨z83, rfl, hz83, Hz83, hb50⟩
  refine hK.out _ _ (hH.trans hb50) (fun hH' => ?_)
  clear hK K hH
  have hH := hH'
  clear hH'
  try simp only [List.setIfInBounds_toArray, List.set]
  clear hb50
  refine wpAnyH_ready (rs := [53]) (by kernel_rfl) (by simp) ?_
  refine AllReadyH.cons (o := ?o53s4) ?h53s4 (fun K hK => ?_) AllReadyH.nil
  case h53s4 => simp only [List.getElem?_toArray]; rfl
  go_simp
  refine (mul_e x y hx hy _).mono ?_
  rintro e c53 ⟨z86, rfl, hz86, Hz86, hb53⟩
  refine hK.out _ _ (hH.trans hb53) (fun hH' => ?_)
  clear hK K hH
  have hH := hH'
  clear hH'
  try simp only [List.setIfInBounds_toArray, List.set]
  clear hb53
  refine wpAnyH_ready (rs := [56]) (by kernel_rfl) (by simp) ?_
  refine AllReadyH.cons (o := ?o56s4) ?h56s4 (fun K hK => ?_) AllReadyH.nil
  case h56s4 => simp only [List.getElem?_toArray]; rfl
  go_simp
  refine (mul_e x z hx hz _).mono ?_
  rintro e c56 ⟨z89, rfl, hz89, Hz89, hb56⟩
  refine hK.out _ _ (hH.trans hb56) (fun hH' => ?_)
  clear hK K hH
  have hH := hH'
  clear hH'
  try simp only [List.setIfInBounds_toArray, List.set]
  clear hb56
  refine wpAnyH_ready (rs := [57]) (by kernel_rfl) (by simp) ?_
  refine AllReadyH.cons (o := ?o57s4) ?h57s4 (fun K hK => ?_) AllReadyH.nil
  case h57s4 => simp only [List.getElem?_toArray]; rfl
  go_simp
  refine (add_e z86 z89 hz86 hz89 _).mono ?_
  rintro e c57 ⟨z90, rfl, hz90, Hz90, hb57⟩
  refine hK.out _ _ (hH.trans hb57) (fun hH' => ?_)
  clear hK K hH
  have hH := hH'
  clear hH'
  try simp only [List.setIfInBounds_toArray, List.set]
  clear hb57
  refine wpAnyH_ready (rs := [58]) (by kernel_rfl) (by simp) ?_
  refine AllReadyH.cons (o := ?o58s4) ?h58s4 (fun K hK => ?_) AllReadyH.nil
  case h58s4 => simp only [List.getElem?_toArray]; rfl
  go_simp
  refine (equal_e z83 z90 hz83 hz90 _).mono ?_
  rintro e c58 ⟨rfl, hb58⟩
  rw [show same z83 z90 = true from same_t (by rw [Hz83.out, Hz82.out, Hz90.out, Hz86.out, Hz89.out, em_mul_r, em_add_l, em_add_r, Int.mul_add])]
  refine hK.out _ _ (hH.trans hb58) (fun hH' => ?_)
  clear hK K hH
  have hH := hH'
  clear hH'
  try simp only [List.setIfInBounds_toArray, List.set]
  clear hb58
  refine wpAnyH_take (i := 59) (oi := ?o59s4) (v := ?v59s4) ?h59s4 (by kernel_rfl) ?f59s4 ?r59s4 (fun _ _ _ h => h) (Or.inl ⟨?w59s4, ?y59s4⟩) (by assumption) ?t59s4
  case h59s4 => simp only [List.getElem?_toArray]; rfl
  case f59s4 => kernel_rfl
  case r59s4 => kernel_rfl
  case w59s4 => rfl
  case y59s4 => (intro u hu; (go_simp) <;> with_reducible rfl)
  try simp only [Act.put, List.setIfInBounds_toArray, List.set_cons_zero, List.set_cons_succ]
  refine wpAnyH_take (i := 60) (oi := ?o60s4) (v := ?v60s4) ?h60s4 (by kernel_rfl) ?f60s4 ?r60s4 (fun _ _ _ h => h) (Or.inl ⟨?w60s4, ?y60s4⟩) (by assumption) ?t60s4
  case h60s4 => simp only [List.getElem?_toArray]; rfl
  case f60s4 => kernel_rfl
  case r60s4 => kernel_rfl
  case w60s4 => rfl
  case y60s4 => (intro u hu; (go_simp) <;> with_reducible rfl)
  try simp only [Act.put, List.setIfInBounds_toArray, List.set_cons_zero, List.set_cons_succ]
  exact H _ _ _ _ _ _ _ _ _ _ _ _ _ _ _ hH
end Go.Proofs.Ytgnfbnjhmiggbaa
