/-
  Stretches of the last statement of FieldLaws, each from whatever frame. No statement of the seat is proved here.
-/
import Derived.Test.YtgnfbnjhmiggbaaLLawsOps
namespace Go.Proofs.Ytgnfbnjhmiggbaa
open Go.RowKit

set_option maxRecDepth 20000 in
set_option maxHeartbeats 4000000 in
theorem laws_s5 (W : World) (x y z v : Int) (hx : El x) (hy : El y) (_hz : El z) (_hv : El v) (b11 b12 b13 b14 : Nat) (V11 : Hid (Var W b11 x)) (V12 : Hid (Var W b12 y)) (_V13 : Hid (Var W b13 z)) (_V14 : Hid (Var W b14 v))
    (u0 u1 u2 u3 u4 u5 u6 u7 u8 u9 u10 u15 u16 u17 u18 u19 u20 u21 u22 u23 u24 u25 u26 u27 u28 u29 u30 u31 u32 u33 u34 u35 u36 u37 u38 u39 u40 u41 u42 u43 u44 u45 u46 u47 u48 u49 u50 u51 u52 u53 u54 u55 u56 u57 u58 u59 u60 u61 u62 u63 u64 u65 u66 u67 u68 u69 u70 u71 u72 u73 u74 u75 u76 u77 u78 u79 u80 u81 u82 u83 u84 u85 u86 u87 u88 u89 u90 u91 u92 u94 u95 u96 u97 u98 u99 u100 u101 u102 u103 u104 u105 u106 u107 u108 u109 u110 u111 u112 u113 u114 u115 u116 u117 u118 u119 u120 u121 u122 u123 u124 u125 u126 u127 u128 u129 u130 u131 u132 : Value) (Q : Exit → Act → World → Prop) (w0 : World) (hH : Ext W w0)
    (H : ∀ (r94 r95 r96 r97 r98 r99 r100 r101 : Value) (w1 : World), Ext W w1 → wpAnyH Try.prog .any ops6 (NoPanic Q) (Ext W) 31 #[true, true, true, true, true, true, true, true, true, true, true, true, true, true, true, true, true, true, true, true, true, true, true, true, true, true, true, true, true, true, true, true, true, true, true, true, true, true, true, true, true, true, true, true, true, true, true, true, true, true, true, true, true, true, true, true, true, true, true, true, true, true, true, true, true, true, true, true, true, true, false, false, false, false, false, false, false, false, false, false, false, false, false, false, false, false, false, false, false, false, false, false, false, false, false, false, false, false, false, false, false] ⟨#[u0, u1, u2, u3, u4, u5, u6, u7, u8, u9, u10, .pointer (some ⟨b11, 0, none⟩), .pointer (some ⟨b12, 0, none⟩), .pointer (some ⟨b13, 0, none⟩), .pointer (some ⟨b14, 0, none⟩), u15, u16, u17, u18, u19, u20, u21, u22, u23, u24, u25, u26, u27, u28, u29, u30, u31, u32, u33, u34, u35, u36, u37, u38, u39, u40, u41, u42, u43, u44, u45, u46, u47, u48, u49, u50, u51, u52, u53, u54, u55, u56, u57, u58, u59, u60, u61, u62, u63, u64, u65, u66, u67, u68, u69, u70, u71, u72, u73, u74, u75, u76, u77, u78, u79, u80, u81, u82, u83, u84, u85, u86, u87, u88, u89, u90, u91, u92, .bool true, r94, r95, r96, r97, r98, r99, r100, r101, .bool true, u103, u104, u105, u106, u107, u108, u109, u110, u111, u112, u113, u114, u115, u116, u117, u118, u119, u120, u121, u122, u123, u124, u125, u126, u127, u128, u129, u130, u131, u132], []⟩ w1) :
    wpAnyH Try.prog .any ops6 (NoPanic Q) (Ext W) 40 #[true, true, true, true, true, true, true, true, true, true, true, true, true, true, true, true, true, true, true, true, true, true, true, true, true, true, true, true, true, true, true, true, true, true, true, true, true, true, true, true, true, true, true, true, true, true, true, true, true, true, true, true, true, true, true, true, true, true, true, true, true, false, false, false, false, false, false, false, false, false, false, false, false, false, false, false, false, false, false, false, false, false, false, false, false, false, false, false, false, false, false, false, false, false, false, false, false, false, false, false, false] ⟨#[u0, u1, u2, u3, u4, u5, u6, u7, u8, u9, u10, .pointer (some ⟨b11, 0, none⟩), .pointer (some ⟨b12, 0, none⟩), .pointer (some ⟨b13, 0, none⟩), .pointer (some ⟨b14, 0, none⟩), u15, u16, u17, u18, u19, u20, u21, u22, u23, u24, u25, u26, u27, u28, u29, u30, u31, u32, u33, u34, u35, u36, u37, u38, u39, u40, u41, u42, u43, u44, u45, u46, u47, u48, u49, u50, u51, u52, u53, u54, u55, u56, u57, u58, u59, u60, u61, u62, u63, u64, u65, u66, u67, u68, u69, u70, u71, u72, u73, u74, u75, u76, u77, u78, u79, u80, u81, u82, u83, u84, u85, u86, u87, u88, u89, u90, u91, u92, .bool true, u94, u95, u96, u97, u98, u99, u100, u101, u102, u103, u104, u105, u106, u107, u108, u109, u110, u111, u112, u113, u114, u115, u116, u117, u118, u119, u120, u121, u122, u123, u124, u125, u126, u127, u128, u129, u130, u131, u132], []⟩ w0 := by
  obtain ⟨V11c0, V11c1, V11c2, V11c3⟩ := V11.out
  have V11u0 : ∀ u, Ext W u → u.cell? ⟨b11, 0, none⟩ = some (.int .u64 (e0 x)) := fun u hu => hu.cell V11c0
  have V11u1 : ∀ u, Ext W u → u.cell? ⟨b11, 1, none⟩ = some (.int .u64 (e1 x)) := fun u hu => hu.cell V11c1
  have V11u2 : ∀ u, Ext W u → u.cell? ⟨b11, 2, none⟩ = some (.int .u64 (e2 x)) := fun u hu => hu.cell V11c2
  have V11u3 : ∀ u, Ext W u → u.cell? ⟨b11, 3, none⟩ = some (.int .u64 (e3 x)) := fun u hu => hu.cell V11c3
  clear V11c0 V11c1 V11c2 V11c3
  obtain ⟨V12c0, V12c1, V12c2, V12c3⟩ := V12.out
  have V12u0 : ∀ u, Ext W u → u.cell? ⟨b12, 0, none⟩ = some (.int .u64 (e0 y)) := fun u hu => hu.cell V12c0
  have V12u1 : ∀ u, Ext W u → u.cell? ⟨b12, 1, none⟩ = some (.int .u64 (e1 y)) := fun u hu => hu.cell V12c1
  have V12u2 : ∀ u, Ext W u → u.cell? ⟨b12, 2, none⟩ = some (.int .u64 (e2 y)) := fun u hu => hu.cell V12c2
  have V12u3 : ∀ u, Ext W u → u.cell? ⟨b12, 3, none⟩ = some (.int .u64 (e3 y)) := fun u hu => hu.cell V12c3
  clear V12c0 V12c1 V12c2 V12c3
  unfold ops6
  refine wpAnyH_take (i := 61) (oi := ?o61s5) (v := ?v61s5) ?h61s5 (by kernel_rfl) ?f61s5 ?r61s5 (fun _ _ _ h => h) (Or.inl ⟨?w61s5, ?y61s5⟩) (by assumption) ?t61s5
  case h61s5 => simp only [List.getElem?_toArray]; rfl
  case f61s5 => kernel_rfl
  case r61s5 => kernel_rfl
  case w61s5 => rfl
  case y61s5 => (intro u hu; (go_simp) <;> with_reducible rfl)
  try simp only [Act.put, List.setIfInBounds_toArray, List.set_cons_zero, List.set_cons_succ]
  refine wpAnyH_take (i := 62) (oi := ?o62s5) (v := ?v62s5) ?h62s5 (by kernel_rfl) ?f62s5 ?r62s5 (fun _ _ _ h => h) (Or.inl ⟨?w62s5, ?y62s5⟩) (by assumption) ?t62s5
  case h62s5 => simp only [List.getElem?_toArray]; rfl
  case f62s5 => kernel_rfl
  case r62s5 => kernel_rfl
  case w62s5 => rfl
  case y62s5 => (intro u hu; (go_simp) <;> with_reducible rfl)
  try simp only [Act.put, List.setIfInBounds_toArray, List.set_cons_zero, List.set_cons_succ]
  refine wpAnyH_take (i := 64) (oi := ?o64s5) (v := ?v64s5) ?h64s5 (by kernel_rfl) ?f64s5 ?r64s5 (fun _ _ _ h => h) (Or.inl ⟨?w64s5, ?y64s5⟩) (by assumption) ?t64s5
  case h64s5 => simp only [List.getElem?_toArray]; rfl
  case f64s5 => kernel_rfl
  case r64s5 => kernel_rfl
  case w64s5 => rfl
  case y64s5 => (intro u hu; (go_simp) <;> with_reducible rfl)
  try simp only [Act.put, List.setIfInBounds_toArray, List.set_cons_zero, List.set_cons_succ]
  refine wpAnyH_take (i := 66) (oi := ?o66s5) (v := ?v66s5) ?h66s5 (by kernel_rfl) ?f66s5 ?r66s5 (fun _ _ _ h => h) (Or.inl ⟨?w66s5, ?y66s5⟩) (by assumption) ?t66s5
  case h66s5 => simp only [List.getElem?_toArray]; rfl
  case f66s5 => kernel_rfl
  case r66s5 => kernel_rfl
  case w66s5 => rfl
  case y66s5 => (intro u hu; (go_simp) <;> with_reducible rfl)
  try simp only [Act.put, List.setIfInBounds_toArray, List.set_cons_zero, List.set_cons_succ]
  refine wpAnyH_ready (rs := [63]) (by kernel_rfl) (by simp) ?_
  refine AllReadyH.cons (o := ?o63s5) ?h63s5 (fun K hK => ?_) AllReadyH.nil
  case h63s5 => simp only [List.getElem?_toArray]; rfl
  go_simp
  refine (add_e x y hx hy _).mono ?_
  rintro e c63 ⟨z96, rfl, hz96, Hz96, hb63⟩
  refine hK.out _ _ (hH.trans hb63) (fun hH' => ?_)
  clear hK K hH
  have hH := hH'
  clear hH'
  try simp only [List.setIfInBounds_toArray, List.set]
  clear hb63
  refine wpAnyH_ready (rs := [65]) (by kernel_rfl) (by simp) ?_
  refine AllReadyH.cons (o := ?o65s5) ?h65s5 (fun K hK => ?_) AllReadyH.nil
  case h65s5 => simp only [List.getElem?_toArray]; rfl
  go_simp
  refine (sub_e z96 y hz96 hy _).mono ?_
  rintro e c65 ⟨z98, rfl, hz98, Hz98, hb65⟩
  refine hK.out _ _ (hH.trans hb65) (fun hH' => ?_)
  clear hK K hH
  have hH := hH'
  clear hH'
  try simp only [List.setIfInBounds_toArray, List.set]
  clear hb65
  refine wpAnyH_ready (rs := [67]) (by kernel_rfl) (by simp) ?_
  refine AllReadyH.cons (o := ?o67s5) ?h67s5 (fun K hK => ?_) AllReadyH.nil
  case h67s5 => simp only [List.getElem?_toArray]; rfl
  go_simp
  refine (equal_e z98 x hz98 hx _).mono ?_
  rintro e c67 ⟨rfl, hb67⟩
  rw [show same z98 x = true from same_t (by rw [Hz98.out, Hz96.out, em_sub_l, Int.add_sub_cancel, hx.em])]
  refine hK.out _ _ (hH.trans hb67) (fun hH' => ?_)
  clear hK K hH
  have hH := hH'
  clear hH'
  try simp only [List.setIfInBounds_toArray, List.set]
  clear hb67
  refine wpAnyH_take (i := 68) (oi := ?o68s5) (v := ?v68s5) ?h68s5 (by kernel_rfl) ?f68s5 ?r68s5 (fun _ _ _ h => h) (Or.inl ⟨?w68s5, ?y68s5⟩) (by assumption) ?t68s5
  case h68s5 => simp only [List.getElem?_toArray]; rfl
  case f68s5 => kernel_rfl
  case r68s5 => kernel_rfl
  case w68s5 => rfl
  case y68s5 => (intro u hu; (go_simp) <;> with_reducible rfl)
  try simp only [Act.put, List.setIfInBounds_toArray, List.set_cons_zero, List.set_cons_succ]
  refine wpAnyH_take (i := 69) (oi := ?o69s5) (v := ?v69s5) ?h69s5 (by kernel_rfl) ?f69s5 ?r69s5 (fun _ _ _ h => h) (Or.inl ⟨?w69s5, ?y69s5⟩) (by assumption) ?t69s5
  case h69s5 => simp only [List.getElem?_toArray]; rfl
  case f69s5 => kernel_rfl
  case r69s5 => kernel_rfl
  case w69s5 => rfl
  case y69s5 => (intro u hu; (go_simp) <;> with_reducible rfl)
  try simp only [Act.put, List.setIfInBounds_toArray, List.set_cons_zero, List.set_cons_succ]
  exact H _ _ _ _ _ _ _ _ _ hH

set_option maxRecDepth 20000 in
set_option maxHeartbeats 4000000 in
theorem laws_s6 (W : World) (x y z v : Int) (hx : El x) (_hy : El y) (_hz : El z) (_hv : El v) (b11 b12 b13 b14 : Nat) (V11 : Hid (Var W b11 x)) (_V12 : Hid (Var W b12 y)) (_V13 : Hid (Var W b13 z)) (_V14 : Hid (Var W b14 v))
    (u0 u1 u2 u3 u4 u5 u6 u7 u8 u9 u10 u15 u16 u17 u18 u19 u20 u21 u22 u23 u24 u25 u26 u27 u28 u29 u30 u31 u32 u33 u34 u35 u36 u37 u38 u39 u40 u41 u42 u43 u44 u45 u46 u47 u48 u49 u50 u51 u52 u53 u54 u55 u56 u57 u58 u59 u60 u61 u62 u63 u64 u65 u66 u67 u68 u69 u70 u71 u72 u73 u74 u75 u76 u77 u78 u79 u80 u81 u82 u83 u84 u85 u86 u87 u88 u89 u90 u91 u92 u93 u94 u95 u96 u97 u98 u99 u100 u101 u103 u104 u105 u106 u107 u108 u109 u110 u111 u112 u113 u114 u115 u116 u117 u118 u119 u120 u121 u122 u123 u124 u125 u126 u127 u128 u129 u130 u131 u132 : Value) (Q : Exit → Act → World → Prop) (w0 : World) (hH : Ext W w0)
    (H : ∀ (r103 r104 r105 r106 r107 r108 : Value) (w1 : World), Ext W w1 → wpAnyH Try.prog .any ops6 (NoPanic Q) (Ext W) 24 #[true, true, true, true, true, true, true, true, true, true, true, true, true, true, true, true, true, true, true, true, true, true, true, true, true, true, true, true, true, true, true, true, true, true, true, true, true, true, true, true, true, true, true, true, true, true, true, true, true, true, true, true, true, true, true, true, true, true, true, true, true, true, true, true, true, true, true, true, true, true, true, true, true, true, true, true, true, false, false, false, false, false, false, false, false, false, false, false, false, false, false, false, false, false, false, false, false, false, false, false, false] ⟨#[u0, u1, u2, u3, u4, u5, u6, u7, u8, u9, u10, .pointer (some ⟨b11, 0, none⟩), .pointer (some ⟨b12, 0, none⟩), .pointer (some ⟨b13, 0, none⟩), .pointer (some ⟨b14, 0, none⟩), u15, u16, u17, u18, u19, u20, u21, u22, u23, u24, u25, u26, u27, u28, u29, u30, u31, u32, u33, u34, u35, u36, u37, u38, u39, u40, u41, u42, u43, u44, u45, u46, u47, u48, u49, u50, u51, u52, u53, u54, u55, u56, u57, u58, u59, u60, u61, u62, u63, u64, u65, u66, u67, u68, u69, u70, u71, u72, u73, u74, u75, u76, u77, u78, u79, u80, u81, u82, u83, u84, u85, u86, u87, u88, u89, u90, u91, u92, u93, u94, u95, u96, u97, u98, u99, u100, u101, .bool true, r103, r104, r105, r106, r107, r108, .bool true, u110, u111, u112, u113, u114, u115, u116, u117, u118, u119, u120, u121, u122, u123, u124, u125, u126, u127, u128, u129, u130, u131, u132], []⟩ w1) :
    wpAnyH Try.prog .any ops6 (NoPanic Q) (Ext W) 31 #[true, true, true, true, true, true, true, true, true, true, true, true, true, true, true, true, true, true, true, true, true, true, true, true, true, true, true, true, true, true, true, true, true, true, true, true, true, true, true, true, true, true, true, true, true, true, true, true, true, true, true, true, true, true, true, true, true, true, true, true, true, true, true, true, true, true, true, true, true, true, false, false, false, false, false, false, false, false, false, false, false, false, false, false, false, false, false, false, false, false, false, false, false, false, false, false, false, false, false, false, false] ⟨#[u0, u1, u2, u3, u4, u5, u6, u7, u8, u9, u10, .pointer (some ⟨b11, 0, none⟩), .pointer (some ⟨b12, 0, none⟩), .pointer (some ⟨b13, 0, none⟩), .pointer (some ⟨b14, 0, none⟩), u15, u16, u17, u18, u19, u20, u21, u22, u23, u24, u25, u26, u27, u28, u29, u30, u31, u32, u33, u34, u35, u36, u37, u38, u39, u40, u41, u42, u43, u44, u45, u46, u47, u48, u49, u50, u51, u52, u53, u54, u55, u56, u57, u58, u59, u60, u61, u62, u63, u64, u65, u66, u67, u68, u69, u70, u71, u72, u73, u74, u75, u76, u77, u78, u79, u80, u81, u82, u83, u84, u85, u86, u87, u88, u89, u90, u91, u92, u93, u94, u95, u96, u97, u98, u99, u100, u101, .bool true, u103, u104, u105, u106, u107, u108, u109, u110, u111, u112, u113, u114, u115, u116, u117, u118, u119, u120, u121, u122, u123, u124, u125, u126, u127, u128, u129, u130, u131, u132], []⟩ w0 := by
  obtain ⟨V11c0, V11c1, V11c2, V11c3⟩ := V11.out
  have V11u0 : ∀ u, Ext W u → u.cell? ⟨b11, 0, none⟩ = some (.int .u64 (e0 x)) := fun u hu => hu.cell V11c0
  have V11u1 : ∀ u, Ext W u → u.cell? ⟨b11, 1, none⟩ = some (.int .u64 (e1 x)) := fun u hu => hu.cell V11c1
  have V11u2 : ∀ u, Ext W u → u.cell? ⟨b11, 2, none⟩ = some (.int .u64 (e2 x)) := fun u hu => hu.cell V11c2
  have V11u3 : ∀ u, Ext W u → u.cell? ⟨b11, 3, none⟩ = some (.int .u64 (e3 x)) := fun u hu => hu.cell V11c3
  clear V11c0 V11c1 V11c2 V11c3
  unfold ops6
  refine wpAnyH_take (i := 70) (oi := ?o70s6) (v := ?v70s6) ?h70s6 (by kernel_rfl) ?f70s6 ?r70s6 (fun _ _ _ h => h) (Or.inl ⟨?w70s6, ?y70s6⟩) (by assumption) ?t70s6
  case h70s6 => simp only [List.getElem?_toArray]; rfl
  case f70s6 => kernel_rfl
  case r70s6 => kernel_rfl
  case w70s6 => rfl
  case y70s6 => (intro u hu; (go_simp) <;> with_reducible rfl)
  try simp only [Act.put, List.setIfInBounds_toArray, List.set_cons_zero, List.set_cons_succ]
  refine wpAnyH_take (i := 73) (oi := ?o73s6) (v := ?v73s6) ?h73s6 (by kernel_rfl) ?f73s6 ?r73s6 (fun _ _ _ h => h) (Or.inl ⟨?w73s6, ?y73s6⟩) (by assumption) ?t73s6
  case h73s6 => simp only [List.getElem?_toArray]; rfl
  case f73s6 => kernel_rfl
  case r73s6 => kernel_rfl
  case w73s6 => rfl
  case y73s6 => (intro u hu; (go_simp) <;> with_reducible rfl)
  try simp only [Act.put, List.setIfInBounds_toArray, List.set_cons_zero, List.set_cons_succ]
  refine wpAnyH_ready (rs := [71]) (by kernel_rfl) (by simp) ?_
  refine AllReadyH.cons (o := ?o71s6) ?h71s6 (fun K hK => ?_) AllReadyH.nil
  case h71s6 => simp only [List.getElem?_toArray]; rfl
  go_simp
  refine (zero_e _).mono ?_
  rintro e c71 ⟨rfl, hb71⟩
  refine hK.out _ _ (hH.trans hb71) (fun hH' => ?_)
  clear hK K hH
  have hH := hH'
  clear hH'
  try simp only [List.setIfInBounds_toArray, List.set]
  clear hb71
  refine wpAnyH_ready (rs := [72]) (by kernel_rfl) (by simp) ?_
  refine AllReadyH.cons (o := ?o72s6) ?h72s6 (fun K hK => ?_) AllReadyH.nil
  case h72s6 => simp only [List.getElem?_toArray]; rfl
  go_simp
  refine (add_e x 0 hx El.zero _).mono ?_
  rintro e c72 ⟨z105, rfl, hz105, Hz105, hb72⟩
  refine hK.out _ _ (hH.trans hb72) (fun hH' => ?_)
  clear hK K hH
  have hH := hH'
  clear hH'
  try simp only [List.setIfInBounds_toArray, List.set]
  clear hb72
  refine wpAnyH_ready (rs := [74]) (by kernel_rfl) (by simp) ?_
  refine AllReadyH.cons (o := ?o74s6) ?h74s6 (fun K hK => ?_) AllReadyH.nil
  case h74s6 => simp only [List.getElem?_toArray]; rfl
  go_simp
  refine (equal_e z105 x hz105 hx _).mono ?_
  rintro e c74 ⟨rfl, hb74⟩
  rw [show same z105 x = true from same_t (by rw [Hz105.out, Int.add_zero, hx.em])]
  refine hK.out _ _ (hH.trans hb74) (fun hH' => ?_)
  clear hK K hH
  have hH := hH'
  clear hH'
  try simp only [List.setIfInBounds_toArray, List.set]
  clear hb74
  refine wpAnyH_take (i := 75) (oi := ?o75s6) (v := ?v75s6) ?h75s6 (by kernel_rfl) ?f75s6 ?r75s6 (fun _ _ _ h => h) (Or.inl ⟨?w75s6, ?y75s6⟩) (by assumption) ?t75s6
  case h75s6 => simp only [List.getElem?_toArray]; rfl
  case f75s6 => kernel_rfl
  case r75s6 => kernel_rfl
  case w75s6 => rfl
  case y75s6 => (intro u hu; (go_simp) <;> with_reducible rfl)
  try simp only [Act.put, List.setIfInBounds_toArray, List.set_cons_zero, List.set_cons_succ]
  refine wpAnyH_take (i := 76) (oi := ?o76s6) (v := ?v76s6) ?h76s6 (by kernel_rfl) ?f76s6 ?r76s6 (fun _ _ _ h => h) (Or.inl ⟨?w76s6, ?y76s6⟩) (by assumption) ?t76s6
  case h76s6 => simp only [List.getElem?_toArray]; rfl
  case f76s6 => kernel_rfl
  case r76s6 => kernel_rfl
  case w76s6 => rfl
  case y76s6 => (intro u hu; (go_simp) <;> with_reducible rfl)
  try simp only [Act.put, List.setIfInBounds_toArray, List.set_cons_zero, List.set_cons_succ]
  exact H _ _ _ _ _ _ _ hH

set_option maxRecDepth 20000 in
set_option maxHeartbeats 4000000 in
theorem laws_s7 (W : World) (x y z v : Int) (hx : El x) (_hy : El y) (_hz : El z) (_hv : El v) (b11 b12 b13 b14 : Nat) (V11 : Hid (Var W b11 x)) (_V12 : Hid (Var W b12 y)) (_V13 : Hid (Var W b13 z)) (_V14 : Hid (Var W b14 v))
    (u0 u1 u2 u3 u4 u5 u6 u7 u8 u9 u10 u15 u16 u17 u18 u19 u20 u21 u22 u23 u24 u25 u26 u27 u28 u29 u30 u31 u32 u33 u34 u35 u36 u37 u38 u39 u40 u41 u42 u43 u44 u45 u46 u47 u48 u49 u50 u51 u52 u53 u54 u55 u56 u57 u58 u59 u60 u61 u62 u63 u64 u65 u66 u67 u68 u69 u70 u71 u72 u73 u74 u75 u76 u77 u78 u79 u80 u81 u82 u83 u84 u85 u86 u87 u88 u89 u90 u91 u92 u93 u94 u95 u96 u97 u98 u99 u100 u101 u102 u103 u104 u105 u106 u107 u108 u110 u111 u112 u113 u114 u115 u116 u117 u118 u119 u120 u121 u122 u123 u124 u125 u126 u127 u128 u129 u130 u131 u132 : Value) (Q : Exit → Act → World → Prop) (w0 : World) (hH : Ext W w0)
    (H : ∀ (r110 r111 r112 r113 r114 r115 : Value) (w1 : World), Ext W w1 → wpAnyH Try.prog .any ops6 (NoPanic Q) (Ext W) 17 #[true, true, true, true, true, true, true, true, true, true, true, true, true, true, true, true, true, true, true, true, true, true, true, true, true, true, true, true, true, true, true, true, true, true, true, true, true, true, true, true, true, true, true, true, true, true, true, true, true, true, true, true, true, true, true, true, true, true, true, true, true, true, true, true, true, true, true, true, true, true, true, true, true, true, true, true, true, true, true, true, true, true, true, true, false, false, false, false, false, false, false, false, false, false, false, false, false, false, false, false, false] ⟨#[u0, u1, u2, u3, u4, u5, u6, u7, u8, u9, u10, .pointer (some ⟨b11, 0, none⟩), .pointer (some ⟨b12, 0, none⟩), .pointer (some ⟨b13, 0, none⟩), .pointer (some ⟨b14, 0, none⟩), u15, u16, u17, u18, u19, u20, u21, u22, u23, u24, u25, u26, u27, u28, u29, u30, u31, u32, u33, u34, u35, u36, u37, u38, u39, u40, u41, u42, u43, u44, u45, u46, u47, u48, u49, u50, u51, u52, u53, u54, u55, u56, u57, u58, u59, u60, u61, u62, u63, u64, u65, u66, u67, u68, u69, u70, u71, u72, u73, u74, u75, u76, u77, u78, u79, u80, u81, u82, u83, u84, u85, u86, u87, u88, u89, u90, u91, u92, u93, u94, u95, u96, u97, u98, u99, u100, u101, u102, u103, u104, u105, u106, u107, u108, .bool true, r110, r111, r112, r113, r114, r115, .bool true, u117, u118, u119, u120, u121, u122, u123, u124, u125, u126, u127, u128, u129, u130, u131, u132], []⟩ w1) :
    wpAnyH Try.prog .any ops6 (NoPanic Q) (Ext W) 24 #[true, true, true, true, true, true, true, true, true, true, true, true, true, true, true, true, true, true, true, true, true, true, true, true, true, true, true, true, true, true, true, true, true, true, true, true, true, true, true, true, true, true, true, true, true, true, true, true, true, true, true, true, true, true, true, true, true, true, true, true, true, true, true, true, true, true, true, true, true, true, true, true, true, true, true, true, true, false, false, false, false, false, false, false, false, false, false, false, false, false, false, false, false, false, false, false, false, false, false, false, false] ⟨#[u0, u1, u2, u3, u4, u5, u6, u7, u8, u9, u10, .pointer (some ⟨b11, 0, none⟩), .pointer (some ⟨b12, 0, none⟩), .pointer (some ⟨b13, 0, none⟩), .pointer (some ⟨b14, 0, none⟩), u15, u16, u17, u18, u19, u20, u21, u22, u23, u24, u25, u26, u27, u28, u29, u30, u31, u32, u33, u34, u35, u36, u37, u38, u39, u40, u41, u42, u43, u44, u45, u46, u47, u48, u49, u50, u51, u52, u53, u54, u55, u56, u57, u58, u59, u60, u61, u62, u63, u64, u65, u66, u67, u68, u69, u70, u71, u72, u73, u74, u75, u76, u77, u78, u79, u80, u81, u82, u83, u84, u85, u86, u87, u88, u89, u90, u91, u92, u93, u94, u95, u96, u97, u98, u99, u100, u101, u102, u103, u104, u105, u106, u107, u108, .bool true, u110, u111, u112, u113, u114, u115, u116, u117, u118, u119, u120, u121, u122, u123, u124, u125, u126, u127, u128, u129, u130, u131, u132], []⟩ w0 := by
  obtain ⟨V11c0, V11c1, V11c2, V11c3⟩ := V11.out
  have V11u0 : ∀ u, Ext W u → u.cell? ⟨b11, 0, none⟩ = some (.int .u64 (e0 x)) := fun u hu => hu.cell V11c0
  have V11u1 : ∀ u, Ext W u → u.cell? ⟨b11, 1, none⟩ = some (.int .u64 (e1 x)) := fun u hu => hu.cell V11c1
  have V11u2 : ∀ u, Ext W u → u.cell? ⟨b11, 2, none⟩ = some (.int .u64 (e2 x)) := fun u hu => hu.cell V11c2
  have V11u3 : ∀ u, Ext W u → u.cell? ⟨b11, 3, none⟩ = some (.int .u64 (e3 x)) := fun u hu => hu.cell V11c3
  clear V11c0 V11c1 V11c2 V11c3
  unfold ops6
  refine wpAnyH_take (i := 77) (oi := ?o77s7) (v := ?v77s7) ?h77s7 (by kernel_rfl) ?f77s7 ?r77s7 (fun _ _ _ h => h) (Or.inl ⟨?w77s7, ?y77s7⟩) (by assumption) ?t77s7
  case h77s7 => simp only [List.getElem?_toArray]; rfl
  case f77s7 => kernel_rfl
  case r77s7 => kernel_rfl
  case w77s7 => rfl
  case y77s7 => (intro u hu; (go_simp) <;> with_reducible rfl)
  try simp only [Act.put, List.setIfInBounds_toArray, List.set_cons_zero, List.set_cons_succ]
  refine wpAnyH_take (i := 80) (oi := ?o80s7) (v := ?v80s7) ?h80s7 (by kernel_rfl) ?f80s7 ?r80s7 (fun _ _ _ h => h) (Or.inl ⟨?w80s7, ?y80s7⟩) (by assumption) ?t80s7
  case h80s7 => simp only [List.getElem?_toArray]; rfl
  case f80s7 => kernel_rfl
  case r80s7 => kernel_rfl
  case w80s7 => rfl
  case y80s7 => (intro u hu; (go_simp) <;> with_reducible rfl)
  try simp only [Act.put, List.setIfInBounds_toArray, List.set_cons_zero, List.set_cons_succ]
  refine wpAnyH_ready (rs := [78]) (by kernel_rfl) (by simp) ?_
  refine AllReadyH.cons (o := ?o78s7) ?h78s7 (fun K hK => ?_) AllReadyH.nil
  case h78s7 => simp only [List.getElem?_toArray]; rfl
  go_simp
  refine (one_e _).mono ?_
  rintro e c78 ⟨rfl, hb78⟩
  refine hK.out _ _ (hH.trans hb78) (fun hH' => ?_)
  clear hK K hH
  have hH := hH'
  clear hH'
  try simp only [List.setIfInBounds_toArray, List.set]
  clear hb78
  refine wpAnyH_ready (rs := [79]) (by kernel_rfl) (by simp) ?_
  refine AllReadyH.cons (o := ?o79s7) ?h79s7 (fun K hK => ?_) AllReadyH.nil
  case h79s7 => simp only [List.getElem?_toArray]; rfl
  go_simp
  refine (mul_e x 1 hx El.one _).mono ?_
  rintro e c79 ⟨z112, rfl, hz112, Hz112, hb79⟩
  refine hK.out _ _ (hH.trans hb79) (fun hH' => ?_)
  clear hK K hH
  have hH := hH'
  clear hH'
  try simp only [List.setIfInBounds_toArray, List.set]
  clear hb79
  refine wpAnyH_ready (rs := [81]) (by kernel_rfl) (by simp) ?_
  refine AllReadyH.cons (o := ?o81s7) ?h81s7 (fun K hK => ?_) AllReadyH.nil
  case h81s7 => simp only [List.getElem?_toArray]; rfl
  go_simp
  refine (equal_e z112 x hz112 hx _).mono ?_
  rintro e c81 ⟨rfl, hb81⟩
  rw [show same z112 x = true from same_t (by rw [Hz112.out, Int.mul_one, hx.em])]
  refine hK.out _ _ (hH.trans hb81) (fun hH' => ?_)
  clear hK K hH
  have hH := hH'
  clear hH'
  try simp only [List.setIfInBounds_toArray, List.set]
  clear hb81
  refine wpAnyH_take (i := 82) (oi := ?o82s7) (v := ?v82s7) ?h82s7 (by kernel_rfl) ?f82s7 ?r82s7 (fun _ _ _ h => h) (Or.inl ⟨?w82s7, ?y82s7⟩) (by assumption) ?t82s7
  case h82s7 => simp only [List.getElem?_toArray]; rfl
  case f82s7 => kernel_rfl
  case r82s7 => kernel_rfl
  case w82s7 => rfl
  case y82s7 => (intro u hu; (go_simp) <;> with_reducible rfl)
  try simp only [Act.put, List.setIfInBounds_toArray, List.set_cons_zero, List.set_cons_succ]
  refine wpAnyH_take (i := 83) (oi := ?o83s7) (v := ?v83s7) ?h83s7 (by kernel_rfl) ?f83s7 ?r83s7 (fun _ _ _ h => h) (Or.inl ⟨?w83s7, ?y83s7⟩) (by assumption) ?t83s7
  case h83s7 => simp only [List.getElem?_toArray]; rfl
  case f83s7 => kernel_rfl
  case r83s7 => kernel_rfl
  case w83s7 => rfl
  case y83s7 => (intro u hu; (go_simp) <;> with_reducible rfl)
  try simp only [Act.put, List.setIfInBounds_toArray, List.set_cons_zero, List.set_cons_succ]
  exact H _ _ _ _ _ _ _ hH
end Go.Proofs.Ytgnfbnjhmiggbaa
