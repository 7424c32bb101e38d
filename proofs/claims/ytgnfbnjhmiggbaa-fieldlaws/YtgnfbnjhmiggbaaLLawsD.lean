/-
  Stretches of the last statement of FieldLaws, each from whatever frame. No statement of the seat is proved here.
-/
import Derived.Test.YtgnfbnjhmiggbaaLLawsOps
namespace Go.Proofs.Ytgnfbnjhmiggbaa
open Go.RowKit

set_option maxRecDepth 20000 in
set_option maxHeartbeats 4000000 in
theorem laws_s8z (W : World) (x y z v : Int) (_hx : El x) (_hy : El y) (_hz : El z) (hv : El v) (HV : Hid (v = x * pw x 57896044618658097711785492504343953926634992332820282019728792003956564819947 % 57896044618658097711785492504343953926634992332820282019728792003956564819949)) (HX0 : Hid (x = 0)) (b11 b12 b13 b14 : Nat) (_V11 : Hid (Var W b11 x)) (_V12 : Hid (Var W b12 y)) (_V13 : Hid (Var W b13 z)) (V14 : Hid (Var W b14 v))
    (u0 u1 u2 u3 u4 u5 u6 u7 u8 u9 u10 u16 u17 u18 u19 u20 u21 u22 u23 u24 u25 u26 u27 u28 u29 u30 u31 u32 u33 u34 u35 u36 u37 u38 u39 u40 u41 u42 u43 u44 u45 u46 u47 u48 u49 u50 u51 u52 u53 u54 u55 u56 u57 u58 u59 u60 u61 u62 u63 u64 u65 u66 u67 u68 u69 u70 u71 u72 u73 u74 u75 u76 u77 u78 u79 u80 u81 u82 u83 u84 u85 u86 u87 u88 u89 u90 u91 u92 u93 u94 u95 u96 u97 u98 u99 u100 u101 u102 u103 u104 u105 u106 u107 u108 u109 u110 u111 u112 u113 u114 u115 u117 u118 u119 u120 u121 u122 u123 u124 u125 u126 u127 u128 u129 u130 u131 u132 : Value) (Q : Exit → Act → World → Prop) (w0 : World) (hH : Ext W w0)
    (H : ∀ (r117 r118 r119 r120 r121 r122 r123 r124 r125 r126 r127 r128 r129 r130 r131 r132 : Value) (w1 : World), Ext W w1 → wpAnyH Try.prog .any ops6 (NoPanic Q) (Ext W) 0 #[true, true, true, true, true, true, true, true, true, true, true, true, true, true, true, true, true, true, true, true, true, true, true, true, true, true, true, true, true, true, true, true, true, true, true, true, true, true, true, true, true, true, true, true, true, true, true, true, true, true, true, true, true, true, true, true, true, true, true, true, true, true, true, true, true, true, true, true, true, true, true, true, true, true, true, true, true, true, true, true, true, true, true, true, true, true, true, true, true, true, true, true, true, true, true, true, true, true, true, true, true] ⟨#[u0, u1, u2, u3, u4, u5, u6, u7, u8, u9, .bool true, .pointer (some ⟨b11, 0, none⟩), .pointer (some ⟨b12, 0, none⟩), .pointer (some ⟨b13, 0, none⟩), .pointer (some ⟨b14, 0, none⟩), .bool true, u16, u17, u18, u19, u20, u21, u22, u23, u24, u25, u26, u27, u28, u29, u30, u31, u32, u33, u34, u35, u36, u37, u38, u39, u40, u41, u42, u43, u44, u45, u46, u47, u48, u49, u50, u51, u52, u53, u54, u55, u56, u57, u58, u59, u60, u61, u62, u63, u64, u65, u66, u67, u68, u69, u70, u71, u72, u73, u74, u75, u76, u77, u78, u79, u80, u81, u82, u83, u84, u85, u86, u87, u88, u89, u90, u91, u92, u93, u94, u95, u96, u97, u98, u99, u100, u101, u102, u103, u104, u105, u106, u107, u108, u109, u110, u111, u112, u113, u114, u115, .bool true, r117, r118, r119, r120, r121, r122, r123, r124, r125, r126, r127, r128, r129, r130, r131, r132], []⟩ w1) :
    wpAnyH Try.prog .any ops6 (NoPanic Q) (Ext W) 17 #[true, true, true, true, true, true, true, true, true, true, true, true, true, true, true, true, true, true, true, true, true, true, true, true, true, true, true, true, true, true, true, true, true, true, true, true, true, true, true, true, true, true, true, true, true, true, true, true, true, true, true, true, true, true, true, true, true, true, true, true, true, true, true, true, true, true, true, true, true, true, true, true, true, true, true, true, true, true, true, true, true, true, true, true, false, false, false, false, false, false, false, false, false, false, false, false, false, false, false, false, false] ⟨#[u0, u1, u2, u3, u4, u5, u6, u7, u8, u9, u10, .pointer (some ⟨b11, 0, none⟩), .pointer (some ⟨b12, 0, none⟩), .pointer (some ⟨b13, 0, none⟩), .pointer (some ⟨b14, 0, none⟩), .bool true, u16, u17, u18, u19, u20, u21, u22, u23, u24, u25, u26, u27, u28, u29, u30, u31, u32, u33, u34, u35, u36, u37, u38, u39, u40, u41, u42, u43, u44, u45, u46, u47, u48, u49, u50, u51, u52, u53, u54, u55, u56, u57, u58, u59, u60, u61, u62, u63, u64, u65, u66, u67, u68, u69, u70, u71, u72, u73, u74, u75, u76, u77, u78, u79, u80, u81, u82, u83, u84, u85, u86, u87, u88, u89, u90, u91, u92, u93, u94, u95, u96, u97, u98, u99, u100, u101, u102, u103, u104, u105, u106, u107, u108, u109, u110, u111, u112, u113, u114, u115, .bool true, u117, u118, u119, u120, u121, u122, u123, u124, u125, u126, u127, u128, u129, u130, u131, u132], []⟩ w0 := by
  obtain ⟨V14c0, V14c1, V14c2, V14c3⟩ := V14.out
  have V14u0 : ∀ u, Ext W u → u.cell? ⟨b14, 0, none⟩ = some (.int .u64 (e0 v)) := fun u hu => hu.cell V14c0
  have V14u1 : ∀ u, Ext W u → u.cell? ⟨b14, 1, none⟩ = some (.int .u64 (e1 v)) := fun u hu => hu.cell V14c1
  have V14u2 : ∀ u, Ext W u → u.cell? ⟨b14, 2, none⟩ = some (.int .u64 (e2 v)) := fun u hu => hu.cell V14c2
  have V14u3 : ∀ u, Ext W u → u.cell? ⟨b14, 3, none⟩ = some (.int .u64 (e3 v)) := fun u hu => hu.cell V14c3
  clear V14c0 V14c1 V14c2 V14c3
  unfold ops6
  refine wpAnyH_take (i := 84) (oi := ?o84s8) (v := ?v84s8) ?h84s8 (by kernel_rfl) ?f84s8 ?r84s8 (fun _ _ _ h => h) (Or.inl ⟨?w84s8, ?y84s8⟩) (by assumption) ?t84s8
  case h84s8 => simp only [List.getElem?_toArray]; rfl
  case f84s8 => kernel_rfl
  case r84s8 => kernel_rfl
  case w84s8 => rfl
  case y84s8 => (intro u hu; (go_simp) <;> with_reducible rfl)
  try simp only [Act.put, List.setIfInBounds_toArray, List.set_cons_zero, List.set_cons_succ]
  refine wpAnyH_take (i := 85) (oi := ?o85s8) (v := ?v85s8) ?h85s8 (by kernel_rfl) ?f85s8 ?r85s8 (fun _ _ _ h => h) (Or.inl ⟨?w85s8, ?y85s8⟩) (by assumption) ?t85s8
  case h85s8 => simp only [List.getElem?_toArray]; rfl
  case f85s8 => kernel_rfl
  case r85s8 => kernel_rfl
  case w85s8 => rfl
  case y85s8 => (intro u hu; (go_simp) <;> with_reducible rfl)
  try simp only [Act.put, List.setIfInBounds_toArray, List.set_cons_zero, List.set_cons_succ]
  refine wpAnyH_take (i := 86) (oi := ?o86s8) (v := ?v86s8) ?h86s8 (by kernel_rfl) ?f86s8 ?r86s8 (fun _ _ _ h => h) (Or.inl ⟨?w86s8, ?y86s8⟩) (by assumption) ?t86s8
  case h86s8 => simp only [List.getElem?_toArray]; rfl
  case f86s8 => kernel_rfl
  case r86s8 => kernel_rfl
  case w86s8 => rfl
  case y86s8 => (intro u hu; (go_simp) <;> with_reducible rfl)
  try simp only [Act.put, List.setIfInBounds_toArray, List.set_cons_zero, List.set_cons_succ]
  refine wpAnyH_ready (rs := [87]) (by kernel_rfl) (by simp) ?_
  refine AllReadyH.cons (o := ?o87s8) ?h87s8 (fun K hK => ?_) AllReadyH.nil
  case h87s8 => simp only [List.getElem?_toArray]; rfl
  go_simp
  refine (zero_e _).mono ?_
  rintro e c87 ⟨rfl, hb87⟩
  refine hK.out _ _ (hH.trans hb87) (fun hH' => ?_)
  clear hK K hH
  have hH := hH'
  clear hH'
  try simp only [List.setIfInBounds_toArray, List.set]
  clear hb87
  refine wpAnyH_ready (rs := [88]) (by kernel_rfl) (by simp) ?_
  refine AllReadyH.cons (o := ?o88s8) ?h88s8 (fun K hK => ?_) AllReadyH.nil
  case h88s8 => simp only [List.getElem?_toArray]; rfl
  go_simp
  refine (equal_e v 0 hv El.zero _).mono ?_
  rintro e c88 ⟨rfl, hb88⟩
  rw [show same v 0 = true from same_t (by rw [HV.out, HX0.out, Int.zero_mul]; rfl)]
  refine hK.out _ _ (hH.trans hb88) (fun hH' => ?_)
  clear hK K hH
  have hH := hH'
  clear hH'
  try simp only [List.setIfInBounds_toArray, List.set]
  clear hb88
  refine wpAnyH_take (i := 89) (oi := ?o89s8) (v := ?v89s8) ?h89s8 (by kernel_rfl) ?f89s8 ?r89s8 (fun _ _ _ h => h) (Or.inl ⟨?w89s8, ?y89s8⟩) (by assumption) ?t89s8
  case h89s8 => simp only [List.getElem?_toArray]; rfl
  case f89s8 => kernel_rfl
  case r89s8 => kernel_rfl
  case w89s8 => rfl
  case y89s8 => (intro u hu; (go_simp) <;> with_reducible rfl)
  try simp only [Act.put, List.setIfInBounds_toArray, List.set_cons_zero, List.set_cons_succ]
  refine wpAnyH_take (i := 90) (oi := ?o90s8) (v := ?v90s8) ?h90s8 (by kernel_rfl) ?f90s8 ?r90s8 (fun _ _ _ h => h) (Or.inl ⟨?w90s8, ?y90s8⟩) (by assumption) ?t90s8
  case h90s8 => simp only [List.getElem?_toArray]; rfl
  case f90s8 => kernel_rfl
  case r90s8 => kernel_rfl
  case w90s8 => rfl
  case y90s8 => (intro u hu; (go_simp) <;> with_reducible rfl)
  try simp only [Act.put, List.setIfInBounds_toArray, List.set_cons_zero, List.set_cons_succ]
  refine wpAnyH_take (i := 91) (oi := ?o91s8) (v := undef) ?h91s8 (by kernel_rfl) ?f91s8 ?r91s8 (fun _ _ _ h => h) (Or.inr ⟨?w91s8, rfl⟩) (by assumption) ?t91s8
  case h91s8 => simp only [List.getElem?_toArray]; rfl
  case f91s8 => kernel_rfl
  case r91s8 => kernel_rfl
  case w91s8 => rfl
  try simp only [Act.put, List.setIfInBounds_toArray, List.set_cons_zero, List.set_cons_succ]
  refine wpAnyH_take (i := 92) (oi := ?o92s8) (v := undef) ?h92s8 (by kernel_rfl) ?f92s8 ?r92s8 (fun _ _ _ h => h) (Or.inr ⟨?w92s8, rfl⟩) (by assumption) ?t92s8
  case h92s8 => simp only [List.getElem?_toArray]; rfl
  case f92s8 => kernel_rfl
  case r92s8 => kernel_rfl
  case w92s8 => rfl
  try simp only [Act.put, List.setIfInBounds_toArray, List.set_cons_zero, List.set_cons_succ]
  refine wpAnyH_take (i := 93) (oi := ?o93s8) (v := undef) ?h93s8 (by kernel_rfl) ?f93s8 ?r93s8 (fun _ _ _ h => h) (Or.inr ⟨?w93s8, rfl⟩) (by assumption) ?t93s8
  case h93s8 => simp only [List.getElem?_toArray]; rfl
  case f93s8 => kernel_rfl
  case r93s8 => kernel_rfl
  case w93s8 => rfl
  try simp only [Act.put, List.setIfInBounds_toArray, List.set_cons_zero, List.set_cons_succ]
  refine wpAnyH_take (i := 94) (oi := ?o94s8) (v := undef) ?h94s8 (by kernel_rfl) ?f94s8 ?r94s8 (fun _ _ _ h => h) (Or.inr ⟨?w94s8, rfl⟩) (by assumption) ?t94s8
  case h94s8 => simp only [List.getElem?_toArray]; rfl
  case f94s8 => kernel_rfl
  case r94s8 => kernel_rfl
  case w94s8 => rfl
  try simp only [Act.put, List.setIfInBounds_toArray, List.set_cons_zero, List.set_cons_succ]
  refine wpAnyH_take (i := 95) (oi := ?o95s8) (v := undef) ?h95s8 (by kernel_rfl) ?f95s8 ?r95s8 (fun _ _ _ h => h) (Or.inr ⟨?w95s8, rfl⟩) (by assumption) ?t95s8
  case h95s8 => simp only [List.getElem?_toArray]; rfl
  case f95s8 => kernel_rfl
  case r95s8 => kernel_rfl
  case w95s8 => rfl
  try simp only [Act.put, List.setIfInBounds_toArray, List.set_cons_zero, List.set_cons_succ]
  refine wpAnyH_take (i := 96) (oi := ?o96s8) (v := undef) ?h96s8 (by kernel_rfl) ?f96s8 ?r96s8 (fun _ _ _ h => h) (Or.inr ⟨?w96s8, rfl⟩) (by assumption) ?t96s8
  case h96s8 => simp only [List.getElem?_toArray]; rfl
  case f96s8 => kernel_rfl
  case r96s8 => kernel_rfl
  case w96s8 => rfl
  try simp only [Act.put, List.setIfInBounds_toArray, List.set_cons_zero, List.set_cons_succ]
  refine wpAnyH_take (i := 97) (oi := ?o97s8) (v := undef) ?h97s8 (by kernel_rfl) ?f97s8 ?r97s8 (fun _ _ _ h => h) (Or.inr ⟨?w97s8, rfl⟩) (by assumption) ?t97s8
  case h97s8 => simp only [List.getElem?_toArray]; rfl
  case f97s8 => kernel_rfl
  case r97s8 => kernel_rfl
  case w97s8 => rfl
  try simp only [Act.put, List.setIfInBounds_toArray, List.set_cons_zero, List.set_cons_succ]
  refine wpAnyH_take (i := 98) (oi := ?o98s8) (v := ?v98s8) ?h98s8 (by kernel_rfl) ?f98s8 ?r98s8 (fun _ _ _ h => h) (Or.inl ⟨?w98s8, ?y98s8⟩) (by assumption) ?t98s8
  case h98s8 => simp only [List.getElem?_toArray]; rfl
  case f98s8 => kernel_rfl
  case r98s8 => kernel_rfl
  case w98s8 => rfl
  case y98s8 => (intro u hu; (go_simp) <;> with_reducible rfl)
  try simp only [Act.put, List.setIfInBounds_toArray, List.set_cons_zero, List.set_cons_succ]
  refine wpAnyH_take (i := 99) (oi := ?o99s8) (v := ?v99s8) ?h99s8 (by kernel_rfl) ?f99s8 ?r99s8 (fun _ _ _ h => h) (Or.inl ⟨?w99s8, ?y99s8⟩) (by assumption) ?t99s8
  case h99s8 => simp only [List.getElem?_toArray]; rfl
  case f99s8 => kernel_rfl
  case r99s8 => kernel_rfl
  case w99s8 => rfl
  case y99s8 => (intro u hu; (go_simp) <;> with_reducible rfl)
  try simp only [Act.put, List.setIfInBounds_toArray, List.set_cons_zero, List.set_cons_succ]
  refine wpAnyH_take (i := 100) (oi := ?o100s8) (v := ?v100s8) ?h100s8 (by kernel_rfl) ?f100s8 ?r100s8 (fun _ _ _ h => h) (Or.inl ⟨?w100s8, ?y100s8⟩) (by assumption) ?t100s8
  case h100s8 => simp only [List.getElem?_toArray]; rfl
  case f100s8 => kernel_rfl
  case r100s8 => kernel_rfl
  case w100s8 => rfl
  case y100s8 => (intro u hu; (go_simp) <;> with_reducible rfl)
  try simp only [Act.put, List.setIfInBounds_toArray, List.set_cons_zero, List.set_cons_succ]
  exact H _ _ _ _ _ _ _ _ _ _ _ _ _ _ _ _ _ hH

set_option maxRecDepth 20000 in
set_option maxHeartbeats 4000000 in
theorem laws_s8n (W : World) (x y z v : Int) (hx : El x) (_hy : El y) (_hz : El z) (hv : El v) (HV : Hid (v = x * pw x 57896044618658097711785492504343953926634992332820282019728792003956564819947 % 57896044618658097711785492504343953926634992332820282019728792003956564819949)) (HX0 : Hid (x ≠ 0)) (b11 b12 b13 b14 : Nat) (_V11 : Hid (Var W b11 x)) (_V12 : Hid (Var W b12 y)) (_V13 : Hid (Var W b13 z)) (V14 : Hid (Var W b14 v))
    (u0 u1 u2 u3 u4 u5 u6 u7 u8 u9 u10 u16 u17 u18 u19 u20 u21 u22 u23 u24 u25 u26 u27 u28 u29 u30 u31 u32 u33 u34 u35 u36 u37 u38 u39 u40 u41 u42 u43 u44 u45 u46 u47 u48 u49 u50 u51 u52 u53 u54 u55 u56 u57 u58 u59 u60 u61 u62 u63 u64 u65 u66 u67 u68 u69 u70 u71 u72 u73 u74 u75 u76 u77 u78 u79 u80 u81 u82 u83 u84 u85 u86 u87 u88 u89 u90 u91 u92 u93 u94 u95 u96 u97 u98 u99 u100 u101 u102 u103 u104 u105 u106 u107 u108 u109 u110 u111 u112 u113 u114 u115 u117 u118 u119 u120 u121 u122 u123 u124 u125 u126 u127 u128 u129 u130 u131 u132 : Value) (Q : Exit → Act → World → Prop) (w0 : World) (hH : Ext W w0)
    (H : ∀ (r117 r118 r119 r120 r121 r122 r123 r124 r125 r126 r127 r128 r129 r130 r131 r132 : Value) (w1 : World), Ext W w1 → wpAnyH Try.prog .any ops6 (NoPanic Q) (Ext W) 0 #[true, true, true, true, true, true, true, true, true, true, true, true, true, true, true, true, true, true, true, true, true, true, true, true, true, true, true, true, true, true, true, true, true, true, true, true, true, true, true, true, true, true, true, true, true, true, true, true, true, true, true, true, true, true, true, true, true, true, true, true, true, true, true, true, true, true, true, true, true, true, true, true, true, true, true, true, true, true, true, true, true, true, true, true, true, true, true, true, true, true, true, true, true, true, true, true, true, true, true, true, true] ⟨#[u0, u1, u2, u3, u4, u5, u6, u7, u8, u9, .bool true, .pointer (some ⟨b11, 0, none⟩), .pointer (some ⟨b12, 0, none⟩), .pointer (some ⟨b13, 0, none⟩), .pointer (some ⟨b14, 0, none⟩), .bool false, u16, u17, u18, u19, u20, u21, u22, u23, u24, u25, u26, u27, u28, u29, u30, u31, u32, u33, u34, u35, u36, u37, u38, u39, u40, u41, u42, u43, u44, u45, u46, u47, u48, u49, u50, u51, u52, u53, u54, u55, u56, u57, u58, u59, u60, u61, u62, u63, u64, u65, u66, u67, u68, u69, u70, u71, u72, u73, u74, u75, u76, u77, u78, u79, u80, u81, u82, u83, u84, u85, u86, u87, u88, u89, u90, u91, u92, u93, u94, u95, u96, u97, u98, u99, u100, u101, u102, u103, u104, u105, u106, u107, u108, u109, u110, u111, u112, u113, u114, u115, .bool true, r117, r118, r119, r120, r121, r122, r123, r124, r125, r126, r127, r128, r129, r130, r131, r132], []⟩ w1) :
    wpAnyH Try.prog .any ops6 (NoPanic Q) (Ext W) 17 #[true, true, true, true, true, true, true, true, true, true, true, true, true, true, true, true, true, true, true, true, true, true, true, true, true, true, true, true, true, true, true, true, true, true, true, true, true, true, true, true, true, true, true, true, true, true, true, true, true, true, true, true, true, true, true, true, true, true, true, true, true, true, true, true, true, true, true, true, true, true, true, true, true, true, true, true, true, true, true, true, true, true, true, true, false, false, false, false, false, false, false, false, false, false, false, false, false, false, false, false, false] ⟨#[u0, u1, u2, u3, u4, u5, u6, u7, u8, u9, u10, .pointer (some ⟨b11, 0, none⟩), .pointer (some ⟨b12, 0, none⟩), .pointer (some ⟨b13, 0, none⟩), .pointer (some ⟨b14, 0, none⟩), .bool false, u16, u17, u18, u19, u20, u21, u22, u23, u24, u25, u26, u27, u28, u29, u30, u31, u32, u33, u34, u35, u36, u37, u38, u39, u40, u41, u42, u43, u44, u45, u46, u47, u48, u49, u50, u51, u52, u53, u54, u55, u56, u57, u58, u59, u60, u61, u62, u63, u64, u65, u66, u67, u68, u69, u70, u71, u72, u73, u74, u75, u76, u77, u78, u79, u80, u81, u82, u83, u84, u85, u86, u87, u88, u89, u90, u91, u92, u93, u94, u95, u96, u97, u98, u99, u100, u101, u102, u103, u104, u105, u106, u107, u108, u109, u110, u111, u112, u113, u114, u115, .bool true, u117, u118, u119, u120, u121, u122, u123, u124, u125, u126, u127, u128, u129, u130, u131, u132], []⟩ w0 := by
  obtain ⟨V14c0, V14c1, V14c2, V14c3⟩ := V14.out
  have V14u0 : ∀ u, Ext W u → u.cell? ⟨b14, 0, none⟩ = some (.int .u64 (e0 v)) := fun u hu => hu.cell V14c0
  have V14u1 : ∀ u, Ext W u → u.cell? ⟨b14, 1, none⟩ = some (.int .u64 (e1 v)) := fun u hu => hu.cell V14c1
  have V14u2 : ∀ u, Ext W u → u.cell? ⟨b14, 2, none⟩ = some (.int .u64 (e2 v)) := fun u hu => hu.cell V14c2
  have V14u3 : ∀ u, Ext W u → u.cell? ⟨b14, 3, none⟩ = some (.int .u64 (e3 v)) := fun u hu => hu.cell V14c3
  clear V14c0 V14c1 V14c2 V14c3
  unfold ops6
  refine wpAnyH_take (i := 84) (oi := ?o84s8) (v := ?v84s8) ?h84s8 (by kernel_rfl) ?f84s8 ?r84s8 (fun _ _ _ h => h) (Or.inl ⟨?w84s8, ?y84s8⟩) (by assumption) ?t84s8
  case h84s8 => simp only [List.getElem?_toArray]; rfl
  case f84s8 => kernel_rfl
  case r84s8 => kernel_rfl
  case w84s8 => rfl
  case y84s8 => (intro u hu; (go_simp) <;> with_reducible rfl)
  try simp only [Act.put, List.setIfInBounds_toArray, List.set_cons_zero, List.set_cons_succ]
  refine wpAnyH_take (i := 85) (oi := ?o85s8) (v := ?v85s8) ?h85s8 (by kernel_rfl) ?f85s8 ?r85s8 (fun _ _ _ h => h) (Or.inl ⟨?w85s8, ?y85s8⟩) (by assumption) ?t85s8
  case h85s8 => simp only [List.getElem?_toArray]; rfl
  case f85s8 => kernel_rfl
  case r85s8 => kernel_rfl
  case w85s8 => rfl
  case y85s8 => (intro u hu; (go_simp) <;> with_reducible rfl)
  try simp only [Act.put, List.setIfInBounds_toArray, List.set_cons_zero, List.set_cons_succ]
  refine wpAnyH_take (i := 86) (oi := ?o86s8) (v := undef) ?h86s8 (by kernel_rfl) ?f86s8 ?r86s8 (fun _ _ _ h => h) (Or.inr ⟨?w86s8, rfl⟩) (by assumption) ?t86s8
  case h86s8 => simp only [List.getElem?_toArray]; rfl
  case f86s8 => kernel_rfl
  case r86s8 => kernel_rfl
  case w86s8 => rfl
  try simp only [Act.put, List.setIfInBounds_toArray, List.set_cons_zero, List.set_cons_succ]
  refine wpAnyH_take (i := 87) (oi := ?o87s8) (v := undef) ?h87s8 (by kernel_rfl) ?f87s8 ?r87s8 (fun _ _ _ h => h) (Or.inr ⟨?w87s8, rfl⟩) (by assumption) ?t87s8
  case h87s8 => simp only [List.getElem?_toArray]; rfl
  case f87s8 => kernel_rfl
  case r87s8 => kernel_rfl
  case w87s8 => rfl
  try simp only [Act.put, List.setIfInBounds_toArray, List.set_cons_zero, List.set_cons_succ]
  refine wpAnyH_take (i := 88) (oi := ?o88s8) (v := undef) ?h88s8 (by kernel_rfl) ?f88s8 ?r88s8 (fun _ _ _ h => h) (Or.inr ⟨?w88s8, rfl⟩) (by assumption) ?t88s8
  case h88s8 => simp only [List.getElem?_toArray]; rfl
  case f88s8 => kernel_rfl
  case r88s8 => kernel_rfl
  case w88s8 => rfl
  try simp only [Act.put, List.setIfInBounds_toArray, List.set_cons_zero, List.set_cons_succ]
  refine wpAnyH_take (i := 89) (oi := ?o89s8) (v := ?v89s8) ?h89s8 (by kernel_rfl) ?f89s8 ?r89s8 (fun _ _ _ h => h) (Or.inl ⟨?w89s8, ?y89s8⟩) (by assumption) ?t89s8
  case h89s8 => simp only [List.getElem?_toArray]; rfl
  case f89s8 => kernel_rfl
  case r89s8 => kernel_rfl
  case w89s8 => rfl
  case y89s8 => (intro u hu; (go_simp) <;> with_reducible rfl)
  try simp only [Act.put, List.setIfInBounds_toArray, List.set_cons_zero, List.set_cons_succ]
  refine wpAnyH_take (i := 90) (oi := ?o90s8) (v := ?v90s8) ?h90s8 (by kernel_rfl) ?f90s8 ?r90s8 (fun _ _ _ h => h) (Or.inl ⟨?w90s8, ?y90s8⟩) (by assumption) ?t90s8
  case h90s8 => simp only [List.getElem?_toArray]; rfl
  case f90s8 => kernel_rfl
  case r90s8 => kernel_rfl
  case w90s8 => rfl
  case y90s8 => (intro u hu; (go_simp) <;> with_reducible rfl)
  try simp only [Act.put, List.setIfInBounds_toArray, List.set_cons_zero, List.set_cons_succ]
  refine wpAnyH_take (i := 91) (oi := ?o91s8) (v := ?v91s8) ?h91s8 (by kernel_rfl) ?f91s8 ?r91s8 (fun _ _ _ h => h) (Or.inl ⟨?w91s8, ?y91s8⟩) (by assumption) ?t91s8
  case h91s8 => simp only [List.getElem?_toArray]; rfl
  case f91s8 => kernel_rfl
  case r91s8 => kernel_rfl
  case w91s8 => rfl
  case y91s8 => (intro u hu; (go_simp) <;> with_reducible rfl)
  try simp only [Act.put, List.setIfInBounds_toArray, List.set_cons_zero, List.set_cons_succ]
  refine wpAnyH_take (i := 92) (oi := ?o92s8) (v := ?v92s8) ?h92s8 (by kernel_rfl) ?f92s8 ?r92s8 (fun _ _ _ h => h) (Or.inl ⟨?w92s8, ?y92s8⟩) (by assumption) ?t92s8
  case h92s8 => simp only [List.getElem?_toArray]; rfl
  case f92s8 => kernel_rfl
  case r92s8 => kernel_rfl
  case w92s8 => rfl
  case y92s8 => (intro u hu; (go_simp) <;> with_reducible rfl)
  try simp only [Act.put, List.setIfInBounds_toArray, List.set_cons_zero, List.set_cons_succ]
  refine wpAnyH_take (i := 93) (oi := ?o93s8) (v := ?v93s8) ?h93s8 (by kernel_rfl) ?f93s8 ?r93s8 (fun _ _ _ h => h) (Or.inl ⟨?w93s8, ?y93s8⟩) (by assumption) ?t93s8
  case h93s8 => simp only [List.getElem?_toArray]; rfl
  case f93s8 => kernel_rfl
  case r93s8 => kernel_rfl
  case w93s8 => rfl
  case y93s8 => (intro u hu; (go_simp) <;> with_reducible rfl)
  try simp only [Act.put, List.setIfInBounds_toArray, List.set_cons_zero, List.set_cons_succ]
  refine wpAnyH_take (i := 94) (oi := ?o94s8) (v := ?v94s8) ?h94s8 (by kernel_rfl) ?f94s8 ?r94s8 (fun _ _ _ h => h) (Or.inl ⟨?w94s8, ?y94s8⟩) (by assumption) ?t94s8
  case h94s8 => simp only [List.getElem?_toArray]; rfl
  case f94s8 => kernel_rfl
  case r94s8 => kernel_rfl
  case w94s8 => rfl
  case y94s8 => (intro u hu; (go_simp) <;> with_reducible rfl)
  try simp only [Act.put, List.setIfInBounds_toArray, List.set_cons_zero, List.set_cons_succ]
  refine wpAnyH_ready (rs := [95]) (by kernel_rfl) (by simp) ?_
  refine AllReadyH.cons (o := ?o95s8) ?h95s8 (fun K hK => ?_) AllReadyH.nil
  case h95s8 => simp only [List.getElem?_toArray]; rfl
  go_simp
  refine (one_e _).mono ?_
  rintro e c95 ⟨rfl, hb95⟩
  refine hK.out _ _ (hH.trans hb95) (fun hH' => ?_)
  clear hK K hH
  have hH := hH'
  clear hH'
  try simp only [List.setIfInBounds_toArray, List.set]
  clear hb95
  refine wpAnyH_ready (rs := [96]) (by kernel_rfl) (by simp) ?_
  refine AllReadyH.cons (o := ?o96s8) ?h96s8 (fun K hK => ?_) AllReadyH.nil
  case h96s8 => simp only [List.getElem?_toArray]; rfl
  go_simp
  refine (equal_e v 1 hv El.one _).mono ?_
  rintro e c96 ⟨rfl, hb96⟩
  rw [show same v 1 = true from same_t (by rw [HV.out]; exact inv_mul _ hx HX0.out)]
  refine hK.out _ _ (hH.trans hb96) (fun hH' => ?_)
  clear hK K hH
  have hH := hH'
  clear hH'
  try simp only [List.setIfInBounds_toArray, List.set]
  clear hb96
  refine wpAnyH_take (i := 97) (oi := ?o97s8) (v := ?v97s8) ?h97s8 (by kernel_rfl) ?f97s8 ?r97s8 (fun _ _ _ h => h) (Or.inl ⟨?w97s8, ?y97s8⟩) (by assumption) ?t97s8
  case h97s8 => simp only [List.getElem?_toArray]; rfl
  case f97s8 => kernel_rfl
  case r97s8 => kernel_rfl
  case w97s8 => rfl
  case y97s8 => (intro u hu; (go_simp) <;> with_reducible rfl)
  try simp only [Act.put, List.setIfInBounds_toArray, List.set_cons_zero, List.set_cons_succ]
  refine wpAnyH_take (i := 98) (oi := ?o98s8) (v := ?v98s8) ?h98s8 (by kernel_rfl) ?f98s8 ?r98s8 (fun _ _ _ h => h) (Or.inl ⟨?w98s8, ?y98s8⟩) (by assumption) ?t98s8
  case h98s8 => simp only [List.getElem?_toArray]; rfl
  case f98s8 => kernel_rfl
  case r98s8 => kernel_rfl
  case w98s8 => rfl
  case y98s8 => (intro u hu; (go_simp) <;> with_reducible rfl)
  try simp only [Act.put, List.setIfInBounds_toArray, List.set_cons_zero, List.set_cons_succ]
  refine wpAnyH_take (i := 99) (oi := ?o99s8) (v := ?v99s8) ?h99s8 (by kernel_rfl) ?f99s8 ?r99s8 (fun _ _ _ h => h) (Or.inl ⟨?w99s8, ?y99s8⟩) (by assumption) ?t99s8
  case h99s8 => simp only [List.getElem?_toArray]; rfl
  case f99s8 => kernel_rfl
  case r99s8 => kernel_rfl
  case w99s8 => rfl
  case y99s8 => (intro u hu; (go_simp) <;> with_reducible rfl)
  try simp only [Act.put, List.setIfInBounds_toArray, List.set_cons_zero, List.set_cons_succ]
  refine wpAnyH_take (i := 100) (oi := ?o100s8) (v := ?v100s8) ?h100s8 (by kernel_rfl) ?f100s8 ?r100s8 (fun _ _ _ h => h) (Or.inl ⟨?w100s8, ?y100s8⟩) (by assumption) ?t100s8
  case h100s8 => simp only [List.getElem?_toArray]; rfl
  case f100s8 => kernel_rfl
  case r100s8 => kernel_rfl
  case w100s8 => rfl
  case y100s8 => (intro u hu; (go_simp) <;> with_reducible rfl)
  try simp only [Act.put, List.setIfInBounds_toArray, List.set_cons_zero, List.set_cons_succ]
  exact H _ _ _ _ _ _ _ _ _ _ _ _ _ _ _ _ _ hH
end Go.Proofs.Ytgnfbnjhmiggbaa
