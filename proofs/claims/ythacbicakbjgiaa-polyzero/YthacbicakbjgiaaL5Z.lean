/-
  PolyZero's walk. No statement of the seat is proved here.
-/
import Derived.Test.YthacbicakbjgiaaPLaw
namespace Go.Proofs.Ythacbicakbjgiaa
open Go.RowKit

set_option maxRecDepth 8000 in
set_option maxHeartbeats 4000000 in
theorem polyZero_walk (s : List Int) (ad : Option Addr) (len cap : Nat) (text : List Int) (hs : Bn 16 s) (hm : len ≤ 140737488351232) (w : World) (hr : Rd w ad len cap text) :
    Calls Try.prog 6 #[(.agg (List.map (Value.int .u8) s).toArray), .slice ad len cap] w fun e w' => e = .returned (.bool true) ∧ Below w.heap.size w w' := by
  have HS : Hid (Bn 16 s) := hs
  have HR : Hid (Rd w ad len cap text) := hr
  clear hs hr
  go_enter Try.func6, Try.ntmps6
  go_upto_region 2 with fail
  have A2 : Hid (Ar ((w.alloc (.cells (List.map (Value.int .u8) s).toArray 23)).alloc (.cells #[.int .u8 0, .int .u8 0, .int .u8 0, .int .u8 0, .int .u8 0, .int .u8 0, .int .u8 0, .int .u8 0, .int .u8 0, .int .u8 0, .int .u8 0, .int .u8 0, .int .u8 0, .int .u8 0, .int .u8 0, .int .u8 0, .int .u8 0, .int .u8 0, .int .u8 0, .int .u8 0, .int .u8 0, .int .u8 0, .int .u8 0, .int .u8 0, .int .u8 0, .int .u8 0, .int .u8 0, .int .u8 0, .int .u8 0, .int .u8 0, .int .u8 0, .int .u8 0] 22)) w.heap.size 16 (List.map (Value.int .u8) s)) := (ar_box w _ 16 HS.out.map_len _).later (bel1 _ _)
  have A5 : Hid (Ar ((w.alloc (.cells (List.map (Value.int .u8) s).toArray 23)).alloc (.cells #[.int .u8 0, .int .u8 0, .int .u8 0, .int .u8 0, .int .u8 0, .int .u8 0, .int .u8 0, .int .u8 0, .int .u8 0, .int .u8 0, .int .u8 0, .int .u8 0, .int .u8 0, .int .u8 0, .int .u8 0, .int .u8 0, .int .u8 0, .int .u8 0, .int .u8 0, .int .u8 0, .int .u8 0, .int .u8 0, .int .u8 0, .int .u8 0, .int .u8 0, .int .u8 0, .int .u8 0, .int .u8 0, .int .u8 0, .int .u8 0, .int .u8 0, .int .u8 0] 22)) (w.heap.size + 1) 32 (List.map (Value.int .u8) (List.replicate 32 0))) := by have := ar_box (w.alloc (.cells (List.map (Value.int .u8) s).toArray 23)) (List.map (Value.int .u8) (List.replicate 32 0)) 32 rfl 22; simpa [Hid] using this
  have HB : Hid (Below w.heap.size w ((w.alloc (.cells (List.map (Value.int .u8) s).toArray 23)).alloc (.cells #[.int .u8 0, .int .u8 0, .int .u8 0, .int .u8 0, .int .u8 0, .int .u8 0, .int .u8 0, .int .u8 0, .int .u8 0, .int .u8 0, .int .u8 0, .int .u8 0, .int .u8 0, .int .u8 0, .int .u8 0, .int .u8 0, .int .u8 0, .int .u8 0, .int .u8 0, .int .u8 0, .int .u8 0, .int .u8 0, .int .u8 0, .int .u8 0, .int .u8 0, .int .u8 0, .int .u8 0, .int .u8 0, .int .u8 0, .int .u8 0, .int .u8 0, .int .u8 0] 22))) := bel2 _ _ _
  generalize ((w.alloc (.cells (List.map (Value.int .u8) s).toArray 23)).alloc (.cells #[.int .u8 0, .int .u8 0, .int .u8 0, .int .u8 0, .int .u8 0, .int .u8 0, .int .u8 0, .int .u8 0, .int .u8 0, .int .u8 0, .int .u8 0, .int .u8 0, .int .u8 0, .int .u8 0, .int .u8 0, .int .u8 0, .int .u8 0, .int .u8 0, .int .u8 0, .int .u8 0, .int .u8 0, .int .u8 0, .int .u8 0, .int .u8 0, .int .u8 0, .int .u8 0, .int .u8 0, .int .u8 0, .int .u8 0, .int .u8 0, .int .u8 0, .int .u8 0] 22)) = W at *
  have k1 : w.heap.size < w.heap.size + 1 := by omega
  generalize w.heap.size + 1 = b5 at *
  refine wp_region_noPanic ?_
  refine wp_region_held_drew (S := ExtB b5 W) (by kernel_rfl) (ExtB.refl _ _).drew (fun hH => ?_)
  change wpAnyH _ _ _ _ _ _ #[false, false, false] _ _
  refine wpAnyH_take (i := 0) (oi := ?o0c) (v := ?v0c) ?h0c (by kernel_rfl) ?f0c ?r0c (fun _ _ _ h => h) (Or.inl ⟨?w0c, ?y0c⟩) (by assumption) ?t0c
  case h0c => simp only [List.getElem?_toArray]; rfl
  case f0c => kernel_rfl
  case r0c => kernel_rfl
  case w0c => rfl
  case y0c => (intro u hu; (go_simp) <;> with_reducible rfl)
  try simp only [Act.put, List.setIfInBounds_toArray, List.set_cons_zero, List.set_cons_succ]
  refine wpAnyH_take (i := 1) (oi := ?o1c) (v := ?v1c) ?h1c (by kernel_rfl) ?f1c ?r1c (fun _ _ _ h => h) (Or.inl ⟨?w1c, ?y1c⟩) (by assumption) ?t1c
  case h1c => simp only [List.getElem?_toArray]; rfl
  case f1c => kernel_rfl
  case r1c => kernel_rfl
  case w1c => rfl
  case y1c => (intro u hu; (go_simp) <;> with_reducible rfl)
  try simp only [Act.put, List.setIfInBounds_toArray, List.set_cons_zero, List.set_cons_succ]
  have hcp := fun ty => copy_c W.drew b5 16 16 16 ⟨w.heap.size, 0, none⟩ 16 16 s (A2.out.drew.rd_all HS.out.byt 16 (by decide)) 16 (by decide) (there_part A5.out.drew.all 16 16 (by decide)) ty
  rw [List.take_of_length_le (by rw [HS.out.len]; exact Nat.le_refl _)] at hcp
  refine wpAnyH_ready (rs := [2]) (by kernel_rfl) (by simp) ?_
  refine AllReadyH.cons (o := ?o2c) ?h2c (fun K hK => ?_) AllReadyH.nil
  case h2c => simp only [List.getElem?_toArray]; rfl
  go_simp
  refine hK.out _ _ (extB_setCells _ _ _ hH) (fun hH' => ?_)
  clear hK K hH
  have hH := hH'
  clear hH'
  try simp only [List.setIfInBounds_toArray, List.set]
  refine wpAnyH_done (by kernel_rfl) ?_ _
  refine NoPanic.normal ?_
  clear hcp
  have HKZ : Hid (Bn 32 (List.replicate 16 0 ++ s)) := ⟨by simp [HS.out.len], (byt_zero 16).app HS.out.byt⟩
  have A6 : Hid (Ar (W.drew.setCells b5 16 (List.map (Value.int .u8) s)) b5 32 (List.map (Value.int .u8) (List.replicate 16 0 ++ s))) := by
    have := A5.out.drew.part 16 (List.map (Value.int .u8) s) (by rw [HS.out.map_len]; decide)
    rw [HS.out.map_len, ← List.map_take, ← List.map_drop, ← List.map_append, ← List.map_append] at this
    simpa [Hid] using this
  replace A2 : Hid (Ar (W.drew.setCells b5 16 (List.map (Value.int .u8) s)) w.heap.size 16 (List.map (Value.int .u8) s)) := A2.out.drew.else_cells (by omega) _ _
  replace HB : Hid (Below w.heap.size w (W.drew.setCells b5 16 (List.map (Value.int .u8) s))) := below_setCells _ (by omega) _ _ _ HB.out.drew
  clear A5 hH
  have A5 := A6
  clear A6
  have HR2 : Hid (Rd (W.drew.setCells b5 16 (List.map (Value.int .u8) s)) ad len cap text) := HR.out.below HB.out
  clear HR
  have HR := HR2
  clear HR2
  obtain ⟨_, _, hiK⟩ := bn32_cells HKZ.out
  obtain ⟨_, _, hiS⟩ := bn16_cells HS.out
  go_upto_region 3 with fail
  generalize W.drew.setCells b5 16 (List.map (Value.int .u8) s) = Y at *
  refine wp_region_noPanic ?_
  refine wp_region_held_drew (S := Ext Y) (by kernel_rfl) (Ext.refl _).drew (fun hH => ?_)
  change wpAnyH _ _ _ _ _ _ #[false, false, false, false, false, false, false, false, false] _ _
  refine wpAnyH_ready (rs := [0]) (by kernel_rfl) (by simp) ?_
  refine AllReadyH.cons (o := ?o0z) ?h0z (fun K hK => ?_) AllReadyH.nil
  case h0z => simp only [List.getElem?_toArray]; rfl
  go_simp
  refine (known5_any _).mono ?_
  rintro e V1 ⟨rfl, hb⟩
  refine hK.out _ _ (hH.trans hb) (fun hH' => ?_)
  clear hK K hH
  have hH := hH'
  clear hH'
  try simp only [List.setIfInBounds_toArray, List.set]
  clear hb
  refine wpAnyH_take (i := 1) (oi := ?o1z) (v := ?v1z) ?h1z (by kernel_rfl) ?f1z ?r1z (fun _ _ _ h => h) (Or.inl ⟨?w1z, ?y1z⟩) (by assumption) ?t1z
  case h1z => simp only [List.getElem?_toArray]; rfl
  case f1z => kernel_rfl
  case r1z => kernel_rfl
  case w1z => rfl
  case y1z => (intro u hu; (go_simp) <;> with_reducible rfl)
  try simp only [Act.put, List.setIfInBounds_toArray, List.set_cons_zero, List.set_cons_succ]
  refine wpAnyH_take (i := 2) (oi := ?o2z) (v := .agg (List.map (Value.int .u8) (List.replicate 16 0 ++ s)).toArray) ?h2z (by kernel_rfl) ?f2z ?r2z (fun _ _ _ h => h) ?y2z (by assumption) ?t2z
  case h2z => simp only [List.getElem?_toArray]; rfl
  case f2z => kernel_rfl
  case r2z => kernel_rfl
  case y2z => exact yieldsIf_load_mid (by rfl) 22 (.tmp 5) rfl b5 0 rfl (List.map (Value.int .u8) (List.replicate 16 0 ++ s)) _ (fun u hu => range_later hu A5.out.rng) Try.underlying22 rfl hiK
  try simp only [Act.put, List.setIfInBounds_toArray, List.set_cons_zero, List.set_cons_succ]
  refine wpAnyH_take (i := 3) (oi := ?o3z) (v := ?v3z) ?h3z (by kernel_rfl) ?f3z ?r3z (fun _ _ _ h => h) (Or.inl ⟨?w3z, ?y3z⟩) (by assumption) ?t3z
  case h3z => simp only [List.getElem?_toArray]; rfl
  case f3z => kernel_rfl
  case r3z => kernel_rfl
  case w3z => rfl
  case y3z => (intro u hu; (go_simp) <;> with_reducible rfl)
  try simp only [Act.put, List.setIfInBounds_toArray, List.set_cons_zero, List.set_cons_succ]
  refine wpAnyH_take (i := 5) (oi := ?o5z) (v := .agg (List.map (Value.int .u8) s).toArray) ?h5z (by kernel_rfl) ?f5z ?r5z (fun _ _ _ h => h) ?y5z (by assumption) ?t5z
  case h5z => simp only [List.getElem?_toArray]; rfl
  case f5z => kernel_rfl
  case r5z => kernel_rfl
  case y5z => exact yieldsIf_load_mid (by rfl) 23 (.tmp 2) rfl w.heap.size 0 rfl (List.map (Value.int .u8) s) _ (fun u hu => range_later hu A2.out.rng) Try.underlying23 rfl hiS
  try simp only [Act.put, List.setIfInBounds_toArray, List.set_cons_zero, List.set_cons_succ]
  refine wpAnyH_ready (rs := [4]) (by kernel_rfl) (by simp) ?_
  refine AllReadyH.cons (o := ?o4z) ?h4z (fun K hK => ?_) AllReadyH.nil
  case h4z => simp only [List.getElem?_toArray]; rfl
  go_simp
  refine (tag_c ad len cap (List.replicate 16 0 ++ s) text HKZ.out _ ((HR.out.below (Below.mono hH (Nat.le_refl _)))) hm).mono ?_
  rintro e V2 ⟨T, rfl, HTg, hT, hb⟩
  refine hK.out _ _ (hH.trans hb) (fun hH' => ?_)
  clear hK K hH
  have hH := hH'
  clear hH'
  try simp only [List.setIfInBounds_toArray, List.set]
  have heq : ∀ u, Sem.run Try.prog (binOp .eql 23 (.agg (List.map (Value.int .u8) T).toArray) (.agg (List.map (Value.int .u8) s).toArray)) u = .ok (.bool true) u := fun u => eql16 T s hT (by rw [HTg.out]; exact tg_zero s text HS.out) u
  refine wpAnyH_take (i := 6) (oi := ?o6z) (v := ?v6z) ?h6z (by kernel_rfl) ?f6z ?r6z (fun _ _ _ h => h) (Or.inl ⟨?w6z, ?y6z⟩) (by assumption) ?t6z
  case h6z => simp only [List.getElem?_toArray]; rfl
  case f6z => kernel_rfl
  case r6z => kernel_rfl
  case w6z => rfl
  case y6z => (intro u hu; (go_simp) <;> with_reducible rfl)
  try simp only [Act.put, List.setIfInBounds_toArray, List.set_cons_zero, List.set_cons_succ]
  refine wpAnyH_take (i := 7) (oi := ?o7z) (v := ?v7z) ?h7z (by kernel_rfl) ?f7z ?r7z (fun _ _ _ h => h) (Or.inl ⟨?w7z, ?y7z⟩) (by assumption) ?t7z
  case h7z => simp only [List.getElem?_toArray]; rfl
  case f7z => kernel_rfl
  case r7z => kernel_rfl
  case w7z => rfl
  case y7z => (intro u hu; (go_simp) <;> with_reducible rfl)
  try simp only [Act.put, List.setIfInBounds_toArray, List.set_cons_zero, List.set_cons_succ]
  refine wpAnyH_take (i := 8) (oi := ?o8z) (v := ?v8z) ?h8z (by kernel_rfl) ?f8z ?r8z (fun _ _ _ h => h) (Or.inl ⟨?w8z, ?y8z⟩) (by assumption) ?t8z
  case h8z => simp only [List.getElem?_toArray]; rfl
  case f8z => kernel_rfl
  case r8z => kernel_rfl
  case w8z => rfl
  case y8z => (intro u hu; (go_simp) <;> with_reducible rfl)
  try simp only [Act.put, List.setIfInBounds_toArray, List.set_cons_zero, List.set_cons_succ]
  refine wpAnyH_done (by kernel_rfl) ?_ _
  refine NoPanic.normal ?_
  have hEn : Below w.heap.size w V2 := HB.out.trans (Below.mono hH HB.out.size)
  clear hH
  go_wp2
  go_ret
  exact ⟨rfl, hEn⟩
end Go.Proofs.Ythacbicakbjgiaa
