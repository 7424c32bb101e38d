/-
  What a State's Seal does where it is embedded. No statement of the seat is proved here.
-/
import Derived.Test.YtmibjgkakolhiaaDoorA6O
import Derived.Test.YtmibjgkakolhiaaDoorPk4
namespace Go.Proofs.YtmibjgkakolhiaaDoor
open Go.RowKit

set_option maxRecDepth 8000 in
set_option maxHeartbeats 2000000 in
theorem seal9o_none (b o : Nat) (k : List Int) (n : Int) (aa : Option Addr) (la ca : Nat) (_ad : List Int) (at' : Option Addr) (lt ct : Nat) (text : List Int) (w : World) (hs : Sy w b o k false n) (hrt : Rd w at' lt ct text) (hm : lt ≤ 140737488351232) :
    Calls Tryd.prog 33 #[.pointer (some ⟨b, o, none⟩), .slice aa la ca, .slice at' lt ct] w fun e w' => ∃ g, e = .returned (.tuple #[.slice (some ⟨g, 0, none⟩) lt lt, .int .i64 0]) ∧ w.heap.size ≤ g ∧ Hid (Ow w' g lt text) ∧ Hid (Sy w' b o k false n) ∧ Below w.heap.size w w' := by
  have HS : Hid (Sy w b o k false n) := hs
  have HRT : Hid (Rd w at' lt ct text) := hrt
  obtain ⟨ch, -⟩ := hs.has
  clear hs hrt
  go_enter Tryd.func33, Tryd.ntmps33
  go_wp2_with fail
  refine (clone_any at' lt ct text _ HRT.out (by omega)).mono ?_
  rintro e V ⟨g, rfl, hg, ho, hb⟩
  have HO : Hid (Ow V g lt text) := ⟨⟨_, ho⟩, HRT.out.byt⟩
  replace HS : Hid (Sy V b o k false n) := HS.out.later hb
  have HB : Hid (Below w.heap.size w V) := hb
  clear ho hb HRT ch
  go_wp2
  go_ret2
  exact ⟨g, rfl, hg, HO, HS, HB.out⟩
set_option maxRecDepth 8000 in
set_option maxHeartbeats 2000000 in
theorem seal9o_last (b o : Nat) (k : List Int) (n : Int) (aa : Option Addr) (la ca : Nat) (_ad : List Int) (at' : Option Addr) (lt ct : Nat) (_text : List Int) (w : World) (hs : Sy w b o k true n) (hn : n = 18446744073709551615) :
    Calls Tryd.prog 33 #[.pointer (some ⟨b, o, none⟩), .slice aa la ca, .slice at' lt ct] w fun e w' => e = .returned (.tuple #[.slice none 0 0, .int .i64 9]) ∧ w' = w := by
  subst hn
  obtain ⟨ch, -⟩ := hs.has
  obtain ⟨cn, -⟩ := hs.nonce
  clear hs
  go_enter Tryd.func33, Tryd.ntmps33
  go_wp2
  go_ret2
  exact ⟨rfl, rfl⟩
set_option maxRecDepth 8000 in
set_option maxHeartbeats 4000000 in
theorem seal9o_yes (b o : Nat) (k : List Int) (n : Int) (aa : Option Addr) (la ca : Nat) (ad : List Int) (at' : Option Addr) (lt ct : Nat) (text : List Int) (w : World) (hs : Sy w b o k true n) (hn : n ≠ 18446744073709551615) (hra : Rd w aa la ca ad) (hrt : Rd w at' lt ct text) (ha : la ≤ 140737488351232) (hm : lt ≤ 140737488351232) :
    Calls Tryd.prog 33 #[.pointer (some ⟨b, o, none⟩), .slice aa la ca, .slice at' lt ct] w fun e w' => ∃ g m X n', e = .returned (.tuple #[.slice (some ⟨g, 0, none⟩) m m, .int .i64 0]) ∧ w.heap.size ≤ g ∧ Hid (m = lt + 16) ∧ Hid (X = se6 k (nn6 n) ad text) ∧ Hid (n' = n + 1) ∧ Hid (Ow w' g m X) ∧ Hid (Sy w' b o k true n') ∧ ExtR b o 34 w w' := by
  have HS : Hid (Sy w b o k true n) := hs
  have HRA : Hid (Rd w aa la ca ad) := hra
  have HRT : Hid (Rd w at' lt ct text) := hrt
  have hn1 : n + 1 < 18446744073709551616 := by have := hs.wn; omega
  have hw1 : IntKind.u64.wrap (n + 1) = n + 1 := by rw [IntKind.wrap_u64]; have := hs.wn; omega
  obtain ⟨n', hn'⟩ : ∃ x, x = n + 1 := ⟨_, rfl⟩
  have HN1 : Hid (n' = n + 1) := hn'
  rw [← hn'] at hn1
  have hw2 : (n + 1) % 18446744073709551616 = n' := by rw [hn'] at hn1 ⊢; have := hs.wn; omega
  have hlo : 0 ≤ n' := by have := hs.wn; omega
  rw [← hn', show IntKind.u64.wrap n' = IntKind.u64.wrap (n + 1) by rw [hn']] at hw1
  obtain ⟨ch, -⟩ := hs.has
  obtain ⟨cn, -⟩ := hs.nonce
  obtain ⟨_, _, hiK⟩ := bn32_cells hs.bk
  clear hs hra hrt hn'
  go_enter Tryd.func33, Tryd.ntmps33
  go_upto_region 5 with fail
  have xx : ∀ u, Ext w u → u.cell? ⟨b, o + 33, none⟩ = some (.int .u64 n) := fun u hu => hu.cell cn
  refine wp_region_noPanic ?_
  refine wp_region_held_drew (S := Ext w) (by kernel_rfl) (Ext.refl _).drew (fun hH => ?_)
  change wpAnyH _ _ _ _ _ _ #[false, false, false, false, false, false, false, false, false, false, false, false, false] _ _
  refine wpAnyH_take (i := 0) (oi := ?o0s) (v := ?v0s) ?h0s (by kernel_rfl) ?f0s ?r0s (fun _ _ _ h => h) (Or.inl ⟨?w0s, ?y0s⟩) (by assumption) ?t0s
  case h0s => simp only [List.getElem?_toArray]; rfl
  case f0s => kernel_rfl
  case r0s => kernel_rfl
  case w0s => rfl
  case y0s => (intro u hu; (go_simp) <;> with_reducible rfl)
  try simp only [Act.put, List.setIfInBounds_toArray, List.set_cons_zero, List.set_cons_succ]
  refine wpAnyH_take (i := 1) (oi := ?o1s) (v := ?v1s) ?h1s (by kernel_rfl) ?f1s ?r1s (fun _ _ _ h => h) (Or.inl ⟨?w1s, ?y1s⟩) (by assumption) ?t1s
  case h1s => simp only [List.getElem?_toArray]; rfl
  case f1s => kernel_rfl
  case r1s => kernel_rfl
  case w1s => rfl
  case y1s => (intro u hu; (go_simp) <;> with_reducible rfl)
  try simp only [Act.put, List.setIfInBounds_toArray, List.set_cons_zero, List.set_cons_succ]
  refine wpAnyH_take (i := 2) (oi := ?o2s) (v := ?v2s) ?h2s (by kernel_rfl) ?f2s ?r2s (fun _ _ _ h => h) (Or.inl ⟨?w2s, ?y2s⟩) (by assumption) ?t2s
  case h2s => simp only [List.getElem?_toArray]; rfl
  case f2s => kernel_rfl
  case r2s => kernel_rfl
  case w2s => rfl
  case y2s => (intro u hu; (go_simp) <;> with_reducible rfl)
  try simp only [Act.put, List.setIfInBounds_toArray, List.set_cons_zero, List.set_cons_succ]
  refine wpAnyH_take (i := 3) (oi := ?o3s) (v := .agg (List.map (Value.int .u8) k).toArray) ?h3s (by kernel_rfl) ?f3s ?r3s (fun _ _ _ h => h) ?y3s (by assumption) ?t3s
  case h3s => simp only [List.getElem?_toArray]; rfl
  case f3s => kernel_rfl
  case r3s => kernel_rfl
  case y3s => exact yieldsIf_load_mid (by rfl) 27 (.tmp 23) rfl b o rfl (List.map (Value.int .u8) k) _ (fun u hu => range_later hu HS.out.key) Tryd.underlying27 rfl hiK
  try simp only [Act.put, List.setIfInBounds_toArray, List.set_cons_zero, List.set_cons_succ]
  refine wpAnyH_take (i := 4) (oi := ?o4s) (v := ?v4s) ?h4s (by kernel_rfl) ?f4s ?r4s (fun _ _ _ h => h) (Or.inl ⟨?w4s, ?y4s⟩) (by assumption) ?t4s
  case h4s => simp only [List.getElem?_toArray]; rfl
  case f4s => kernel_rfl
  case r4s => kernel_rfl
  case w4s => rfl
  case y4s => (intro u hu; (go_simp) <;> with_reducible rfl)
  try simp only [Act.put, List.setIfInBounds_toArray, List.set_cons_zero, List.set_cons_succ]
  refine wpAnyH_take (i := 5) (oi := ?o5s) (v := ?v5s) ?h5s (by kernel_rfl) ?f5s ?r5s (fun _ _ _ h => h) (Or.inl ⟨?w5s, ?y5s⟩) (by assumption) ?t5s
  case h5s => simp only [List.getElem?_toArray]; rfl
  case f5s => kernel_rfl
  case r5s => kernel_rfl
  case w5s => rfl
  case y5s => (intro u hu; (go_simp) <;> with_reducible rfl)
  try simp only [Act.put, List.setIfInBounds_toArray, List.set_cons_zero, List.set_cons_succ]
  refine wpAnyH_take (i := 6) (oi := ?o6s) (v := ?v6s) ?h6s (by kernel_rfl) ?f6s ?r6s (fun _ _ _ h => h) (Or.inl ⟨?w6s, ?y6s⟩) (by assumption) ?t6s
  case h6s => simp only [List.getElem?_toArray]; rfl
  case f6s => kernel_rfl
  case r6s => kernel_rfl
  case w6s => rfl
  case y6s => (intro u hu; (go_simp) <;> with_reducible rfl)
  try simp only [Act.put, List.setIfInBounds_toArray, List.set_cons_zero, List.set_cons_succ]
  refine wpAnyH_take (i := 7) (oi := ?o7s) (v := ?v7s) ?h7s (by kernel_rfl) ?f7s ?r7s (fun _ _ _ h => h) (Or.inl ⟨?w7s, ?y7s⟩) (by assumption) ?t7s
  case h7s => simp only [List.getElem?_toArray]; rfl
  case f7s => kernel_rfl
  case r7s => kernel_rfl
  case w7s => rfl
  case y7s => (intro u hu; (have hx := xx u hu; go_simp) <;> with_reducible rfl)
  try simp only [Act.put, List.setIfInBounds_toArray, List.set_cons_zero, List.set_cons_succ]
  refine wpAnyH_take (i := 9) (oi := ?o9s) (v := ?v9s) ?h9s (by kernel_rfl) ?f9s ?r9s (fun _ _ _ h => h) (Or.inl ⟨?w9s, ?y9s⟩) (by assumption) ?t9s
  case h9s => simp only [List.getElem?_toArray]; rfl
  case f9s => kernel_rfl
  case r9s => kernel_rfl
  case w9s => rfl
  case y9s => (intro u hu; (go_simp) <;> with_reducible rfl)
  try simp only [Act.put, List.setIfInBounds_toArray, List.set_cons_zero, List.set_cons_succ]
  refine wpAnyH_take (i := 10) (oi := ?o10s) (v := ?v10s) ?h10s (by kernel_rfl) ?f10s ?r10s (fun _ _ _ h => h) (Or.inl ⟨?w10s, ?y10s⟩) (by assumption) ?t10s
  case h10s => simp only [List.getElem?_toArray]; rfl
  case f10s => kernel_rfl
  case r10s => kernel_rfl
  case w10s => rfl
  case y10s => (intro u hu; (go_simp) <;> with_reducible rfl)
  try simp only [Act.put, List.setIfInBounds_toArray, List.set_cons_zero, List.set_cons_succ]
  refine wpAnyH_ready (rs := [8]) (by kernel_rfl) (by simp) ?_
  refine AllReadyH.cons (o := ?o8s) ?h8s (fun K hK => ?_) AllReadyH.nil
  case h8s => simp only [List.getElem?_toArray]; rfl
  go_simp
  refine (nonce_c n HS.out.wn.1 HS.out.wn.2 _).mono ?_
  rintro e V1 ⟨N, rfl, HN, HNn, hb⟩
  refine hK.out _ _ (hH.trans hb) (fun hH' => ?_)
  clear hK K hH
  have hH := hH'
  clear hH'
  try simp only [List.setIfInBounds_toArray, List.set]
  clear hb
  have hv1 : w.heap.size ≤ V1.heap.size := hH.size
  refine wpAnyH_ready (rs := [11]) (by kernel_rfl) (by simp) ?_
  refine AllReadyH.cons (o := ?o11s) ?h11s (fun K hK => ?_) AllReadyH.nil
  case h11s => simp only [List.getElem?_toArray]; rfl
  go_simp
  refine (seal_c k N aa la ca ad at' lt ct text HS.out.bk HNn.out _ (HRA.out.below hH) (HRT.out.below hH) ha hm).mono ?_
  rintro e V2 ⟨g, m, X, rfl, Hm, HX, OX, hg, hb⟩
  refine hK.out _ _ (hH.trans hb) (fun hH' => ?_)
  clear hK K hH
  have hH := hH'
  clear hH'
  try simp only [List.setIfInBounds_toArray, List.set]
  refine wpAnyH_take (i := 12) (oi := ?o12s) (v := ?v12s) ?h12s (by kernel_rfl) ?f12s ?r12s (fun _ _ _ h => h) (Or.inl ⟨?w12s, ?y12s⟩) (by assumption) ?t12s
  case h12s => simp only [List.getElem?_toArray]; rfl
  case f12s => kernel_rfl
  case r12s => kernel_rfl
  case w12s => rfl
  case y12s => (intro u hu; (go_simp) <;> with_reducible rfl)
  try simp only [Act.put, List.setIfInBounds_toArray, List.set_cons_zero, List.set_cons_succ]
  refine wpAnyH_done (by kernel_rfl) ?_ _
  refine NoPanic.normal ?_
  have hlt := HS.out.lt
  replace HS : Hid (Sy V2 b o k true n) := HS.out.later hH
  have HE : Hid (ExtR b o 34 w V2) := ExtR.of hH hlt
  have hne : b ≠ g := by have := hH.size; have := hg; omega
  clear HRA HRT xx cn ch hb
  obtain ⟨cn, fn⟩ := HS.out.nonce
  have HO : Hid (Ow (V2.setCell ⟨b, o + 33, none⟩ (.int .u64 n')) g m X) := OX.out.else b (o + 33) (Ne.symm hne) _
  have HS2 : Hid (Sy (V2.setCell ⟨b, o + 33, none⟩ (.int .u64 n')) b o k true n') := HS.out.setN ⟨hlo, hn1⟩
  have HE2 : Hid (ExtR b o 34 w (V2.setCell ⟨b, o + 33, none⟩ (.int .u64 n'))) := HE.out.set (o + 33) (by omega) (by omega) _
  clear HS HE OX hn1 hlo
  go_wp2
  go_ret2
  exact ⟨g, m, X, n', rfl, by omega, Hm, by rw [HN.out] at HX; exact HX, HN1, HO, HS2, HE2.out⟩
end Go.Proofs.YtmibjgkakolhiaaDoor
