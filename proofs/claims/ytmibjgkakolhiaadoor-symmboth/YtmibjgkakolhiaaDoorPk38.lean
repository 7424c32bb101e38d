/-
  Several texts of one's own, laid together. No statement of the seat is proved here.
-/
import Derived.Test.YtmibjgkakolhiaaDoorA6O
import Derived.Test.YtmibjgkakolhiaaDoorPk4
import Derived.Test.YtmibjgkakolhiaaDoorPk32
import Derived.Test.YtmibjgkakolhiaaDoorVGs
/-
  What a State's Open does where it is embedded. No statement of the seat is proved here.
-/
namespace Go.Proofs.YtmibjgkakolhiaaDoor
open Go.RowKit



set_option maxRecDepth 8000 in
set_option maxHeartbeats 2000000 in
theorem open9o_none (b o : Nat) (k : List Int) (n : Int) (aa : Option Addr) (la ca : Nat) (_ad : List Int) (ab : Option Addr) (lb cb : Nat) (box : List Int) (w : World) (hs : Sy w b o k false n) (hrt : Rd w ab lb cb box) (hm : lb ≤ 140737488351248) :
    Calls Tryd.prog 34 #[.pointer (some ⟨b, o, none⟩), .slice aa la ca, .slice ab lb cb] w fun e w' => ∃ g, e = .returned (.tuple #[.slice (some ⟨g, 0, none⟩) lb lb, .int .i64 0]) ∧ w.heap.size ≤ g ∧ Hid (Ow w' g lb box) ∧ Hid (Sy w' b o k false n) ∧ Below w.heap.size w w' := by
  have HS : Hid (Sy w b o k false n) := hs
  have HRT : Hid (Rd w ab lb cb box) := hrt
  obtain ⟨ch, -⟩ := hs.has
  clear hs hrt
  go_enter Tryd.func34, Tryd.ntmps34
  go_wp2_with fail
  refine (clone_any ab lb cb box _ HRT.out (by omega)).mono ?_
  rintro e V ⟨g, rfl, hg, ho, hb⟩
  have HO : Hid (Ow V g lb box) := ⟨⟨_, ho⟩, HRT.out.byt⟩
  replace HS : Hid (Sy V b o k false n) := HS.out.later hb
  have HB : Hid (Below w.heap.size w V) := hb
  clear ho hb HRT ch
  go_wp2
  go_ret2
  exact ⟨g, rfl, hg, HO, HS, HB.out⟩
set_option maxRecDepth 8000 in
set_option maxHeartbeats 2000000 in
theorem open9o_last (b o : Nat) (k : List Int) (n : Int) (aa : Option Addr) (la ca : Nat) (_ad : List Int) (ab : Option Addr) (lb cb : Nat) (_box : List Int) (w : World) (hs : Sy w b o k true n) (hn : n = 18446744073709551615) :
    Calls Tryd.prog 34 #[.pointer (some ⟨b, o, none⟩), .slice aa la ca, .slice ab lb cb] w fun e w' => e = .returned (.tuple #[.slice none 0 0, .int .i64 9]) ∧ w' = w := by
  subst hn
  obtain ⟨ch, -⟩ := hs.has
  obtain ⟨cn, -⟩ := hs.nonce
  clear hs
  go_enter Tryd.func34, Tryd.ntmps34
  go_wp2
  go_ret2
  exact ⟨rfl, rfl⟩
set_option maxRecDepth 8000 in
set_option maxHeartbeats 4000000 in
theorem open9o_full (b o : Nat) (k : List Int) (n : Int) (aa : Option Addr) (la ca : Nat) (ad : List Int) (ab : Option Addr) (lb cb : Nat) (box : List Int) (w : World) (hs : Sy w b o k true n) (hn : n ≠ 18446744073709551615) (hra : Rd w aa la ca ad) (hrb : Rd w ab lb cb box) (ha : la ≤ 140737488351232) (hm : lb ≤ 140737488351248) :
    Calls Tryd.prog 34 #[.pointer (some ⟨b, o, none⟩), .slice aa la ca, .slice ab lb cb] w fun e w' => ∃ a' m c X E n', e = .returned (.tuple #[.slice a' m c, .int .i64 E]) ∧ Hid (E = er6 k (nn6 n) ad box) ∧ Hid (X = op6 k (nn6 n) ad box) ∧ Hid (n' = if E = 0 then n + 1 else n) ∧ Hid (Rd w' a' m c X) ∧ Hid (Sy w' b o k true n') ∧ ExtR b o 34 w w' ∧ Kp w w' ∧ Fr w.heap.size a' m := by
  have HS : Hid (Sy w b o k true n) := hs
  have HRA : Hid (Rd w aa la ca ad) := hra
  have HRB : Hid (Rd w ab lb cb box) := hrb
  have hn1 : n + 1 < 18446744073709551616 := by have := hs.wn; omega
  have hw1 : IntKind.u64.wrap (n + 1) = n + 1 := by rw [IntKind.wrap_u64]; have := hs.wn; omega
  obtain ⟨n', hn'⟩ : ∃ x, x = n + 1 := ⟨_, rfl⟩
  have HN1 : Hid (n' = n + 1) := hn'
  rw [← hn'] at hn1
  have hlo : 0 ≤ n' := by have := hs.wn; omega
  rw [← hn', show IntKind.u64.wrap n' = IntKind.u64.wrap (n + 1) by rw [hn']] at hw1
  obtain ⟨ch, -⟩ := hs.has
  obtain ⟨cn, -⟩ := hs.nonce
  obtain ⟨_, _, hiK⟩ := bn32_cells hs.bk
  clear hs hra hrb hn'
  go_enter Tryd.func34, Tryd.ntmps34
  go_upto_region 5 with fail
  have xx : ∀ u, Ext w u → u.cell? ⟨b, o + 33, none⟩ = some (.int .u64 n) := fun u hu => hu.cell cn
  refine wp_region_noPanic ?_
  refine wp_region_held_drew (S := Ext w) (by kernel_rfl) (Ext.refl _).drew (fun hH => ?_)
  change wpAnyH _ _ _ _ _ _ #[false, false, false, false, false, false, false, false, false, false, false, false, false, false, false, false, false] _ _
  refine wpAnyH_take (i := 0) (oi := ?o0s) (v := ?v0s) ?h0s (by kernel_rfl) ?f0s ?r0s (fun _ _ _ h => h) (Or.inl ⟨?w0s, ?y0s⟩) (by assumption) ?t0s
  case h0s => simp only [List.getElem?_toArray]; rfl
  case f0s => kernel_rfl
  case r0s => kernel_rfl
  case w0s => rfl
  case y0s => (intro u hu; (go_simp) <;> with_reducible rfl)
  try simp only [Act.put, List.setIfInBounds_toArray, List.set_cons_zero, List.set_cons_succ]
  refine wpAnyH_take (i := 1) (oi := ?o1s) (v := ?v1s) ?h1s (by kernel_rfl) ?f1s ?r1s (fun _ _ _ h => h) (Or.inl ⟨?w1s, ?y1s⟩) (by assumption) ?t1s
  case h1s => simp only [List.getElem?_toArray]; rfl
  case f1s => kernel_rfl
  case r1s => kernel_rfl
  case w1s => rfl
  case y1s => (intro u hu; (go_simp) <;> with_reducible rfl)
  try simp only [Act.put, List.setIfInBounds_toArray, List.set_cons_zero, List.set_cons_succ]
  refine wpAnyH_take (i := 2) (oi := ?o2s) (v := ?v2s) ?h2s (by kernel_rfl) ?f2s ?r2s (fun _ _ _ h => h) (Or.inl ⟨?w2s, ?y2s⟩) (by assumption) ?t2s
  case h2s => simp only [List.getElem?_toArray]; rfl
  case f2s => kernel_rfl
  case r2s => kernel_rfl
  case w2s => rfl
  case y2s => (intro u hu; (go_simp) <;> with_reducible rfl)
  try simp only [Act.put, List.setIfInBounds_toArray, List.set_cons_zero, List.set_cons_succ]
  refine wpAnyH_take (i := 3) (oi := ?o3s) (v := .agg (List.map (Value.int .u8) k).toArray) ?h3s (by kernel_rfl) ?f3s ?r3s (fun _ _ _ h => h) ?y3s (by assumption) ?t3s
  case h3s => simp only [List.getElem?_toArray]; rfl
  case f3s => kernel_rfl
  case r3s => kernel_rfl
  case y3s => exact yieldsIf_load_mid (by rfl) 27 (.tmp 25) rfl b o rfl (List.map (Value.int .u8) k) _ (fun u hu => range_later hu HS.out.key) Tryd.underlying27 rfl hiK
  try simp only [Act.put, List.setIfInBounds_toArray, List.set_cons_zero, List.set_cons_succ]
  refine wpAnyH_take (i := 4) (oi := ?o4s) (v := ?v4s) ?h4s (by kernel_rfl) ?f4s ?r4s (fun _ _ _ h => h) (Or.inl ⟨?w4s, ?y4s⟩) (by assumption) ?t4s
  case h4s => simp only [List.getElem?_toArray]; rfl
  case f4s => kernel_rfl
  case r4s => kernel_rfl
  case w4s => rfl
  case y4s => (intro u hu; (go_simp) <;> with_reducible rfl)
  try simp only [Act.put, List.setIfInBounds_toArray, List.set_cons_zero, List.set_cons_succ]
  refine wpAnyH_take (i := 5) (oi := ?o5s) (v := ?v5s) ?h5s (by kernel_rfl) ?f5s ?r5s (fun _ _ _ h => h) (Or.inl ⟨?w5s, ?y5s⟩) (by assumption) ?t5s
  case h5s => simp only [List.getElem?_toArray]; rfl
  case f5s => kernel_rfl
  case r5s => kernel_rfl
  case w5s => rfl
  case y5s => (intro u hu; (go_simp) <;> with_reducible rfl)
  try simp only [Act.put, List.setIfInBounds_toArray, List.set_cons_zero, List.set_cons_succ]
  refine wpAnyH_take (i := 6) (oi := ?o6s) (v := ?v6s) ?h6s (by kernel_rfl) ?f6s ?r6s (fun _ _ _ h => h) (Or.inl ⟨?w6s, ?y6s⟩) (by assumption) ?t6s
  case h6s => simp only [List.getElem?_toArray]; rfl
  case f6s => kernel_rfl
  case r6s => kernel_rfl
  case w6s => rfl
  case y6s => (intro u hu; (go_simp) <;> with_reducible rfl)
  try simp only [Act.put, List.setIfInBounds_toArray, List.set_cons_zero, List.set_cons_succ]
  refine wpAnyH_take (i := 7) (oi := ?o7s) (v := ?v7s) ?h7s (by kernel_rfl) ?f7s ?r7s (fun _ _ _ h => h) (Or.inl ⟨?w7s, ?y7s⟩) (by assumption) ?t7s
  case h7s => simp only [List.getElem?_toArray]; rfl
  case f7s => kernel_rfl
  case r7s => kernel_rfl
  case w7s => rfl
  case y7s => (intro u hu; (have hx := xx u hu; go_simp) <;> with_reducible rfl)
  try simp only [Act.put, List.setIfInBounds_toArray, List.set_cons_zero, List.set_cons_succ]
  refine wpAnyH_take (i := 9) (oi := ?o9s) (v := ?v9s) ?h9s (by kernel_rfl) ?f9s ?r9s (fun _ _ _ h => h) (Or.inl ⟨?w9s, ?y9s⟩) (by assumption) ?t9s
  case h9s => simp only [List.getElem?_toArray]; rfl
  case f9s => kernel_rfl
  case r9s => kernel_rfl
  case w9s => rfl
  case y9s => (intro u hu; (go_simp) <;> with_reducible rfl)
  try simp only [Act.put, List.setIfInBounds_toArray, List.set_cons_zero, List.set_cons_succ]
  refine wpAnyH_take (i := 10) (oi := ?o10s) (v := ?v10s) ?h10s (by kernel_rfl) ?f10s ?r10s (fun _ _ _ h => h) (Or.inl ⟨?w10s, ?y10s⟩) (by assumption) ?t10s
  case h10s => simp only [List.getElem?_toArray]; rfl
  case f10s => kernel_rfl
  case r10s => kernel_rfl
  case w10s => rfl
  case y10s => (intro u hu; (go_simp) <;> with_reducible rfl)
  try simp only [Act.put, List.setIfInBounds_toArray, List.set_cons_zero, List.set_cons_succ]
  refine wpAnyH_ready (rs := [8]) (by kernel_rfl) (by simp) ?_
  refine AllReadyH.cons (o := ?o8s) ?h8s (fun K hK => ?_) AllReadyH.nil
  case h8s => simp only [List.getElem?_toArray]; rfl
  go_simp
  refine (nonce_c n HS.out.wn.1 HS.out.wn.2 _).mono ?_
  rintro e V1 ⟨N, rfl, HN, HNn, hb⟩
  refine hK.out _ _ (hH.trans hb) (fun hH' => ?_)
  clear hK K hH
  have hH := hH'
  clear hH'
  try simp only [List.setIfInBounds_toArray, List.set]
  clear hb
  refine wpAnyH_ready (rs := [11]) (by kernel_rfl) (by simp) ?_
  refine AllReadyH.cons (o := ?o11s) ?h11s (fun K hK => ?_) AllReadyH.nil
  case h11s => simp only [List.getElem?_toArray]; rfl
  go_simp
  refine (open_f k N aa la ca ad ab lb cb box HS.out.bk HNn.out _ (HRA.out.below hH) (HRB.out.below hH) ha hm).mono ?_
  rintro e V2 ⟨a', m, c, X, E, rfl, HE6, HX, RX, hfr, hb⟩
  have HFR : Hid (Fr w.heap.size a' m) := hfr.mono hH.size
  clear hfr
  refine hK.out _ _ (hH.trans hb) (fun hH' => ?_)
  clear hK K hH
  have hH := hH'
  clear hH'
  try simp only [List.setIfInBounds_toArray, List.set]
  refine wpAnyH_take (i := 12) (oi := ?o12s) (v := ?v12s) ?h12s (by kernel_rfl) ?f12s ?r12s (fun _ _ _ h => h) (Or.inl ⟨?w12s, ?y12s⟩) (by assumption) ?t12s
  case h12s => simp only [List.getElem?_toArray]; rfl
  case f12s => kernel_rfl
  case r12s => kernel_rfl
  case w12s => rfl
  case y12s => (intro u hu; (go_simp) <;> with_reducible rfl)
  try simp only [Act.put, List.setIfInBounds_toArray, List.set_cons_zero, List.set_cons_succ]
  refine wpAnyH_take (i := 13) (oi := ?o13s) (v := ?v13s) ?h13s (by kernel_rfl) ?f13s ?r13s (fun _ _ _ h => h) (Or.inl ⟨?w13s, ?y13s⟩) (by assumption) ?t13s
  case h13s => simp only [List.getElem?_toArray]; rfl
  case f13s => kernel_rfl
  case r13s => kernel_rfl
  case w13s => rfl
  case y13s => (intro u hu; (go_simp) <;> with_reducible rfl)
  try simp only [Act.put, List.setIfInBounds_toArray, List.set_cons_zero, List.set_cons_succ]
  refine wpAnyH_take (i := 14) (oi := ?o14s) (v := ?v14s) ?h14s (by kernel_rfl) ?f14s ?r14s (fun _ _ _ h => h) (Or.inl ⟨?w14s, ?y14s⟩) (by assumption) ?t14s
  case h14s => simp only [List.getElem?_toArray]; rfl
  case f14s => kernel_rfl
  case r14s => kernel_rfl
  case w14s => rfl
  case y14s => (intro u hu; (go_simp) <;> with_reducible rfl)
  try simp only [Act.put, List.setIfInBounds_toArray, List.set_cons_zero, List.set_cons_succ]
  refine wpAnyH_take (i := 15) (oi := ?o15s) (v := ?v15s) ?h15s (by kernel_rfl) ?f15s ?r15s (fun _ _ _ h => h) (Or.inl ⟨?w15s, ?y15s⟩) (by assumption) ?t15s
  case h15s => simp only [List.getElem?_toArray]; rfl
  case f15s => kernel_rfl
  case r15s => kernel_rfl
  case w15s => rfl
  case y15s => (intro u hu; (go_simp) <;> with_reducible rfl)
  try simp only [Act.put, List.setIfInBounds_toArray, List.set_cons_zero, List.set_cons_succ]
  refine wpAnyH_take (i := 16) (oi := ?o16s) (v := ?v16s) ?h16s (by kernel_rfl) ?f16s ?r16s (fun _ _ _ h => h) (Or.inl ⟨?w16s, ?y16s⟩) (by assumption) ?t16s
  case h16s => simp only [List.getElem?_toArray]; rfl
  case f16s => kernel_rfl
  case r16s => kernel_rfl
  case w16s => rfl
  case y16s => (intro u hu; (go_simp) <;> with_reducible rfl)
  try simp only [Act.put, List.setIfInBounds_toArray, List.set_cons_zero, List.set_cons_succ]
  refine wpAnyH_done (by kernel_rfl) ?_ _
  refine NoPanic.normal ?_
  have hlt := HS.out.lt
  replace HS : Hid (Sy V2 b o k true n) := HS.out.later hH
  replace HRX : Hid (Rd V2 a' m c X) := RX
  have HE : Hid (ExtR b o 34 w V2) := ExtR.of hH hlt
  rw [HN.out] at HE6 HX
  have HKP : Hid (Kp w V2) := Kp.below hH
  clear HRA HRB xx cn ch hb RX
  obtain ⟨cn, fn⟩ := HS.out.nonce
  by_cases h0 : E = 0
  · subst h0
    have HS2 : Hid (Sy (V2.setCell ⟨b, o + 33, none⟩ (.int .u64 n')) b o k true n') := HS.out.setN ⟨hlo, hn1⟩
    have HE2 : Hid (ExtR b o 34 w (V2.setCell ⟨b, o + 33, none⟩ (.int .u64 n'))) := HE.out.set (o + 33) (by omega) (by omega) _
    have HR2 : Hid (Rd (V2.setCell ⟨b, o + 33, none⟩ (.int .u64 n')) a' m c X) := HRX.out.not_here cn (fun m h => by cases h) _
    have HK2 : Hid (Kp w (V2.setCell ⟨b, o + 33, none⟩ (.int .u64 n'))) := fun a l c x hr => (HKP.out a l c x hr).not_here cn (fun m h => by cases h) _
    clear HS HRX HE hn1 hlo HKP
    go_wp2
    go_ret2
    exact ⟨a', m, c, X, 0, n', rfl, HE6, HX, by unfold Hid; rw [if_pos rfl]; exact HN1.out, HR2, HS2, HE2.out, HK2.out, HFR.out⟩
  · have HNX : Hid (op6 k (nn6 n) ad box = []) := op6_not _ _ _ _ (by rw [← HE6.out]; exact h0)
    clear HX HRX hn1 hlo hw1 cn fn
    go_wp2
    go_ret2
    exact ⟨none, 0, 0, [], E, n, rfl, HE6, HNX.out.symm, by unfold Hid; rw [if_neg h0], Rd.nil _ _ _ (fun _ => rfl), HS, HE.out, HKP.out, fr_nil⟩
end Go.Proofs.YtmibjgkakolhiaaDoor
/-
  Seal and Open of a State that is embedded, whatever state it is in. No statement of the seat is proved here.
-/
namespace Go.Proofs.YtmibjgkakolhiaaDoor
open Go.RowKit

set_option maxRecDepth 8000 in
theorem seal9o_c (b o : Nat) (k : List Int) (h : Bool) (n : Int) (aa : Option Addr) (la ca : Nat) (ad : List Int) (at' : Option Addr) (lt ct : Nat) (text : List Int) (w : World) (hs : Sy w b o k h n) (hra : Rd w aa la ca ad) (hrt : Rd w at' lt ct text) (ha : la ≤ 140737488351232) (hm : lt ≤ 140737488351232) :
    Calls Tryd.prog 33 #[.pointer (some ⟨b, o, none⟩), .slice aa la ca, .slice at' lt ct] w fun e w' => ∃ a m c X E n', e = .returned (.tuple #[.slice a m c, .int .i64 E]) ∧ m ≤ lt + 16 ∧ Hid (X = sx9 k h n ad text) ∧ Hid (E = se9 h n) ∧ Hid (n' = sn9 h n) ∧ Hid (Rd w' a m c X) ∧ Hid (Sy w' b o k h n') ∧ ExtR b o 34 w w' ∧ Fr w.heap.size a m := by
  cases h with
  | false =>
    refine (seal9o_none b o k n aa la ca ad at' lt ct text w hs hrt hm).mono ?_
    rintro e w' ⟨g, rfl, hg, ho, hs', hb⟩
    exact ⟨_, lt, lt, text, 0, n, rfl, by omega, rfl, rfl, rfl, ho.out.rd, hs', ExtR.of hb hs.lt, fr_at hg⟩
  | true =>
    by_cases hn : n = 18446744073709551615
    · refine (seal9o_last b o k n aa la ca ad at' lt ct text w hs hn).mono ?_
      rintro e w' ⟨rfl, rfl⟩
      exact ⟨none, 0, 0, [], 9, n, rfl, by omega, by unfold Hid sx9; rw [if_pos rfl, if_pos hn], by unfold Hid se9; rw [if_pos rfl, if_pos hn], by unfold Hid sn9; rw [if_pos rfl, if_pos hn], Rd.nil _ _ _ (fun _ => rfl), hs, ExtR.refl _ _ _ _, fr_nil⟩
    · refine (seal9o_yes b o k n aa la ca ad at' lt ct text w hs hn hra hrt ha hm).mono ?_
      rintro e w' ⟨g, m, X, n', rfl, hg, hm', hX, hn', ho, hs', hb⟩
      exact ⟨_, m, m, X, 0, n', rfl, by have := hm'.out; omega, by unfold Hid sx9; rw [if_pos rfl, if_neg hn]; exact hX.out, by unfold Hid se9; rw [if_pos rfl, if_neg hn], by unfold Hid sn9; rw [if_pos rfl, if_neg hn]; exact hn'.out, ho.out.rd, hs', hb, fr_at hg⟩
set_option maxRecDepth 8000 in
theorem open9o_c (b o : Nat) (k : List Int) (h : Bool) (n : Int) (aa : Option Addr) (la ca : Nat) (ad : List Int) (ab : Option Addr) (lb cb : Nat) (box : List Int) (w : World) (hs : Sy w b o k h n) (hra : Rd w aa la ca ad) (hrb : Rd w ab lb cb box) (ha : la ≤ 140737488351232) (hm : lb ≤ 140737488351248) :
    Calls Tryd.prog 34 #[.pointer (some ⟨b, o, none⟩), .slice aa la ca, .slice ab lb cb] w fun e w' => ∃ a m c X E n', e = .returned (.tuple #[.slice a m c, .int .i64 E]) ∧ Hid (X = ox9 k h n ad box) ∧ Hid (E = oe9 k h n ad box) ∧ Hid (n' = on9 k h n ad box) ∧ Hid (Rd w' a m c X) ∧ Hid (Sy w' b o k h n') ∧ ExtR b o 34 w w' ∧ Kp w w' ∧ Fr w.heap.size a m := by
  cases h with
  | false =>
    refine (open9o_none b o k n aa la ca ad ab lb cb box w hs hrb hm).mono ?_
    rintro e w' ⟨g, rfl, hg, ho, hs', hb⟩
    exact ⟨_, lb, lb, box, 0, n, rfl, rfl, rfl, rfl, ho.out.rd, hs', ExtR.of hb hs.lt, Kp.below hb, fr_at hg⟩
  | true =>
    by_cases hn : n = 18446744073709551615
    · refine (open9o_last b o k n aa la ca ad ab lb cb box w hs hn).mono ?_
      rintro e w' ⟨rfl, rfl⟩
      exact ⟨none, 0, 0, [], 9, n, rfl, by unfold Hid ox9; rw [if_pos rfl, if_pos hn], by unfold Hid oe9; rw [if_pos rfl, if_pos hn], by unfold Hid on9; rw [if_pos rfl, if_pos hn], Rd.nil _ _ _ (fun _ => rfl), hs, ExtR.refl _ _ _ _, Kp.refl _, fr_nil⟩
    · refine (open9o_full b o k n aa la ca ad ab lb cb box w hs hn hra hrb ha hm).mono ?_
      rintro e w' ⟨a', m, c', X, E, n', rfl, hE, hX, hn', ho, hs', hb, hkp, hfr⟩
      exact ⟨_, m, c', X, E, n', rfl, by unfold Hid ox9; rw [if_pos rfl, if_neg hn]; exact hX.out, by unfold Hid oe9; rw [if_pos rfl, if_neg hn]; exact hE.out, by unfold Hid on9; rw [if_pos rfl, if_neg hn, ← hE.out]; exact hn'.out, ho, hs', hb, hkp, hfr⟩
end Go.Proofs.YtmibjgkakolhiaaDoor
