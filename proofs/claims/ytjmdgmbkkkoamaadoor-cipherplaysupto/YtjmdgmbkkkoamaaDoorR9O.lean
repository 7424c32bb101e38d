/-
  What the reference's Cipher's Init, Seal and Open do. No statement of the seat is proved here.
-/
import Derived.Test.YtjmdgmbkkkoamaaDoorPk27
import Derived.Test.YtjmdgmbkkkoamaaDoorR6S
import Derived.Test.YtjmdgmbkkkoamaaDoorR6O
namespace Go.Proofs.YtjmdgmbkkkoamaaDoor
open Go.RowKit

set_option maxRecDepth 8000 in
theorem errno9_c (n : Int) (w : World) (hn : n = 0 ∨ n = 1 ∨ n = 2) :
    Calls Tryd.prog 27 #[.int .i64 n] w fun e w' => ∃ z, e = .returned (.int .i64 z) ∧ Hid (z = if n = 1 then 7 else if n = 2 then 8 else 0) ∧ w' = w := by
  rcases hn with rfl | rfl | rfl
  all_goals
    go_enter Tryd.func27, Tryd.ntmps27
    go_wp2
    go_ret
    exact ⟨_, rfl, rfl, rfl⟩
set_option maxRecDepth 8000 in
set_option maxHeartbeats 2000000 in
theorem rinit9_c (b : Nat) (k : List Int) (h : Bool) (n : Int) (key : List Int) (hk : Bn 32 key) (w : World) (hs : Cx w b k h n) :
    Calls Tryd.prog 14 #[.pointer (some ⟨b, 0, none⟩), (.agg (List.map (Value.int .u8) key).toArray)] w fun e w' => e = .returned (.tuple #[]) ∧ Hid (Cx w' b key true 0) ∧ ExtB b w w' := by
  have HS : Hid (Cx w b k h n) := hs
  have HK : Hid (Bn 32 key) := hk
  clear hs hk
  go_enter Tryd.func14, Tryd.ntmps14
  go_upto_region 1 with fail
  have AK : Hid (Ar (w.alloc (.cells (List.map (Value.int .u8) key).toArray 27)) w.heap.size 32 (List.map (Value.int .u8) key)) := ar_box w _ 32 HK.out.map_len _
  have HB : Hid (Below w.heap.size w (w.alloc (.cells (List.map (Value.int .u8) key).toArray 27))) := bel1 _ _
  have HE : Hid (ExtB b w (w.alloc (.cells (List.map (Value.int .u8) key).toArray 27))) := (ExtB.refl b w).alloc _
  have hbq : b ≠ w.heap.size := by have := HS.out.lt; omega
  obtain ⟨W0, hW0⟩ : ∃ W, W = (w.alloc (.cells (List.map (Value.int .u8) key).toArray 27)) := ⟨_, rfl⟩
  obtain ⟨q3, hq3⟩ : ∃ q, q = w.heap.size := ⟨_, rfl⟩
  rw [← hW0] at AK HB HE ⊢
  rw [← hq3] at AK hbq ⊢
  clear hW0 hq3
  replace HS : Hid (Cx W0 b k h n) := HS.out.later HB.out
  clear HB
  obtain ⟨ch, fh⟩ := HS.out.has
  go_upto_region 2 with fail
  replace HS : Hid (Cx (W0.setCell ⟨b, 0, none⟩ (.bool true)) b k true n) := HS.out.setHas true
  replace AK : Hid (Ar (W0.setCell ⟨b, 0, none⟩ (.bool true)) q3 32 (List.map (Value.int .u8) key)) := AK.out.else b 0 (Ne.symm hbq) _
  replace HE : Hid (ExtB b w (W0.setCell ⟨b, 0, none⟩ (.bool true))) := HE.out.set 0 _
  obtain ⟨W1, hW1⟩ : ∃ W, W = (W0.setCell ⟨b, 0, none⟩ (.bool true)) := ⟨_, rfl⟩
  rw [← hW1] at AK HS HE ⊢
  clear hW1 ch fh
  obtain ⟨hlen', hone, hi⟩ := bn32_cells HK.out
  have hth := HS.out.keyThere
  have hR := AK.out.rng
  obtain ⟨cs, hcs⟩ : ∃ cs, cs = (List.map (Value.int .u8) key) := ⟨_, rfl⟩
  have HC : Hid (cs = (List.map (Value.int .u8) key)) := hcs
  rw [← hcs] at hlen' hone hi hR
  clear hcs
  go_upto_region 3 with (first
    | (refine wpList_load_mid rfl 27 (.tmp 3) rfl q3 0 rfl cs _ hR Tryd.underlying27 rfl hi ?_)
    | (refine wpList_store_mid rfl 27 (.tmp 10) (.tmp 8) rfl b 1 cs.toArray rfl rfl (by simpa [hlen'] using hth) (by simpa using hi) (all_oneCell_toArray hone) ?_))
  replace HS : Hid (Cx (W1.setCells b 1 cs) b key true n) := by rw [HC.out]; exact HS.out.setKey HK.out
  replace HE : Hid (ExtB b w (W1.setCells b 1 cs)) := HE.out.comp (extB_setCells _ _ _ (ExtB.refl b _))
  obtain ⟨W2, hW2⟩ : ∃ W, W = (W1.setCells b 1 cs) := ⟨_, rfl⟩
  rw [← hW2] at HS HE ⊢
  clear hW2 hlen' hone hi hR hth HC AK
  obtain ⟨cn, fn⟩ := HS.out.nonce
  go_wp2
  go_end0
  exact ⟨rfl, HS.out.setN (by decide), HE.out.set 33 _⟩
set_option maxRecDepth 8000 in
set_option maxHeartbeats 2000000 in
theorem rseal9_none (b : Nat) (k : List Int) (n : Int) (aa : Option Addr) (la ca : Nat) (_ad : List Int) (at' : Option Addr) (lt ct : Nat) (_text : List Int) (w : World) (hs : Cx w b k false n) :
    Calls Tryd.prog 7 #[.pointer (some ⟨b, 0, none⟩), .slice aa la ca, .slice at' lt ct] w fun e w' => e = .returned (.tuple #[.slice at' lt ct, .int .i64 0]) ∧ w' = w := by
  obtain ⟨ch, -⟩ := hs.has
  clear hs
  go_enter Tryd.func7, Tryd.ntmps7
  go_wp2
  go_ret2
  exact ⟨rfl, rfl⟩
set_option maxRecDepth 8000 in
set_option maxHeartbeats 2000000 in
theorem rseal9_last (b : Nat) (k : List Int) (n : Int) (aa : Option Addr) (la ca : Nat) (_ad : List Int) (at' : Option Addr) (lt ct : Nat) (_text : List Int) (w : World) (hs : Cx w b k true n) (hn : n = 18446744073709551615) :
    Calls Tryd.prog 7 #[.pointer (some ⟨b, 0, none⟩), .slice aa la ca, .slice at' lt ct] w fun e w' => e = .returned (.tuple #[.slice none 0 0, .int .i64 9]) ∧ w' = w := by
  subst hn
  obtain ⟨ch, -⟩ := hs.has
  obtain ⟨cn, -⟩ := hs.nonce
  clear hs
  go_enter Tryd.func7, Tryd.ntmps7
  go_wp2
  go_ret2
  exact ⟨rfl, rfl⟩
set_option maxRecDepth 8000 in
set_option maxHeartbeats 4000000 in
theorem rseal9_yes (b : Nat) (k : List Int) (n : Int) (aa : Option Addr) (la ca : Nat) (ad : List Int) (at' : Option Addr) (lt ct : Nat) (text : List Int) (w : World) (hs : Cx w b k true n) (hn : n ≠ 18446744073709551615) (hra : Rd w aa la ca ad) (hrt : Rd w at' lt ct text) (hg : Gr w) (hb0 : 0 < b) (hm : la + lt + 46 ≤ 2097152) :
    Calls Tryd.prog 7 #[.pointer (some ⟨b, 0, none⟩), .slice aa la ca, .slice at' lt ct] w fun e w' => ∃ a' m c' X n', e = .returned (.tuple #[.slice a' m c', .int .i64 0]) ∧ Hid (m = lt + 16) ∧ Hid (X = se6 k (nn6 n) ad text) ∧ Hid (n' = n + 1) ∧ Hid (Rd w' a' m c' X) ∧ Hid (Cx w' b k true n') ∧ ExtB b w w' ∧ Kp w w' := by
  have HS : Hid (Cx w b k true n) := hs
  have HRA : Hid (Rd w aa la ca ad) := hra
  have HRT : Hid (Rd w at' lt ct text) := hrt
  have HBT : Hid (Byt text) := hrt.byt
  have HG : Hid (Gr w) := hg
  have HN0 : Hid (0 ≤ n ∧ n < 18446744073709551616) := hs.wn
  have hn1 : n + 1 < 18446744073709551616 := by have := hs.wn; omega
  have hw1 : IntKind.u64.wrap (n + 1) = n + 1 := by rw [IntKind.wrap_u64]; have := hs.wn; omega
  obtain ⟨n', hn'⟩ : ∃ x, x = n + 1 := ⟨_, rfl⟩
  have HN1 : Hid (n' = n + 1) := hn'
  rw [← hn'] at hn1
  have hlo : 0 ≤ n' := by have := hs.wn; omega
  rw [← hn', show IntKind.u64.wrap n' = IntKind.u64.wrap (n + 1) by rw [hn']] at hw1
  have hw2 : IntKind.u64.wrap (n' - 1) = n := by rw [IntKind.wrap_u64, hn']; have := hs.wn; omega
  obtain ⟨ch, -⟩ := hs.has
  obtain ⟨cn, fn⟩ := hs.nonce
  obtain ⟨_, _, hiK⟩ := bn32_cells hs.bk
  clear hs hra hrt hg hn'
  go_enter Tryd.func7, Tryd.ntmps7
  go_upto_region 6 with fail
  replace HRA : Hid (Rd (w.setCell ⟨b, 33, none⟩ (.int .u64 n')) aa la ca ad) := HRA.out.not_here cn (fun m h => by cases h) _
  replace HRT : Hid (Rd (w.setCell ⟨b, 33, none⟩ (.int .u64 n')) at' lt ct text) := HRT.out.not_here cn (fun m h => by cases h) _
  replace HS : Hid (Cx (w.setCell ⟨b, 33, none⟩ (.int .u64 n')) b k true n') := HS.out.setN ⟨hlo, hn1⟩
  replace HG : Hid (Gr (w.setCell ⟨b, 33, none⟩ (.int .u64 n'))) := HG.out.set b 33 hb0 _
  have HE : Hid (ExtB b w (w.setCell ⟨b, 33, none⟩ (.int .u64 n'))) := (ExtB.refl b w).set 33 _
  have HKP : Hid (Kp w (w.setCell ⟨b, 33, none⟩ (.int .u64 n'))) := fun a l c x hr => hr.not_here cn (fun m h => by cases h) _
  obtain ⟨W1, hW1⟩ : ∃ W, W = (w.setCell ⟨b, 33, none⟩ (.int .u64 n')) := ⟨_, rfl⟩
  try rw [hw1]
  rw [← hW1] at HRA HRT HS HG HE HKP ⊢
  clear hW1 hw1 ch cn fn hlo hn1
  obtain ⟨cn, fn⟩ := HS.out.nonce
  have xx : ∀ u, Ext W1 u → u.cell? ⟨b, 33, none⟩ = some (.int .u64 n') := fun u hu => hu.cell cn
  refine wp_region_noPanic ?_
  refine wp_region_held_drew (S := Ext W1) (by kernel_rfl) (Ext.refl _).drew (fun hH => ?_)
  change wpAnyH _ _ _ _ _ _ #[false, false, false, false, false, false, false, false, false, false, false, false, false, false, false] _ _
  refine wpAnyH_take (i := 0) (oi := ?o0s) (v := ?v0s) ?h0s (by kernel_rfl) ?f0s ?r0s (fun _ _ _ h => h) (Or.inl ⟨?w0s, ?y0s⟩) (by assumption) ?t0s
  case h0s => simp only [List.getElem?_toArray]; rfl
  case f0s => kernel_rfl
  case r0s => kernel_rfl
  case w0s => rfl
  case y0s => (intro u hu; (go_simp) <;> with_reducible rfl)
  try simp only [Act.put, List.setIfInBounds_toArray, List.set_cons_zero, List.set_cons_succ]
  refine wpAnyH_take (i := 1) (oi := ?o1s) (v := ?v1s) ?h1s (by kernel_rfl) ?f1s ?r1s (fun _ _ _ h => h) (Or.inl ⟨?w1s, ?y1s⟩) (by assumption) ?t1s
  case h1s => simp only [List.getElem?_toArray]; rfl
  case f1s => kernel_rfl
  case r1s => kernel_rfl
  case w1s => rfl
  case y1s => (intro u hu; (go_simp) <;> with_reducible rfl)
  try simp only [Act.put, List.setIfInBounds_toArray, List.set_cons_zero, List.set_cons_succ]
  refine wpAnyH_take (i := 2) (oi := ?o2s) (v := ?v2s) ?h2s (by kernel_rfl) ?f2s ?r2s (fun _ _ _ h => h) (Or.inl ⟨?w2s, ?y2s⟩) (by assumption) ?t2s
  case h2s => simp only [List.getElem?_toArray]; rfl
  case f2s => kernel_rfl
  case r2s => kernel_rfl
  case w2s => rfl
  case y2s => (intro u hu; (go_simp) <;> with_reducible rfl)
  try simp only [Act.put, List.setIfInBounds_toArray, List.set_cons_zero, List.set_cons_succ]
  refine wpAnyH_take (i := 3) (oi := ?o3s) (v := .agg (List.map (Value.int .u8) k).toArray) ?h3s (by kernel_rfl) ?f3s ?r3s (fun _ _ _ h => h) ?y3s (by assumption) ?t3s
  case h3s => simp only [List.getElem?_toArray]; rfl
  case f3s => kernel_rfl
  case r3s => kernel_rfl
  case y3s => exact yieldsIf_load_mid (by rfl) 27 (.tmp 28) rfl b 1 rfl (List.map (Value.int .u8) k) _ (fun u hu => range_later hu HS.out.key) Tryd.underlying27 rfl hiK
  try simp only [Act.put, List.setIfInBounds_toArray, List.set_cons_zero, List.set_cons_succ]
  refine wpAnyH_take (i := 4) (oi := ?o4s) (v := ?v4s) ?h4s (by kernel_rfl) ?f4s ?r4s (fun _ _ _ h => h) (Or.inl ⟨?w4s, ?y4s⟩) (by assumption) ?t4s
  case h4s => simp only [List.getElem?_toArray]; rfl
  case f4s => kernel_rfl
  case r4s => kernel_rfl
  case w4s => rfl
  case y4s => (intro u hu; (go_simp) <;> with_reducible rfl)
  try simp only [Act.put, List.setIfInBounds_toArray, List.set_cons_zero, List.set_cons_succ]
  refine wpAnyH_take (i := 5) (oi := ?o5s) (v := ?v5s) ?h5s (by kernel_rfl) ?f5s ?r5s (fun _ _ _ h => h) (Or.inl ⟨?w5s, ?y5s⟩) (by assumption) ?t5s
  case h5s => simp only [List.getElem?_toArray]; rfl
  case f5s => kernel_rfl
  case r5s => kernel_rfl
  case w5s => rfl
  case y5s => (intro u hu; (go_simp) <;> with_reducible rfl)
  try simp only [Act.put, List.setIfInBounds_toArray, List.set_cons_zero, List.set_cons_succ]
  refine wpAnyH_take (i := 6) (oi := ?o6s) (v := ?v6s) ?h6s (by kernel_rfl) ?f6s ?r6s (fun _ _ _ h => h) (Or.inl ⟨?w6s, ?y6s⟩) (by assumption) ?t6s
  case h6s => simp only [List.getElem?_toArray]; rfl
  case f6s => kernel_rfl
  case r6s => kernel_rfl
  case w6s => rfl
  case y6s => (intro u hu; (go_simp) <;> with_reducible rfl)
  try simp only [Act.put, List.setIfInBounds_toArray, List.set_cons_zero, List.set_cons_succ]
  refine wpAnyH_take (i := 7) (oi := ?o7s) (v := ?v7s) ?h7s (by kernel_rfl) ?f7s ?r7s (fun _ _ _ h => h) (Or.inl ⟨?w7s, ?y7s⟩) (by assumption) ?t7s
  case h7s => simp only [List.getElem?_toArray]; rfl
  case f7s => kernel_rfl
  case r7s => kernel_rfl
  case w7s => rfl
  case y7s => (intro u hu; (have hx := xx u hu; go_simp) <;> with_reducible rfl)
  try simp only [Act.put, List.setIfInBounds_toArray, List.set_cons_zero, List.set_cons_succ]
  refine wpAnyH_take (i := 8) (oi := ?o8s) (v := ?v8s) ?h8s (by kernel_rfl) ?f8s ?r8s (fun _ _ _ h => h) (Or.inl ⟨?w8s, ?y8s⟩) (by assumption) ?t8s
  case h8s => simp only [List.getElem?_toArray]; rfl
  case f8s => kernel_rfl
  case r8s => kernel_rfl
  case w8s => rfl
  case y8s => (intro u hu; (go_simp) <;> with_reducible rfl)
  try simp only [Act.put, List.setIfInBounds_toArray, List.set_cons_zero, List.set_cons_succ]
  refine wpAnyH_take (i := 10) (oi := ?o10s) (v := ?v10s) ?h10s (by kernel_rfl) ?f10s ?r10s (fun _ _ _ h => h) (Or.inl ⟨?w10s, ?y10s⟩) (by assumption) ?t10s
  case h10s => simp only [List.getElem?_toArray]; rfl
  case f10s => kernel_rfl
  case r10s => kernel_rfl
  case w10s => rfl
  case y10s => (intro u hu; (go_simp) <;> with_reducible rfl)
  try simp only [Act.put, List.setIfInBounds_toArray, List.set_cons_zero, List.set_cons_succ]
  refine wpAnyH_take (i := 11) (oi := ?o11s) (v := ?v11s) ?h11s (by kernel_rfl) ?f11s ?r11s (fun _ _ _ h => h) (Or.inl ⟨?w11s, ?y11s⟩) (by assumption) ?t11s
  case h11s => simp only [List.getElem?_toArray]; rfl
  case f11s => kernel_rfl
  case r11s => kernel_rfl
  case w11s => rfl
  case y11s => (intro u hu; (go_simp) <;> with_reducible rfl)
  try simp only [Act.put, List.setIfInBounds_toArray, List.set_cons_zero, List.set_cons_succ]
  refine wpAnyH_ready (rs := [9]) (by kernel_rfl) (by simp) ?_
  refine AllReadyH.cons (o := ?o9s) ?h9s (fun K hK => ?_) AllReadyH.nil
  case h9s => simp only [List.getElem?_toArray]; rfl
  go_simp
  refine (rnonce_c n HN0.out.1 HN0.out.2 _).mono ?_
  rintro e V1 ⟨N, rfl, HN, HNn, hb⟩
  refine hK.out _ _ (hH.trans hb) (fun hH' => ?_)
  clear hK K hH
  have hH := hH'
  clear hH'
  try simp only [List.setIfInBounds_toArray, List.set]
  clear hb
  refine wpAnyH_ready (rs := [12]) (by kernel_rfl) (by simp) ?_
  refine AllReadyH.cons (o := ?o12s) ?h12s (fun K hK => ?_) AllReadyH.nil
  case h12s => simp only [List.getElem?_toArray]; rfl
  go_simp
  refine (rseal_c k N aa la ca ad at' lt ct text HS.out.bk HNn.out _ (HRA.out.below hH) (HRT.out.below hH) (HG.out.later hH) hm).mono ?_
  rintro e V2 ⟨a', m, c', X, rfl, Hm, HX, OX, hb⟩
  have hbx : Byt X := by rw [HX.out]; exact se6_byt _ _ _ HBT.out
  have RX := rd_own hbx OX.out
  refine hK.out _ _ (hH.trans hb) (fun hH' => ?_)
  clear hK K hH
  have hH := hH'
  clear hH'
  try simp only [List.setIfInBounds_toArray, List.set]
  refine wpAnyH_take (i := 13) (oi := ?o13s) (v := ?v13s) ?h13s (by kernel_rfl) ?f13s ?r13s (fun _ _ _ h => h) (Or.inl ⟨?w13s, ?y13s⟩) (by assumption) ?t13s
  case h13s => simp only [List.getElem?_toArray]; rfl
  case f13s => kernel_rfl
  case r13s => kernel_rfl
  case w13s => rfl
  case y13s => (intro u hu; (go_simp) <;> with_reducible rfl)
  try simp only [Act.put, List.setIfInBounds_toArray, List.set_cons_zero, List.set_cons_succ]
  refine wpAnyH_take (i := 14) (oi := ?o14s) (v := ?v14s) ?h14s (by kernel_rfl) ?f14s ?r14s (fun _ _ _ h => h) (Or.inl ⟨?w14s, ?y14s⟩) (by assumption) ?t14s
  case h14s => simp only [List.getElem?_toArray]; rfl
  case f14s => kernel_rfl
  case r14s => kernel_rfl
  case w14s => rfl
  case y14s => (intro u hu; (go_simp) <;> with_reducible rfl)
  try simp only [Act.put, List.setIfInBounds_toArray, List.set_cons_zero, List.set_cons_succ]
  refine wpAnyH_done (by kernel_rfl) ?_ _
  refine NoPanic.normal ?_
  replace HS : Hid (Cx V2 b k true n') := HS.out.later hH
  replace HE : Hid (ExtB b w V2) := HE.out.trans hH
  replace HKP : Hid (Kp w V2) := fun a l c x hr => (HKP.out a l c x hr).below hH
  go_wp2
  go_ret2
  exact ⟨a', m, c', X, n', rfl, Hm, by rw [HN.out] at HX; exact HX, HN1, RX, HS, HE.out, HKP.out⟩
set_option maxRecDepth 8000 in
set_option maxHeartbeats 2000000 in
theorem ropen9_none (b : Nat) (k : List Int) (n : Int) (aa : Option Addr) (la ca : Nat) (_ad : List Int) (ab : Option Addr) (lb cb : Nat) (_box : List Int) (w : World) (hs : Cx w b k false n) :
    Calls Tryd.prog 9 #[.pointer (some ⟨b, 0, none⟩), .slice aa la ca, .slice ab lb cb] w fun e w' => e = .returned (.tuple #[.slice ab lb cb, .int .i64 0]) ∧ w' = w := by
  obtain ⟨ch, -⟩ := hs.has
  clear hs
  go_enter Tryd.func9, Tryd.ntmps9
  go_wp2
  go_ret2
  exact ⟨rfl, rfl⟩
set_option maxRecDepth 8000 in
set_option maxHeartbeats 2000000 in
theorem ropen9_last (b : Nat) (k : List Int) (n : Int) (aa : Option Addr) (la ca : Nat) (_ad : List Int) (ab : Option Addr) (lb cb : Nat) (_box : List Int) (w : World) (hs : Cx w b k true n) (hn : n = 18446744073709551615) :
    Calls Tryd.prog 9 #[.pointer (some ⟨b, 0, none⟩), .slice aa la ca, .slice ab lb cb] w fun e w' => e = .returned (.tuple #[.slice none 0 0, .int .i64 9]) ∧ w' = w := by
  subst hn
  obtain ⟨ch, -⟩ := hs.has
  obtain ⟨cn, -⟩ := hs.nonce
  clear hs
  go_enter Tryd.func9, Tryd.ntmps9
  go_wp2
  go_ret2
  exact ⟨rfl, rfl⟩
set_option maxRecDepth 8000 in
set_option maxHeartbeats 4000000 in
theorem ropen9_yes (b : Nat) (k : List Int) (n : Int) (aa : Option Addr) (la ca : Nat) (ad : List Int) (ab : Option Addr) (lb cb : Nat) (box : List Int) (w : World) (hs : Cx w b k true n) (hn : n ≠ 18446744073709551615) (hra : Rd w aa la ca ad) (hrb : Rd w ab lb cb box) (hg : Gr w) (hm : la + lb + 46 ≤ 2097152) :
    Calls Tryd.prog 9 #[.pointer (some ⟨b, 0, none⟩), .slice aa la ca, .slice ab lb cb] w fun e w' => ∃ a' m c X E n', e = .returned (.tuple #[.slice a' m c, .int .i64 E]) ∧ Hid (E = er6 k (nn6 n) ad box) ∧ Hid (X = op6 k (nn6 n) ad box) ∧ Hid (n' = if E = 0 then n + 1 else n) ∧ Hid (Rd w' a' m c X) ∧ Hid (Cx w' b k true n') ∧ ExtB b w w' ∧ Kp w w' := by
  have HS : Hid (Cx w b k true n) := hs
  have HRA : Hid (Rd w aa la ca ad) := hra
  have HRB : Hid (Rd w ab lb cb box) := hrb
  have HG : Hid (Gr w) := hg
  have hn1 : n + 1 < 18446744073709551616 := by have := hs.wn; omega
  have hw1 : IntKind.u64.wrap (n + 1) = n + 1 := by rw [IntKind.wrap_u64]; have := hs.wn; omega
  obtain ⟨n', hn'⟩ : ∃ x, x = n + 1 := ⟨_, rfl⟩
  have HN1 : Hid (n' = n + 1) := hn'
  rw [← hn'] at hn1
  have hlo : 0 ≤ n' := by have := hs.wn; omega
  rw [← hn', show IntKind.u64.wrap n' = IntKind.u64.wrap (n + 1) by rw [hn']] at hw1
  obtain ⟨ch, -⟩ := hs.has
  obtain ⟨cn, -⟩ := hs.nonce
  obtain ⟨_, _, hiK⟩ := bn32_cells hs.bk
  clear hs hra hrb hg hn'
  go_enter Tryd.func9, Tryd.ntmps9
  go_upto_region 5 with fail
  have xx : ∀ u, Ext w u → u.cell? ⟨b, 33, none⟩ = some (.int .u64 n) := fun u hu => hu.cell cn
  refine wp_region_noPanic ?_
  refine wp_region_held_drew (S := Ext w) (by kernel_rfl) (Ext.refl _).drew (fun hH => ?_)
  change wpAnyH _ _ _ _ _ _ #[false, false, false, false, false, false, false, false, false, false, false, false, false, false, false, false, false] _ _
  refine wpAnyH_take (i := 0) (oi := ?o0t) (v := ?v0t) ?h0t (by kernel_rfl) ?f0t ?r0t (fun _ _ _ h => h) (Or.inl ⟨?w0t, ?y0t⟩) (by assumption) ?t0t
  case h0t => simp only [List.getElem?_toArray]; rfl
  case f0t => kernel_rfl
  case r0t => kernel_rfl
  case w0t => rfl
  case y0t => (intro u hu; (go_simp) <;> with_reducible rfl)
  try simp only [Act.put, List.setIfInBounds_toArray, List.set_cons_zero, List.set_cons_succ]
  refine wpAnyH_take (i := 1) (oi := ?o1t) (v := ?v1t) ?h1t (by kernel_rfl) ?f1t ?r1t (fun _ _ _ h => h) (Or.inl ⟨?w1t, ?y1t⟩) (by assumption) ?t1t
  case h1t => simp only [List.getElem?_toArray]; rfl
  case f1t => kernel_rfl
  case r1t => kernel_rfl
  case w1t => rfl
  case y1t => (intro u hu; (go_simp) <;> with_reducible rfl)
  try simp only [Act.put, List.setIfInBounds_toArray, List.set_cons_zero, List.set_cons_succ]
  refine wpAnyH_take (i := 2) (oi := ?o2t) (v := ?v2t) ?h2t (by kernel_rfl) ?f2t ?r2t (fun _ _ _ h => h) (Or.inl ⟨?w2t, ?y2t⟩) (by assumption) ?t2t
  case h2t => simp only [List.getElem?_toArray]; rfl
  case f2t => kernel_rfl
  case r2t => kernel_rfl
  case w2t => rfl
  case y2t => (intro u hu; (go_simp) <;> with_reducible rfl)
  try simp only [Act.put, List.setIfInBounds_toArray, List.set_cons_zero, List.set_cons_succ]
  refine wpAnyH_take (i := 3) (oi := ?o3t) (v := .agg (List.map (Value.int .u8) k).toArray) ?h3t (by kernel_rfl) ?f3t ?r3t (fun _ _ _ h => h) ?y3t (by assumption) ?t3t
  case h3t => simp only [List.getElem?_toArray]; rfl
  case f3t => kernel_rfl
  case r3t => kernel_rfl
  case y3t => exact yieldsIf_load_mid (by rfl) 27 (.tmp 24) rfl b 1 rfl (List.map (Value.int .u8) k) _ (fun u hu => range_later hu HS.out.key) Tryd.underlying27 rfl hiK
  try simp only [Act.put, List.setIfInBounds_toArray, List.set_cons_zero, List.set_cons_succ]
  refine wpAnyH_take (i := 4) (oi := ?o4t) (v := ?v4t) ?h4t (by kernel_rfl) ?f4t ?r4t (fun _ _ _ h => h) (Or.inl ⟨?w4t, ?y4t⟩) (by assumption) ?t4t
  case h4t => simp only [List.getElem?_toArray]; rfl
  case f4t => kernel_rfl
  case r4t => kernel_rfl
  case w4t => rfl
  case y4t => (intro u hu; (go_simp) <;> with_reducible rfl)
  try simp only [Act.put, List.setIfInBounds_toArray, List.set_cons_zero, List.set_cons_succ]
  refine wpAnyH_take (i := 5) (oi := ?o5t) (v := ?v5t) ?h5t (by kernel_rfl) ?f5t ?r5t (fun _ _ _ h => h) (Or.inl ⟨?w5t, ?y5t⟩) (by assumption) ?t5t
  case h5t => simp only [List.getElem?_toArray]; rfl
  case f5t => kernel_rfl
  case r5t => kernel_rfl
  case w5t => rfl
  case y5t => (intro u hu; (go_simp) <;> with_reducible rfl)
  try simp only [Act.put, List.setIfInBounds_toArray, List.set_cons_zero, List.set_cons_succ]
  refine wpAnyH_take (i := 6) (oi := ?o6t) (v := ?v6t) ?h6t (by kernel_rfl) ?f6t ?r6t (fun _ _ _ h => h) (Or.inl ⟨?w6t, ?y6t⟩) (by assumption) ?t6t
  case h6t => simp only [List.getElem?_toArray]; rfl
  case f6t => kernel_rfl
  case r6t => kernel_rfl
  case w6t => rfl
  case y6t => (intro u hu; (go_simp) <;> with_reducible rfl)
  try simp only [Act.put, List.setIfInBounds_toArray, List.set_cons_zero, List.set_cons_succ]
  refine wpAnyH_take (i := 7) (oi := ?o7t) (v := ?v7t) ?h7t (by kernel_rfl) ?f7t ?r7t (fun _ _ _ h => h) (Or.inl ⟨?w7t, ?y7t⟩) (by assumption) ?t7t
  case h7t => simp only [List.getElem?_toArray]; rfl
  case f7t => kernel_rfl
  case r7t => kernel_rfl
  case w7t => rfl
  case y7t => (intro u hu; (have hx := xx u hu; go_simp) <;> with_reducible rfl)
  try simp only [Act.put, List.setIfInBounds_toArray, List.set_cons_zero, List.set_cons_succ]
  refine wpAnyH_take (i := 9) (oi := ?o9t) (v := ?v9t) ?h9t (by kernel_rfl) ?f9t ?r9t (fun _ _ _ h => h) (Or.inl ⟨?w9t, ?y9t⟩) (by assumption) ?t9t
  case h9t => simp only [List.getElem?_toArray]; rfl
  case f9t => kernel_rfl
  case r9t => kernel_rfl
  case w9t => rfl
  case y9t => (intro u hu; (go_simp) <;> with_reducible rfl)
  try simp only [Act.put, List.setIfInBounds_toArray, List.set_cons_zero, List.set_cons_succ]
  refine wpAnyH_take (i := 10) (oi := ?o10t) (v := ?v10t) ?h10t (by kernel_rfl) ?f10t ?r10t (fun _ _ _ h => h) (Or.inl ⟨?w10t, ?y10t⟩) (by assumption) ?t10t
  case h10t => simp only [List.getElem?_toArray]; rfl
  case f10t => kernel_rfl
  case r10t => kernel_rfl
  case w10t => rfl
  case y10t => (intro u hu; (go_simp) <;> with_reducible rfl)
  try simp only [Act.put, List.setIfInBounds_toArray, List.set_cons_zero, List.set_cons_succ]
  refine wpAnyH_ready (rs := [8]) (by kernel_rfl) (by simp) ?_
  refine AllReadyH.cons (o := ?o8t) ?h8t (fun K hK => ?_) AllReadyH.nil
  case h8t => simp only [List.getElem?_toArray]; rfl
  go_simp
  refine (rnonce_c n HS.out.wn.1 HS.out.wn.2 _).mono ?_
  rintro e V1 ⟨N, rfl, HN, HNn, hb⟩
  refine hK.out _ _ (hH.trans hb) (fun hH' => ?_)
  clear hK K hH
  have hH := hH'
  clear hH'
  try simp only [List.setIfInBounds_toArray, List.set]
  clear hb
  refine wpAnyH_ready (rs := [11]) (by kernel_rfl) (by simp) ?_
  refine AllReadyH.cons (o := ?o11t) ?h11t (fun K hK => ?_) AllReadyH.nil
  case h11t => simp only [List.getElem?_toArray]; rfl
  go_simp
  refine (ropen_c k N aa la ca ad ab lb cb box HS.out.bk HNn.out _ (HRA.out.below hH) (HRB.out.below hH) (HG.out.later hH) hm).mono ?_
  rintro e V2 ⟨a', m, c, X, E, rfl, hE3, HE6, HX, RX, hb⟩
  refine hK.out _ _ (hH.trans hb) (fun hH' => ?_)
  clear hK K hH
  have hH := hH'
  clear hH'
  try simp only [List.setIfInBounds_toArray, List.set]
  refine wpAnyH_take (i := 12) (oi := ?o12t) (v := ?v12t) ?h12t (by kernel_rfl) ?f12t ?r12t (fun _ _ _ h => h) (Or.inl ⟨?w12t, ?y12t⟩) (by assumption) ?t12t
  case h12t => simp only [List.getElem?_toArray]; rfl
  case f12t => kernel_rfl
  case r12t => kernel_rfl
  case w12t => rfl
  case y12t => (intro u hu; (go_simp) <;> with_reducible rfl)
  try simp only [Act.put, List.setIfInBounds_toArray, List.set_cons_zero, List.set_cons_succ]
  refine wpAnyH_take (i := 13) (oi := ?o13t) (v := ?v13t) ?h13t (by kernel_rfl) ?f13t ?r13t (fun _ _ _ h => h) (Or.inl ⟨?w13t, ?y13t⟩) (by assumption) ?t13t
  case h13t => simp only [List.getElem?_toArray]; rfl
  case f13t => kernel_rfl
  case r13t => kernel_rfl
  case w13t => rfl
  case y13t => (intro u hu; (go_simp) <;> with_reducible rfl)
  try simp only [Act.put, List.setIfInBounds_toArray, List.set_cons_zero, List.set_cons_succ]
  refine wpAnyH_take (i := 14) (oi := ?o14t) (v := ?v14t) ?h14t (by kernel_rfl) ?f14t ?r14t (fun _ _ _ h => h) (Or.inl ⟨?w14t, ?y14t⟩) (by assumption) ?t14t
  case h14t => simp only [List.getElem?_toArray]; rfl
  case f14t => kernel_rfl
  case r14t => kernel_rfl
  case w14t => rfl
  case y14t => (intro u hu; (go_simp) <;> with_reducible rfl)
  try simp only [Act.put, List.setIfInBounds_toArray, List.set_cons_zero, List.set_cons_succ]
  refine wpAnyH_take (i := 15) (oi := ?o15t) (v := ?v15t) ?h15t (by kernel_rfl) ?f15t ?r15t (fun _ _ _ h => h) (Or.inl ⟨?w15t, ?y15t⟩) (by assumption) ?t15t
  case h15t => simp only [List.getElem?_toArray]; rfl
  case f15t => kernel_rfl
  case r15t => kernel_rfl
  case w15t => rfl
  case y15t => (intro u hu; (go_simp) <;> with_reducible rfl)
  try simp only [Act.put, List.setIfInBounds_toArray, List.set_cons_zero, List.set_cons_succ]
  refine wpAnyH_take (i := 16) (oi := ?o16t) (v := ?v16t) ?h16t (by kernel_rfl) ?f16t ?r16t (fun _ _ _ h => h) (Or.inl ⟨?w16t, ?y16t⟩) (by assumption) ?t16t
  case h16t => simp only [List.getElem?_toArray]; rfl
  case f16t => kernel_rfl
  case r16t => kernel_rfl
  case w16t => rfl
  case y16t => (intro u hu; (go_simp) <;> with_reducible rfl)
  try simp only [Act.put, List.setIfInBounds_toArray, List.set_cons_zero, List.set_cons_succ]
  refine wpAnyH_done (by kernel_rfl) ?_ _
  refine NoPanic.normal ?_
  replace HS : Hid (Cx V2 b k true n) := HS.out.later hH
  replace HRX : Hid (Rd V2 a' m c X) := RX
  have HE : Hid (ExtB b w V2) := ⟨hH.os, hH.tape, hH.output, hH.size, fun i hi _ => hH.block i hi⟩
  rw [HN.out] at HE6 HX
  have HKP : Hid (Kp w V2) := Kp.below hH
  clear HRA HRB xx cn ch hb RX HG
  obtain ⟨cn, fn⟩ := HS.out.nonce
  have HE3 : Hid (E = 0 ∨ E = 1 ∨ E = 2) := hE3
  clear hE3
  by_cases h0 : E = 0
  · subst h0
    have HS2 : Hid (Cx (V2.setCell ⟨b, 33, none⟩ (.int .u64 n')) b k true n') := HS.out.setN ⟨hlo, hn1⟩
    have HE2 : Hid (ExtB b w (V2.setCell ⟨b, 33, none⟩ (.int .u64 n'))) := HE.out.set 33 _
    have HR2 : Hid (Rd (V2.setCell ⟨b, 33, none⟩ (.int .u64 n')) a' m c X) := HRX.out.not_here cn (fun m h => by cases h) _
    have HK2 : Hid (Kp w (V2.setCell ⟨b, 33, none⟩ (.int .u64 n'))) := fun a l c x hr => (HKP.out a l c x hr).not_here cn (fun m h => by cases h) _
    clear HS HRX HE hn1 hlo HKP
    go_wp2_with fail
    refine (errno9_c 0 _ (.inl rfl)).mono ?_
    rintro e V3 ⟨z, rfl, Hz, hw⟩
    rw [hw]
    clear hw V3
    have hz : z = 0 := Hz.out
    subst hz
    go_wp2
    go_ret2
    exact ⟨a', m, c, X, 0, n', rfl, HE6.out.symm, HX, by unfold Hid; rw [if_pos rfl]; exact HN1.out, HR2, HS2, HE2.out, HK2.out⟩
  · clear hn1 hlo hw1 cn fn
    have hE12 : E = 0 ∨ E = 1 ∨ E = 2 := HE3.out
    go_wp2_with fail
    refine (errno9_c E _ hE12).mono ?_
    rintro e V3 ⟨z, rfl, Hz, hw⟩
    rw [hw]
    clear hw V3
    have hz : z = er6 k (nn6 n) ad box := by rw [Hz.out, HE6.out]
    have HZ : Hid (z = er6 k (nn6 n) ad box) := hz
    have hz0 : z ≠ 0 := by
      rw [Hz.out]
      rcases hE12 with h | h | h
      · exact absurd h h0
      · rw [h]; decide
      · rw [h]; decide
    clear hz Hz HE6 hE12 HE3
    go_wp2
    go_ret2
    exact ⟨a', m, c, X, z, n, rfl, HZ, HX, by unfold Hid; rw [if_neg hz0], HRX, HS, HE.out, HKP.out⟩
end Go.Proofs.YtjmdgmbkkkoamaaDoor
