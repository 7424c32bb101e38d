/-
  What the reference's Open does. No statement of the seat is proved here.
-/
import Derived.Test.YtjmdgmbkkkoamaaDoorR6S
namespace Go.Proofs.YtjmdgmbkkkoamaaDoor
open Go.RowKit

set_option maxRecDepth 8000 in
set_option maxHeartbeats 4000000 in
theorem ropen_short (key nonce : List Int) (aa : Option Addr) (la ca : Nat) (ad : List Int) (ab : Option Addr) (lb cb : Nat) (box : List Int) (w : World) (hrb : Rd w ab lb cb box) (hlt : lb < 16) :
    Calls Tryd.prog 26 #[(.agg (List.map (Value.int .u8) key).toArray), (.agg (List.map (Value.int .u8) nonce).toArray), .slice aa la ca, .slice ab lb cb] w fun e w' => ∃ a' m c X E, e = .returned (.tuple #[.slice a' m c, .int .i64 E]) ∧ (E = 0 ∨ E = 1 ∨ E = 2) ∧ Hid (er6 key nonce ad box = if E = 1 then 7 else if E = 2 then 8 else 0) ∧ Hid (X = op6 key nonce ad box) ∧ Hid (Rd w' a' m c X) ∧ Below w.heap.size w w' := by
  have HE : Hid (er6 key nonce ad box = 7) := by unfold Hid er6; rw [if_pos (by rw [hrb.hlen]; exact hlt)]
  have hlt' : (lb : Int) < 16 := by omega
  clear hrb
  go_enter Tryd.func26, Tryd.ntmps26
  go_wp2
  go_ret2
  refine ⟨none, 0, 0, [], 1, rfl, .inr (.inl rfl), HE.out, ?_, Rd.nil _ _ _ (fun _ => rfl), bel2 _ _ _⟩
  unfold Hid
  rw [op6_not _ _ _ _ (by rw [HE.out]; decide)]

set_option maxRecDepth 8000 in
set_option maxHeartbeats 8000000 in
theorem ropen_long (key nonce : List Int) (aa : Option Addr) (la ca : Nat) (ad : List Int) (b off lb cb : Nat) (box : List Int) (hk : Bn 32 key) (hn : Bn 12 nonce) (w : World) (hra : Rd w aa la ca ad) (hrb : Rd w (some ⟨b, off, none⟩) lb cb box) (hg : Gr w) (hm : la + lb + 46 ≤ 2097152) (hge : ¬ lb < 16) :
    Calls Tryd.prog 26 #[(.agg (List.map (Value.int .u8) key).toArray), (.agg (List.map (Value.int .u8) nonce).toArray), .slice aa la ca, .slice (some ⟨b, off, none⟩) lb cb] w fun e w' => ∃ a' m c X E, e = .returned (.tuple #[.slice a' m c, .int .i64 E]) ∧ (E = 0 ∨ E = 1 ∨ E = 2) ∧ Hid (er6 key nonce ad box = if E = 1 then 7 else if E = 2 then 8 else 0) ∧ Hid (X = op6 key nonce ad box) ∧ Hid (Rd w' a' m c X) ∧ Below w.heap.size w w' := by
  have HRA : Hid (Rd w aa la ca ad) := hra
  have HRB : Hid (Rd w (some ⟨b, off, none⟩) lb cb box) := hrb
  have HG : Hid (Gr w) := hg
  have HBB : Hid (Byt box) := hrb.byt
  have hle := hrb.hle
  have HLB : Hid (box.length = lb) := hrb.hlen
  clear hra hrb hg
  obtain ⟨n, hnn⟩ : ∃ n, n = lb - 16 := ⟨_, rfl⟩
  have hnl : n ≤ lb := by omega
  have hn1 : (lb : Int) - 16 = (n : Int) := by omega
  have hn2 : (n : Int) ≤ cb := by omega
  have hn4 : (n : Int) ≤ lb := by omega
  have hn3 : (n : Int).toNat = n := by omega
  have hn5 : ¬ cb = n := by omega
  have hn6 : lb - n = 16 := by omega
  have hge' : ¬ (lb : Int) < 16 := by omega
  have hnw : IntKind.i64.wrap (n : Int) = (n : Int) := by rw [IntKind.wrap_i64]; omega
  have HER : Hid (er6 key nonce ad box = if tt6 key nonce ad (box.take n) = box.drop n then 0 else 8) := by unfold Hid er6; rw [HLB.out, if_neg hge, ← hnn]
  have HOP : Hid (er6 key nonce ad box = 0 → op6 key nonce ad box = ap key 1 nonce (box.take n)) := fun h => by unfold op6; rw [if_pos h, HLB.out, ← hnn]
  clear hnn
  have HK : Hid (Bn 32 key) := hk
  have HN : Hid (Bn 12 nonce) := hn
  clear hk hn
  obtain ⟨_, _, hiK⟩ := bn32_cells HK.out
  obtain ⟨_, _, hiN⟩ := bn12_cells HN.out
  go_enter Tryd.func26, Tryd.ntmps26
  go_upto_region 1 with fail
  have AK : Hid (Ar ((w.alloc (.cells (List.map (Value.int .u8) key).toArray 27)).alloc (.cells (List.map (Value.int .u8) nonce).toArray 48)) w.heap.size 32 (List.map (Value.int .u8) key)) := (ar_box w _ 32 HK.out.map_len _).later (bel1 _ _)
  have AN : Hid (Ar ((w.alloc (.cells (List.map (Value.int .u8) key).toArray 27)).alloc (.cells (List.map (Value.int .u8) nonce).toArray 48)) (w.heap.size + 1) 12 (List.map (Value.int .u8) nonce)) := by have := (ar_box (w.alloc (.cells (List.map (Value.int .u8) key).toArray 27)) _ 12 HN.out.map_len 48); simpa [Hid] using this
  have HB : Hid (Below w.heap.size w ((w.alloc (.cells (List.map (Value.int .u8) key).toArray 27)).alloc (.cells (List.map (Value.int .u8) nonce).toArray 48))) := bel2 _ _ _
  generalize ((w.alloc (.cells (List.map (Value.int .u8) key).toArray 27)).alloc (.cells (List.map (Value.int .u8) nonce).toArray 48)) = W0 at *
  have k1 : w.heap.size < w.heap.size + 1 := by omega
  generalize hq1 : w.heap.size + 1 = q1 at *
  replace HRA : Hid (Rd W0 aa la ca ad) := HRA.out.below HB.out
  replace HRB : Hid (Rd W0 (some ⟨b, off, none⟩) lb cb box) := HRB.out.below HB.out
  replace HG : Hid (Gr W0) := HG.out.later HB.out
  go_upto_region 4 with fail
  obtain ⟨W1, hW1⟩ : ∃ W, W = W0 := ⟨_, rfl⟩
  rw [← hW1] at AK AN HRA HRB HG HB ⊢
  clear hW1
  have sD : ∀ u, Ext W1 u → (convert 31 9 (.slice (some ⟨b, off + n, none⟩) 16 (cb - n))).run Tryd.prog u = .ok (.string (strOfNums (box.drop n))) u := fun u hu => str_of ((HRB.out.from n hnl 16 (cb - n) hn6.symm (by omega)).below hu)
  by_cases hq : tt6 key nonce ad (box.take n) = box.drop n
  · have HEQ : Hid (er6 key nonce ad box = 0) := by unfold Hid; rw [HER.out, if_pos hq]
    refine wp_region_noPanic ?_
    refine wp_region_held_drew (S := Ext W1) (by kernel_rfl) (Ext.refl _).drew (fun hH => ?_)
    change wpAnyH _ _ _ _ _ _ #[false, false, false, false, false, false, false, false, false, false, false, false, false] _ _
    refine wpAnyH_take (i := 0) (oi := ?o0b) (v := .agg (List.map (Value.int .u8) key).toArray) ?h0b (by kernel_rfl) ?f0b ?r0b (fun _ _ _ h => h) ?y0b (by assumption) ?t0b
    case h0b => simp only [List.getElem?_toArray]; rfl
    case f0b => kernel_rfl
    case r0b => kernel_rfl
    case y0b => exact yieldsIf_load_mid (by rfl) 27 (.tmp 4) rfl w.heap.size 0 rfl (List.map (Value.int .u8) key) _ (fun u hu => range_later hu AK.out.rng) Tryd.underlying27 rfl hiK
    try simp only [Act.put, List.setIfInBounds_toArray, List.set_cons_zero, List.set_cons_succ]
    refine wpAnyH_take (i := 1) (oi := ?o1b) (v := .agg (List.map (Value.int .u8) nonce).toArray) ?h1b (by kernel_rfl) ?f1b ?r1b (fun _ _ _ h => h) ?y1b (by assumption) ?t1b
    case h1b => simp only [List.getElem?_toArray]; rfl
    case f1b => kernel_rfl
    case r1b => kernel_rfl
    case y1b => exact yieldsIf_load_mid (by rfl) 48 (.tmp 5) rfl q1 0 rfl (List.map (Value.int .u8) nonce) _ (fun u hu => range_later hu AN.out.rng) Tryd.underlying48 rfl hiN
    try simp only [Act.put, List.setIfInBounds_toArray, List.set_cons_zero, List.set_cons_succ]
    refine wpAnyH_take (i := 2) (oi := ?o2b) (v := ?v2b) ?h2b (by kernel_rfl) ?f2b ?r2b (fun _ _ _ h => h) (Or.inl ⟨?w2b, ?y2b⟩) (by assumption) ?t2b
    case h2b => simp only [List.getElem?_toArray]; rfl
    case f2b => kernel_rfl
    case r2b => kernel_rfl
    case w2b => rfl
    case y2b => (intro u hu; (go_simp) <;> with_reducible rfl)
    try simp only [Act.put, List.setIfInBounds_toArray, List.set_cons_zero, List.set_cons_succ]
    refine wpAnyH_take (i := 3) (oi := ?o3b) (v := ?v3b) ?h3b (by kernel_rfl) ?f3b ?r3b (fun _ _ _ h => h) (Or.inl ⟨?w3b, ?y3b⟩) (by assumption) ?t3b
    case h3b => simp only [List.getElem?_toArray]; rfl
    case f3b => kernel_rfl
    case r3b => kernel_rfl
    case w3b => rfl
    case y3b => (intro u hu; (go_simp) <;> with_reducible rfl)
    try simp only [Act.put, List.setIfInBounds_toArray, List.set_cons_zero, List.set_cons_succ]
    refine wpAnyH_take (i := 6) (oi := ?o6b) (v := ?v6b) ?h6b (by kernel_rfl) ?f6b ?r6b (fun _ _ _ h => h) (Or.inl ⟨?w6b, ?y6b⟩) (by assumption) ?t6b
    case h6b => simp only [List.getElem?_toArray]; rfl
    case f6b => kernel_rfl
    case r6b => kernel_rfl
    case w6b => rfl
    case y6b => (intro u hu; (go_simp) <;> with_reducible rfl)
    try simp only [Act.put, List.setIfInBounds_toArray, List.set_cons_zero, List.set_cons_succ]
    refine wpAnyH_take (i := 7) (oi := ?o7b) (v := ?v7b) ?h7b (by kernel_rfl) ?f7b ?r7b (fun _ _ _ h => h) (Or.inl ⟨?w7b, ?y7b⟩) (by assumption) ?t7b
    case h7b => simp only [List.getElem?_toArray]; rfl
    case f7b => kernel_rfl
    case r7b => kernel_rfl
    case w7b => rfl
    case y7b => (intro u hu; (go_simp) <;> with_reducible rfl)
    try simp only [Act.put, List.setIfInBounds_toArray, List.set_cons_zero, List.set_cons_succ]
    refine wpAnyH_take (i := 8) (oi := ?o8b) (v := ?v8b) ?h8b (by kernel_rfl) ?f8b ?r8b (fun _ _ _ h => h) (Or.inl ⟨?w8b, ?y8b⟩) (by assumption) ?t8b
    case h8b => simp only [List.getElem?_toArray]; rfl
    case f8b => kernel_rfl
    case r8b => kernel_rfl
    case w8b => rfl
    case y8b => (intro u hu; (go_simp) <;> with_reducible rfl)
    try simp only [Act.put, List.setIfInBounds_toArray, List.set_cons_zero, List.set_cons_succ]
    refine wpAnyH_take (i := 9) (oi := ?o9b) (v := ?v9b) ?h9b (by kernel_rfl) ?f9b ?r9b (fun _ _ _ h => h) (Or.inl ⟨?w9b, ?y9b⟩) (by assumption) ?t9b
    case h9b => simp only [List.getElem?_toArray]; rfl
    case f9b => kernel_rfl
    case r9b => kernel_rfl
    case w9b => rfl
    case y9b => (intro u hu; (go_simp) <;> with_reducible rfl)
    try simp only [Act.put, List.setIfInBounds_toArray, List.set_cons_zero, List.set_cons_succ]
    refine wpAnyH_take (i := 10) (oi := ?o10b) (v := ?v10b) ?h10b (by kernel_rfl) ?f10b ?r10b (fun _ _ _ h => h) (Or.inl ⟨?w10b, ?y10b⟩) (by assumption) ?t10b
    case h10b => simp only [List.getElem?_toArray]; rfl
    case f10b => kernel_rfl
    case r10b => kernel_rfl
    case w10b => rfl
    case y10b => (intro u hu; (go_simp) <;> with_reducible rfl)
    try simp only [Act.put, List.setIfInBounds_toArray, List.set_cons_zero, List.set_cons_succ]
    refine wpAnyH_take (i := 11) (oi := ?o11b) (v := ?v11b) ?h11b (by kernel_rfl) ?f11b ?r11b (fun _ _ _ h => h) (Or.inl ⟨?w11b, ?y11b⟩) (by assumption) ?t11b
    case h11b => simp only [List.getElem?_toArray]; rfl
    case f11b => kernel_rfl
    case r11b => kernel_rfl
    case w11b => rfl
    case y11b => (intro u hu; (go_simp) <;> with_reducible rfl)
    try simp only [Act.put, List.setIfInBounds_toArray, List.set_cons_zero, List.set_cons_succ]
    clear sD
    refine wpAnyH_ready (rs := [4]) (by kernel_rfl) (by simp) ?_
    refine AllReadyH.cons (o := ?o4b) ?h4b (fun K hK => ?_) AllReadyH.nil
    case h4b => simp only [List.getElem?_toArray]; rfl
    go_simp
    refine (rtagof_c key nonce aa la ca ad (some ⟨b, off, none⟩) n cb (box.take n) HK.out HN.out _ (HRA.out.below hH) ((HRB.out.cut n hnl).below hH) (HG.out.later hH) (by omega)).mono ?_
    rintro e V5 ⟨g5, TG, rfl, HTG, RT, -, hb⟩
    refine hK.out _ _ (hH.trans hb) (fun hH' => ?_)
    clear hK K hH
    have hH := hH'
    clear hH'
    try simp only [List.setIfInBounds_toArray, List.set]
    have sT := str_of RT.out
    refine wpAnyH_ready (rs := [5]) (by kernel_rfl) (by simp) ?_
    refine AllReadyH.cons (o := ?o5b) ?h5b (fun K hK => ?_) AllReadyH.nil
    case h5b => simp only [List.getElem?_toArray]; rfl
    go_simp
    refine hK.out _ _ hH (fun hH' => ?_)
    clear hK K hH
    have hH := hH'
    clear hH'
    try simp only [List.setIfInBounds_toArray, List.set]
    clear sT
    have hse : strOfNums TG = strOfNums (box.drop n) := by rw [HTG.out, hq]
    refine wpAnyH_take (i := 12) (oi := ?o12b) (v := ?v12b) ?h12b (by kernel_rfl) ?f12b ?r12b (fun _ _ _ h => h) (Or.inl ⟨?w12b, ?y12b⟩) (by assumption) ?t12b
    case h12b => simp only [List.getElem?_toArray]; rfl
    case f12b => kernel_rfl
    case r12b => kernel_rfl
    case w12b => rfl
    case y12b => (intro u hu; (go_simp) <;> with_reducible rfl)
    try simp only [Act.put, List.setIfInBounds_toArray, List.set_cons_zero, List.set_cons_succ]
    refine wpAnyH_done (by kernel_rfl) ?_ _
    refine NoPanic.normal ?_
    replace hb : Below W1.heap.size W1 V5 := (Below.refl _ _).drew.trans (hb.mono (Nat.le_refl _))
    clear hH RT HTG hse HRA HER
    replace AK : Hid (Ar V5 w.heap.size 32 (List.map (Value.int .u8) key)) := AK.out.later hb
    replace AN : Hid (Ar V5 q1 12 (List.map (Value.int .u8) nonce)) := AN.out.later hb
    replace HRB : Hid (Rd V5 (some ⟨b, off, none⟩) lb cb box) := HRB.out.below hb
    replace HG : Hid (Gr V5) := HG.out.later hb
    replace HB : Hid (Below w.heap.size w V5) := HB.out.trans (hb.mono HB.out.size)
    clear hb
    go_wp2_with (first
  | (refine wpList_load_mid rfl 27 (.tmp 4) rfl w.heap.size 0 rfl (List.map (Value.int .u8) key) _ AK.out.rng Tryd.underlying27 rfl hiK ?_)
  | (refine wpList_load_mid rfl 48 (.tmp 5) rfl q1 0 rfl (List.map (Value.int .u8) nonce) _ AN.out.rng Tryd.underlying48 rfl hiN ?_))
    refine (rapply_c key 1 nonce (some ⟨b, off, none⟩) n cb (box.take n) HK.out ⟨by decide, by decide⟩ HN.out _ (HRB.out.cut n hnl) (by omega) HG.out).mono ?_
    rintro e V7 ⟨ax, cx, X, rfl, HX, RX, hb⟩
    clear AK AN hiK hiN HRB HG
    replace HB : Hid (Below w.heap.size w V7) := HB.out.trans (hb.mono HB.out.size)
    clear hb
    go_wp2
    go_ret2
    exact ⟨ax, n, cx, X, 0, rfl, .inl rfl, HEQ, by unfold Hid; rw [HOP.out HEQ.out, HX.out], RX, HB.out⟩
  · have HNE : Hid (er6 key nonce ad box = 8) := by unfold Hid; rw [HER.out, if_neg hq]
    refine wp_region_noPanic ?_
    refine wp_region_held_drew (S := Ext W1) (by kernel_rfl) (Ext.refl _).drew (fun hH => ?_)
    change wpAnyH _ _ _ _ _ _ #[false, false, false, false, false, false, false, false, false, false, false, false, false] _ _
    refine wpAnyH_take (i := 0) (oi := ?o0a) (v := .agg (List.map (Value.int .u8) key).toArray) ?h0a (by kernel_rfl) ?f0a ?r0a (fun _ _ _ h => h) ?y0a (by assumption) ?t0a
    case h0a => simp only [List.getElem?_toArray]; rfl
    case f0a => kernel_rfl
    case r0a => kernel_rfl
    case y0a => exact yieldsIf_load_mid (by rfl) 27 (.tmp 4) rfl w.heap.size 0 rfl (List.map (Value.int .u8) key) _ (fun u hu => range_later hu AK.out.rng) Tryd.underlying27 rfl hiK
    try simp only [Act.put, List.setIfInBounds_toArray, List.set_cons_zero, List.set_cons_succ]
    refine wpAnyH_take (i := 1) (oi := ?o1a) (v := .agg (List.map (Value.int .u8) nonce).toArray) ?h1a (by kernel_rfl) ?f1a ?r1a (fun _ _ _ h => h) ?y1a (by assumption) ?t1a
    case h1a => simp only [List.getElem?_toArray]; rfl
    case f1a => kernel_rfl
    case r1a => kernel_rfl
    case y1a => exact yieldsIf_load_mid (by rfl) 48 (.tmp 5) rfl q1 0 rfl (List.map (Value.int .u8) nonce) _ (fun u hu => range_later hu AN.out.rng) Tryd.underlying48 rfl hiN
    try simp only [Act.put, List.setIfInBounds_toArray, List.set_cons_zero, List.set_cons_succ]
    refine wpAnyH_take (i := 2) (oi := ?o2a) (v := ?v2a) ?h2a (by kernel_rfl) ?f2a ?r2a (fun _ _ _ h => h) (Or.inl ⟨?w2a, ?y2a⟩) (by assumption) ?t2a
    case h2a => simp only [List.getElem?_toArray]; rfl
    case f2a => kernel_rfl
    case r2a => kernel_rfl
    case w2a => rfl
    case y2a => (intro u hu; (go_simp) <;> with_reducible rfl)
    try simp only [Act.put, List.setIfInBounds_toArray, List.set_cons_zero, List.set_cons_succ]
    refine wpAnyH_take (i := 3) (oi := ?o3a) (v := ?v3a) ?h3a (by kernel_rfl) ?f3a ?r3a (fun _ _ _ h => h) (Or.inl ⟨?w3a, ?y3a⟩) (by assumption) ?t3a
    case h3a => simp only [List.getElem?_toArray]; rfl
    case f3a => kernel_rfl
    case r3a => kernel_rfl
    case w3a => rfl
    case y3a => (intro u hu; (go_simp) <;> with_reducible rfl)
    try simp only [Act.put, List.setIfInBounds_toArray, List.set_cons_zero, List.set_cons_succ]
    refine wpAnyH_take (i := 6) (oi := ?o6a) (v := ?v6a) ?h6a (by kernel_rfl) ?f6a ?r6a (fun _ _ _ h => h) (Or.inl ⟨?w6a, ?y6a⟩) (by assumption) ?t6a
    case h6a => simp only [List.getElem?_toArray]; rfl
    case f6a => kernel_rfl
    case r6a => kernel_rfl
    case w6a => rfl
    case y6a => (intro u hu; (go_simp) <;> with_reducible rfl)
    try simp only [Act.put, List.setIfInBounds_toArray, List.set_cons_zero, List.set_cons_succ]
    refine wpAnyH_take (i := 7) (oi := ?o7a) (v := ?v7a) ?h7a (by kernel_rfl) ?f7a ?r7a (fun _ _ _ h => h) (Or.inl ⟨?w7a, ?y7a⟩) (by assumption) ?t7a
    case h7a => simp only [List.getElem?_toArray]; rfl
    case f7a => kernel_rfl
    case r7a => kernel_rfl
    case w7a => rfl
    case y7a => (intro u hu; (go_simp) <;> with_reducible rfl)
    try simp only [Act.put, List.setIfInBounds_toArray, List.set_cons_zero, List.set_cons_succ]
    refine wpAnyH_take (i := 8) (oi := ?o8a) (v := ?v8a) ?h8a (by kernel_rfl) ?f8a ?r8a (fun _ _ _ h => h) (Or.inl ⟨?w8a, ?y8a⟩) (by assumption) ?t8a
    case h8a => simp only [List.getElem?_toArray]; rfl
    case f8a => kernel_rfl
    case r8a => kernel_rfl
    case w8a => rfl
    case y8a => (intro u hu; (go_simp) <;> with_reducible rfl)
    try simp only [Act.put, List.setIfInBounds_toArray, List.set_cons_zero, List.set_cons_succ]
    refine wpAnyH_take (i := 9) (oi := ?o9a) (v := ?v9a) ?h9a (by kernel_rfl) ?f9a ?r9a (fun _ _ _ h => h) (Or.inl ⟨?w9a, ?y9a⟩) (by assumption) ?t9a
    case h9a => simp only [List.getElem?_toArray]; rfl
    case f9a => kernel_rfl
    case r9a => kernel_rfl
    case w9a => rfl
    case y9a => (intro u hu; (go_simp) <;> with_reducible rfl)
    try simp only [Act.put, List.setIfInBounds_toArray, List.set_cons_zero, List.set_cons_succ]
    refine wpAnyH_take (i := 10) (oi := ?o10a) (v := ?v10a) ?h10a (by kernel_rfl) ?f10a ?r10a (fun _ _ _ h => h) (Or.inl ⟨?w10a, ?y10a⟩) (by assumption) ?t10a
    case h10a => simp only [List.getElem?_toArray]; rfl
    case f10a => kernel_rfl
    case r10a => kernel_rfl
    case w10a => rfl
    case y10a => (intro u hu; (go_simp) <;> with_reducible rfl)
    try simp only [Act.put, List.setIfInBounds_toArray, List.set_cons_zero, List.set_cons_succ]
    refine wpAnyH_take (i := 11) (oi := ?o11a) (v := ?v11a) ?h11a (by kernel_rfl) ?f11a ?r11a (fun _ _ _ h => h) (Or.inl ⟨?w11a, ?y11a⟩) (by assumption) ?t11a
    case h11a => simp only [List.getElem?_toArray]; rfl
    case f11a => kernel_rfl
    case r11a => kernel_rfl
    case w11a => rfl
    case y11a => (intro u hu; (go_simp) <;> with_reducible rfl)
    try simp only [Act.put, List.setIfInBounds_toArray, List.set_cons_zero, List.set_cons_succ]
    clear sD
    refine wpAnyH_ready (rs := [4]) (by kernel_rfl) (by simp) ?_
    refine AllReadyH.cons (o := ?o4a) ?h4a (fun K hK => ?_) AllReadyH.nil
    case h4a => simp only [List.getElem?_toArray]; rfl
    go_simp
    refine (rtagof_c key nonce aa la ca ad (some ⟨b, off, none⟩) n cb (box.take n) HK.out HN.out _ (HRA.out.below hH) ((HRB.out.cut n hnl).below hH) (HG.out.later hH) (by omega)).mono ?_
    rintro e V5 ⟨g5, TG, rfl, HTG, RT, -, hb⟩
    refine hK.out _ _ (hH.trans hb) (fun hH' => ?_)
    clear hK K hH
    have hH := hH'
    clear hH'
    try simp only [List.setIfInBounds_toArray, List.set]
    have sT := str_of RT.out
    refine wpAnyH_ready (rs := [5]) (by kernel_rfl) (by simp) ?_
    refine AllReadyH.cons (o := ?o5a) ?h5a (fun K hK => ?_) AllReadyH.nil
    case h5a => simp only [List.getElem?_toArray]; rfl
    go_simp
    refine hK.out _ _ hH (fun hH' => ?_)
    clear hK K hH
    have hH := hH'
    clear hH'
    try simp only [List.setIfInBounds_toArray, List.set]
    clear sT
    have hbn : (strOfNums TG).toList ≠ (strOfNums (box.drop n)).toList := by
      intro h
      rw [ByteArray.toList_eq, ByteArray.toList_eq] at h
      exact hq (by rw [← HTG.out]; exact str_inj RT.out.byt (HBB.out.drop n) (ByteArray.ext (by rw [← Array.toList_inj]; exact h)))
    have hbe : ((strOfNums TG).toList == (strOfNums (box.drop n)).toList) = false := beq_eq_false_iff_ne.2 hbn
    refine wpAnyH_take (i := 12) (oi := ?o12a) (v := ?v12a) ?h12a (by kernel_rfl) ?f12a ?r12a (fun _ _ _ h => h) (Or.inl ⟨?w12a, ?y12a⟩) (by assumption) ?t12a
    case h12a => simp only [List.getElem?_toArray]; rfl
    case f12a => kernel_rfl
    case r12a => kernel_rfl
    case w12a => rfl
    case y12a => (intro u hu; (go_simp) <;> with_reducible rfl)
    try simp only [Act.put, List.setIfInBounds_toArray, List.set_cons_zero, List.set_cons_succ]
    refine wpAnyH_done (by kernel_rfl) ?_ _
    refine NoPanic.normal ?_
    replace hb : Below W1.heap.size W1 V5 := (Below.refl _ _).drew.trans (hb.mono (Nat.le_refl _))
    clear hH RT HTG hbe hbn HRA HER AK AN hiK hiN HRB HG
    replace HB : Hid (Below w.heap.size w V5) := HB.out.trans (hb.mono HB.out.size)
    clear hb
    go_wp2
    go_ret2
    refine ⟨none, 0, 0, [], 2, rfl, .inr (.inr rfl), HNE, ?_, Rd.nil _ _ _ (fun _ => rfl), HB.out⟩
    unfold Hid
    rw [op6_not _ _ _ _ (by rw [HNE.out]; decide)]
set_option maxRecDepth 8000 in
theorem ropen_c (key nonce : List Int) (aa : Option Addr) (la ca : Nat) (ad : List Int) (ab : Option Addr) (lb cb : Nat) (box : List Int) (hk : Bn 32 key) (hn : Bn 12 nonce) (w : World) (hra : Rd w aa la ca ad) (hrb : Rd w ab lb cb box) (hg : Gr w) (hm : la + lb + 46 ≤ 2097152) :
    Calls Tryd.prog 26 #[(.agg (List.map (Value.int .u8) key).toArray), (.agg (List.map (Value.int .u8) nonce).toArray), .slice aa la ca, .slice ab lb cb] w fun e w' => ∃ a' m c X E, e = .returned (.tuple #[.slice a' m c, .int .i64 E]) ∧ (E = 0 ∨ E = 1 ∨ E = 2) ∧ Hid (er6 key nonce ad box = if E = 1 then 7 else if E = 2 then 8 else 0) ∧ Hid (X = op6 key nonce ad box) ∧ Hid (Rd w' a' m c X) ∧ Below w.heap.size w w' := by
  by_cases h : lb < 16
  · exact ropen_short key nonce aa la ca ad ab lb cb box w hrb h
  · obtain ⟨b, off, rfl, -⟩ := hrb.cell (by omega)
    exact ropen_long key nonce aa la ca ad b off lb cb box hk hn w hra hrb hg hm h
set_option maxRecDepth 8000 in
theorem Ext.up {a b c : World} (h : Ext a b) (k : Ext b c) : Ext a c := Ext.trans h k
end Go.Proofs.YtjmdgmbkkkoamaaDoor
