/-
  SymmNames' walk. No statement of the seat is proved here.
-/
import Derived.Test.YtmibjgkakolhiaaDoorPk33
import Derived.Test.YtmibjgkakolhiaaDoorPk16
import Derived.Test.YtmibjgkakolhiaaDoorPk17
import Derived.Test.YtmibjgkakolhiaaDoorKRow
namespace Go.Proofs.YtmibjgkakolhiaaDoor
open Go.RowKit

set_option maxRecDepth 8000 in
set_option maxHeartbeats 8000000 in
theorem symmNames_walk (n m : Int) (hn : -9223372036854775808 ≤ n ∧ n ≤ 9223372036854775807) (hm : -9223372036854775808 ≤ m ∧ m ≤ 9223372036854775807) (w : World) (hg : Gb w) :
    Calls Tryd.prog 5 #[.int .i64 n, .int .i64 m] w fun e w' => e = .returned (.bool true) ∧ Below w.heap.size w w' := by
  have HG : Hid (Gb w) := hg
  clear hg
  go_enter Tryd.func5, Tryd.ntmps5
  go_wp2_with fail
  refine (pick_any n 60 hn (by decide) _).mono ?_
  rintro e w' ⟨i0, rfl, p0, p1, hw⟩
  rw [hw]
  clear hw w'
  obtain ⟨p, rfl⟩ := Int.eq_ofNat_of_zero_le p0
  go_wp2_with fail
  refine (bytes_c p n (by omega) _).mono ?_
  rintro e V1 ⟨g1, X, rfl, HX0, HX1, hb⟩
  have HRX : Hid (Rd V1 (some ⟨g1, 0, none⟩) p p X) := Rd.owns HX0.out HX1.out
  have HLX : Hid (X.length = p) := HRX.out.hlen
  have HTX : Hid (Byt X) := HX0.out
  clear HX0 HX1
  have HB : Hid (Below w.heap.size w V1) := hb
  clear hb
  have s1 := str_of HRX.out
  obtain ⟨s, hs⟩ : ∃ s, s = strOfNums X := ⟨_, rfl⟩
  rw [← hs] at s1
  have HSD : Hid (sd s = X) := by rw [hs]; exact sd_str HTX.out
  have HSZ : Hid (s.size = p) := by unfold Hid; rw [← sd_len, HSD.out, HLX.out]
  clear hs HRX
  go_wp2_with fail
  refine (new10_c s _ (HG.out.later HB.out) (by have := HSZ.out; omega)).mono ?_
  rintro e V2 ⟨ba, N, rfl, kba, HN, Sa, hb⟩
  replace kba : w.heap.size ≤ ba := Nat.le_trans HB.out.size kba
  replace HN : Hid (N = nm10 X) := by have := HN.out; rwa [HSD.out] at this
  clear s1
  replace HB : Hid (Below w.heap.size w V2) := HB.out.trans (hb.mono HB.out.size)
  clear hb
  go_wp2_with fail
  refine (known10_any _ (HG.out.later HB.out)).mono ?_
  rintro e V3 ⟨rfl, hb⟩
  replace Sa : Hid (My V3 ba z9l false 0 N N) := Sa.out.later hb
  replace HB : Hid (Below w.heap.size w V3) := HB.out.trans (hb.mono HB.out.size)
  clear hb
  go_upto_region 6 with fail
  have hb := bel1 V3 (.cells #[.int .u8 0, .int .u8 0, .int .u8 0, .int .u8 0, .int .u8 0, .int .u8 0, .int .u8 0, .int .u8 0, .int .u8 0, .int .u8 0, .int .u8 0, .int .u8 0, .int .u8 0, .int .u8 0, .int .u8 0, .int .u8 0, .int .u8 0, .int .u8 0, .int .u8 0, .int .u8 0, .int .u8 0, .int .u8 0, .int .u8 0, .int .u8 0, .int .u8 0, .int .u8 0, .int .u8 0, .int .u8 0, .int .u8 0, .int .u8 0, .int .u8 0, .int .u8 0] 27)
  have AD : Hid (Ar (V3.alloc (.cells #[.int .u8 0, .int .u8 0, .int .u8 0, .int .u8 0, .int .u8 0, .int .u8 0, .int .u8 0, .int .u8 0, .int .u8 0, .int .u8 0, .int .u8 0, .int .u8 0, .int .u8 0, .int .u8 0, .int .u8 0, .int .u8 0, .int .u8 0, .int .u8 0, .int .u8 0, .int .u8 0, .int .u8 0, .int .u8 0, .int .u8 0, .int .u8 0, .int .u8 0, .int .u8 0, .int .u8 0, .int .u8 0, .int .u8 0, .int .u8 0, .int .u8 0, .int .u8 0] 27)) V3.heap.size 32 (List.map (Value.int .u8) (List.replicate 32 0))) := ar_box V3 (List.map (Value.int .u8) (List.replicate 32 0)) 32 rfl 27
  have kbw : ba < V3.heap.size := Sa.out.lt
  have kww : w.heap.size ≤ V3.heap.size := HB.out.size
  replace Sa : Hid (My (V3.alloc (.cells #[.int .u8 0, .int .u8 0, .int .u8 0, .int .u8 0, .int .u8 0, .int .u8 0, .int .u8 0, .int .u8 0, .int .u8 0, .int .u8 0, .int .u8 0, .int .u8 0, .int .u8 0, .int .u8 0, .int .u8 0, .int .u8 0, .int .u8 0, .int .u8 0, .int .u8 0, .int .u8 0, .int .u8 0, .int .u8 0, .int .u8 0, .int .u8 0, .int .u8 0, .int .u8 0, .int .u8 0, .int .u8 0, .int .u8 0, .int .u8 0, .int .u8 0, .int .u8 0] 27)) ba z9l false 0 N N) := Sa.out.later hb
  replace HB : Hid (Below w.heap.size w (V3.alloc (.cells #[.int .u8 0, .int .u8 0, .int .u8 0, .int .u8 0, .int .u8 0, .int .u8 0, .int .u8 0, .int .u8 0, .int .u8 0, .int .u8 0, .int .u8 0, .int .u8 0, .int .u8 0, .int .u8 0, .int .u8 0, .int .u8 0, .int .u8 0, .int .u8 0, .int .u8 0, .int .u8 0, .int .u8 0, .int .u8 0, .int .u8 0, .int .u8 0, .int .u8 0, .int .u8 0, .int .u8 0, .int .u8 0, .int .u8 0, .int .u8 0, .int .u8 0, .int .u8 0] 27))) := HB.out.trans (hb.mono HB.out.size)
  obtain ⟨W0, hW0⟩ : ∃ W, W = (V3.alloc (.cells #[.int .u8 0, .int .u8 0, .int .u8 0, .int .u8 0, .int .u8 0, .int .u8 0, .int .u8 0, .int .u8 0, .int .u8 0, .int .u8 0, .int .u8 0, .int .u8 0, .int .u8 0, .int .u8 0, .int .u8 0, .int .u8 0, .int .u8 0, .int .u8 0, .int .u8 0, .int .u8 0, .int .u8 0, .int .u8 0, .int .u8 0, .int .u8 0, .int .u8 0, .int .u8 0, .int .u8 0, .int .u8 0, .int .u8 0, .int .u8 0, .int .u8 0, .int .u8 0] 27)) := ⟨_, rfl⟩
  obtain ⟨bw, hbw⟩ : ∃ q, q = V3.heap.size := ⟨_, rfl⟩
  rw [← hW0] at AD Sa HB ⊢
  rw [← hbw] at AD kbw kww ⊢
  clear hW0 hbw hb
  go_upto_if 24 with fail
  go_cut [] from 22 (fun wx => Hid (Ar wx bw 32 (List.map (Value.int .u8) N)) ∧ Hid (My wx ba z9l false 0 N N) ∧ Hid (Below w.heap.size w wx))
  case first =>
    by_cases hle : p ≤ 32
    · have q1 : (s.size : Int) ≤ 32 := by have := HSZ.out; omega
      have hcp := fun ty => copy_str W0 bw 0 32 32 s (by have := HSZ.out; omega) (there_part AD.out.all 0 s.size (by have := HSZ.out; omega)) ty
      have AN : Hid (Ar (W0.setCells bw 0 (List.map (Value.int .u8) (sd s))) bw 32 (List.map (Value.int .u8) N)) := by
        have := AD.out.part 0 (List.map (Value.int .u8) (sd s)) (by rw [List.length_map, HSD.out, HLX.out]; omega)
        rw [List.length_map, List.take_zero, List.nil_append, ← List.map_drop, ← List.map_append, Nat.zero_add, HSD.out, HLX.out, List.drop_replicate] at this
        rw [HSD.out]
        unfold Hid
        rw [HN.out]
        unfold nm10
        rw [if_pos (by rw [HLX.out]; omega), HLX.out]
        exact this
      have hx : ExtB bw W0 (W0.setCells bw 0 (List.map (Value.int .u8) (sd s))) := extB_setCells _ _ _ (ExtB.refl _ _)
      have Sa2 : Hid (My (W0.setCells bw 0 (List.map (Value.int .u8) (sd s))) ba z9l false 0 N N) := Sa.out.extb hx (by omega)
      have HB2 : Hid (Below w.heap.size w (W0.setCells bw 0 (List.map (Value.int .u8) (sd s)))) := hx.below HB.out kww
      clear AD Sa HB hx
      go_wp2_with fail
      go_meet
      case rel => exact ⟨AN, Sa2, HB2⟩
    · have q1 : ¬ (s.size : Int) ≤ 32 := by have := HSZ.out; omega
      obtain ⟨c, V5, hcv, HR, hb⟩ := conv_str s W0
      have hb1 := bel1 V5 (.cells #[.slice (some ⟨W0.heap.size, 0, none⟩) s.size c] 35)
      have Y1 : Hid (RdL (V5.alloc (.cells #[.slice (some ⟨W0.heap.size, 0, none⟩) s.size c] 35)) (some ⟨V5.heap.size, 0, none⟩) 1 [sd s]) := RdL.one V5 _ s.size c _ 35 HR
      have hb3 : Below W0.heap.size W0 (V5.alloc (.cells #[.slice (some ⟨W0.heap.size, 0, none⟩) s.size c] 35)) := hb.trans (hb1.mono hb.size)
      go_wp2_with fail
      refine (sum_c (some ⟨V5.heap.size, 0, none⟩) 1 1 [sd s] _ Y1.out (HG.out.later (HB.out.trans (hb3.mono HB.out.size))) (by decide) (by simp only [List.flatten_cons, List.flatten_nil, List.append_nil]; rw [HSD.out, HLX.out]; omega)).mono ?_
      rintro e V6 ⟨S1, rfl, HS1, hb2⟩
      have hS1 : S1 = N := by
        have := HS1.out
        rw [List.flatten_cons, List.flatten_nil, List.append_nil, HSD.out] at this
        rw [HN.out, this]
        unfold nm10
        rw [if_neg (by rw [HLX.out]; omega)]
      subst hS1
      have hb4 : Below W0.heap.size W0 V6 := hb3.trans (hb2.mono hb3.size)
      have Sa2 : Hid (My V6 ba z9l false 0 S1 S1) := Sa.out.later hb4
      have HB2 : Hid (Below w.heap.size w V6) := HB.out.trans (hb4.mono HB.out.size)
      have hth : V6.there bw 0 32 := there_later hb4 AD.out.all
      clear hb hb1 hb2 hb3 hb4 Y1 HR hcv AD Sa HB HS1
      obtain ⟨hlen', hone, hi⟩ := bn32_cells Sa2.out.bh
      obtain ⟨cs, hcs⟩ : ∃ cs, cs = (List.map (Value.int .u8) S1) := ⟨_, rfl⟩
      have HCS : Hid (cs = (List.map (Value.int .u8) S1)) := hcs
      rw [← hcs] at hlen' hone hi ⊢
      clear hcs
      have hx : ExtB bw V6 (V6.setCells bw 0 cs) := extB_setCells _ _ _ (ExtB.refl _ _)
      have AN : Hid (Ar (V6.setCells bw 0 cs) bw 32 (List.map (Value.int .u8) S1)) := by rw [← HCS.out]; exact Ar.all_set hth hlen'
      have Sa3 : Hid (My (V6.setCells bw 0 cs) ba z9l false 0 S1 S1) := Sa2.out.extb hx (by omega)
      have HB3 : Hid (Below w.heap.size w (V6.setCells bw 0 cs)) := hx.below HB2.out kww
      clear hx
      go_wp2_with (refine wpList_store_mid rfl 27 (.tmp 7) (.tmp 31) rfl bw 0 cs.toArray rfl rfl (by simpa [hlen'] using hth) (by simpa using hi) (all_oneCell_toArray hone) ?_)
      go_meet
      case rel => exact ⟨AN, Sa3, HB3⟩
  case rest =>
    obtain ⟨AW, Sa', HB'⟩ := hcut
    obtain ⟨U, hU⟩ : ∃ U, U = wc := ⟨_, rfl⟩
    rw [← hU] at AW Sa' HB' ⊢
    clear hU Sa HB AD
    have Sa := Sa'
    have HB := HB'
    clear Sa' HB'
    obtain ⟨_, _, hiN⟩ := bn32_cells Sa.out.bh
    have hne : ∀ u, Sem.run Tryd.prog (binOp .neq 27 (.agg (List.map (Value.int .u8) N).toArray) (.agg (List.map (Value.int .u8) N).toArray)) u = .ok (.bool false) u := fun u => neq32 N N Sa.out.bh rfl u
    go_upto_region 9 with fail
    refine wp_region_noPanic ?_
    refine wp_region_held_drew (S := Ext U) (by kernel_rfl) (Ext.refl _).drew (fun hH => ?_)
    change wpAnyH _ _ _ _ _ _ #[false, false, false, false, false, false, false, false, false, false] _ _
    refine wpAnyH_take (i := 0) (oi := ?o0f) (v := ?v0f) ?h0f (by kernel_rfl) ?f0f ?r0f (fun _ _ _ h => h) (Or.inl ⟨?w0f, ?y0f⟩) (by assumption) ?t0f
    case h0f => simp only [List.getElem?_toArray]; rfl
    case f0f => kernel_rfl
    case r0f => kernel_rfl
    case w0f => rfl
    case y0f => (intro u hu; (go_simp) <;> with_reducible rfl)
    try simp only [Act.put, List.setIfInBounds_toArray, List.set_cons_zero, List.set_cons_succ]
    refine wpAnyH_take (i := 2) (oi := ?o2fl) (v := .agg (List.map (Value.int .u8) N).toArray) ?h2fl (by kernel_rfl) ?f2fl ?r2fl (fun _ _ _ h => h) ?y2fl (by assumption) ?t2fl
    case h2fl => simp only [List.getElem?_toArray]; rfl
    case f2fl => kernel_rfl
    case r2fl => kernel_rfl
    case y2fl => exact yieldsIf_load_mid (by rfl) 27 (.tmp 7) rfl bw 0 rfl (List.map (Value.int .u8) N) _ (fun u hu => range_later hu AW.out.rng) Tryd.underlying27 rfl hiN
    try simp only [Act.put, List.setIfInBounds_toArray, List.set_cons_zero, List.set_cons_succ]
    refine wpAnyH_ready (rs := [1]) (by kernel_rfl) (by simp) ?_
    refine AllReadyH.cons (o := ?o1f) ?h1f (fun K hK => ?_) AllReadyH.nil
    case h1f => simp only [List.getElem?_toArray]; rfl
    go_simp
    refine (hash10_c ba z9l false 0 N N _ (Sa.out.later hH)).mono ?_
    rintro e V9 ⟨rfl, hb⟩
    refine hK.out _ _ (hH.trans hb) (fun hH' => ?_)
    clear hK K hH
    have hH := hH'
    clear hH'
    try simp only [List.setIfInBounds_toArray, List.set]
    clear hb
    refine wpAnyH_take (i := 3) (oi := ?o3f) (v := ?v3f) ?h3f (by kernel_rfl) ?f3f ?r3f (fun _ _ _ h => h) (Or.inl ⟨?w3f, ?y3f⟩) (by assumption) ?t3f
    case h3f => simp only [List.getElem?_toArray]; rfl
    case f3f => kernel_rfl
    case r3f => kernel_rfl
    case w3f => rfl
    case y3f => (intro u hu; (go_simp) <;> with_reducible rfl)
    try simp only [Act.put, List.setIfInBounds_toArray, List.set_cons_zero, List.set_cons_succ]
    refine wpAnyH_take (i := 4) (oi := ?o4f) (v := ?v4f) ?h4f (by kernel_rfl) ?f4f ?r4f (fun _ _ _ h => h) (Or.inl ⟨?w4f, ?y4f⟩) (by assumption) ?t4f
    case h4f => simp only [List.getElem?_toArray]; rfl
    case f4f => kernel_rfl
    case r4f => kernel_rfl
    case w4f => rfl
    case y4f => (intro u hu; (go_simp) <;> with_reducible rfl)
    try simp only [Act.put, List.setIfInBounds_toArray, List.set_cons_zero, List.set_cons_succ]
    refine wpAnyH_take (i := 5) (oi := ?o5f) (v := ?v5f) ?h5f (by kernel_rfl) ?f5f ?r5f (fun _ _ _ h => h) (Or.inl ⟨?w5f, ?y5f⟩) (by assumption) ?t5f
    case h5f => simp only [List.getElem?_toArray]; rfl
    case f5f => kernel_rfl
    case r5f => kernel_rfl
    case w5f => rfl
    case y5f => (intro u hu; (go_simp) <;> with_reducible rfl)
    try simp only [Act.put, List.setIfInBounds_toArray, List.set_cons_zero, List.set_cons_succ]
    refine wpAnyH_take (i := 7) (oi := ?o7fl) (v := .agg (List.map (Value.int .u8) N).toArray) ?h7fl (by kernel_rfl) ?f7fl ?r7fl (fun _ _ _ h => h) ?y7fl (by assumption) ?t7fl
    case h7fl => simp only [List.getElem?_toArray]; rfl
    case f7fl => kernel_rfl
    case r7fl => kernel_rfl
    case y7fl => exact yieldsIf_load_mid (by rfl) 27 (.tmp 7) rfl bw 0 rfl (List.map (Value.int .u8) N) _ (fun u hu => range_later hu AW.out.rng) Tryd.underlying27 rfl hiN
    try simp only [Act.put, List.setIfInBounds_toArray, List.set_cons_zero, List.set_cons_succ]
    refine wpAnyH_ready (rs := [6]) (by kernel_rfl) (by simp) ?_
    refine AllReadyH.cons (o := ?o6f) ?h6f (fun K hK => ?_) AllReadyH.nil
    case h6f => simp only [List.getElem?_toArray]; rfl
    go_simp
    refine (chain10_c ba z9l false 0 N N _ (Sa.out.later hH)).mono ?_
    rintro e VA ⟨rfl, hb⟩
    refine hK.out _ _ (hH.trans hb) (fun hH' => ?_)
    clear hK K hH
    have hH := hH'
    clear hH'
    try simp only [List.setIfInBounds_toArray, List.set]
    clear hb
    refine wpAnyH_take (i := 8) (oi := ?o8f) (v := ?v8f) ?h8f (by kernel_rfl) ?f8f ?r8f (fun _ _ _ h => h) (Or.inl ⟨?w8f, ?y8f⟩) (by assumption) ?t8f
    case h8f => simp only [List.getElem?_toArray]; rfl
    case f8f => kernel_rfl
    case r8f => kernel_rfl
    case w8f => rfl
    case y8f => (intro u hu; (go_simp) <;> with_reducible rfl)
    try simp only [Act.put, List.setIfInBounds_toArray, List.set_cons_zero, List.set_cons_succ]
    refine wpAnyH_take (i := 9) (oi := ?o9f) (v := ?v9f) ?h9f (by kernel_rfl) ?f9f ?r9f (fun _ _ _ h => h) (Or.inl ⟨?w9f, ?y9f⟩) (by assumption) ?t9f
    case h9f => simp only [List.getElem?_toArray]; rfl
    case f9f => kernel_rfl
    case r9f => kernel_rfl
    case w9f => rfl
    case y9f => (intro u hu; (go_simp) <;> with_reducible rfl)
    try simp only [Act.put, List.setIfInBounds_toArray, List.set_cons_zero, List.set_cons_succ]
    refine wpAnyH_done (by kernel_rfl) ?_ _
    refine NoPanic.normal ?_
    have hb2 : Below U.heap.size U VA := hH
    replace Sa : Hid (My VA ba z9l false 0 N N) := Sa.out.later hb2
    replace AW : Hid (Ar VA bw 32 (List.map (Value.int .u8) N)) := AW.out.later hb2
    replace HB : Hid (Below w.heap.size w VA) := HB.out.trans (hb2.mono HB.out.size)
    clear hH hb2 hne
    go_wp2_with fail
    refine (pick_any m 100 hm (by decide) _).mono ?_
    rintro e w' ⟨i0, rfl, p0, p1, hw⟩
    rw [hw]
    clear hw w'
    obtain ⟨q, rfl⟩ := Int.eq_ofNat_of_zero_le p0
    go_wp2_with fail
    refine (bytes_c q m (by omega) _).mono ?_
    rintro e V6 ⟨g2, Z, rfl, HX0, HX1, hb⟩
    have HRZ : Hid (Rd V6 (some ⟨g2, 0, none⟩) q q Z) := Rd.owns HX0.out HX1.out
    have HLZ : Hid (Z.length = q) := HRZ.out.hlen
    have HTZ : Hid (Byt Z) := HX0.out
    clear HX0
    have kZ : Nq ba (some ⟨g2, 0, none⟩) q := (fr_owns HX1.out).nq Sa.out.lt
    clear HX1
    replace Sa : Hid (My V6 ba z9l false 0 N N) := Sa.out.later hb
    replace AW : Hid (Ar V6 bw 32 (List.map (Value.int .u8) N)) := AW.out.later hb
    replace HB : Hid (Below w.heap.size w V6) := HB.out.trans (hb.mono HB.out.size)
    clear hb
    go_wp2_with fail
    refine (mixhash10_c ba z9l false 0 N N (some ⟨g2, 0, none⟩) q q Z _ Sa.out HRZ.out (HG.out.later HB.out) (by omega)).mono ?_
    rintro e U' ⟨rfl, HS', hb⟩
    replace Sa := HS'
    replace AW : Hid (Ar U' bw 32 (List.map (Value.int .u8) N)) := AW.out.extb hb (by omega)
    replace HRZ : Hid (Rd U' (some ⟨g2, 0, none⟩) q q Z) := HRZ.out.nq hb kZ
    replace HB : Hid (Below w.heap.size w U') := hb.below HB.out (by omega)
    clear hb HS' kZ
    obtain ⟨M1, HM1⟩ : ∃ q, Hid (q = sum7 (N ++ Z)) := ⟨_, rfl⟩
    rw [← HM1.out] at Sa
    obtain ⟨U, hU⟩ : ∃ U, U = U' := ⟨_, rfl⟩
    rw [← hU] at Sa AW HRZ HB ⊢
    clear hU
    go_upto_region 13 with fail
    refine wp_region_noPanic ?_
    refine wp_region_held_drew (S := Ext U) (by kernel_rfl) (Ext.refl _).drew (fun hH => ?_)
    change wpAnyH _ _ _ _ _ _ #[false, false, false, false, false, false, false, false, false, false, false, false, false, false, false, false, false, false, false] _ _
    refine wpAnyH_take (i := 0) (oi := ?o0g) (v := ?v0g) ?h0g (by kernel_rfl) ?f0g ?r0g (fun _ _ _ h => h) (Or.inl ⟨?w0g, ?y0g⟩) (by assumption) ?t0g
    case h0g => simp only [List.getElem?_toArray]; rfl
    case f0g => kernel_rfl
    case r0g => kernel_rfl
    case w0g => rfl
    case y0g => (intro u hu; (go_simp) <;> with_reducible rfl)
    try simp only [Act.put, List.setIfInBounds_toArray, List.set_cons_zero, List.set_cons_succ]
    refine wpAnyH_take (i := 2) (oi := ?o2g) (v := ?v2g) ?h2g (by kernel_rfl) ?f2g ?r2g (fun _ _ _ h => h) (Or.inl ⟨?w2g, ?y2g⟩) (by assumption) ?t2g
    case h2g => simp only [List.getElem?_toArray]; rfl
    case f2g => kernel_rfl
    case r2g => kernel_rfl
    case w2g => rfl
    case y2g => (intro u hu; (go_simp) <;> with_reducible rfl)
    try simp only [Act.put, List.setIfInBounds_toArray, List.set_cons_zero, List.set_cons_succ]
    refine wpAnyH_take (i := 3) (oi := ?o3g) (v := ?v3g) ?h3g (by kernel_rfl) ?f3g ?r3g (fun _ _ _ h => h) (Or.inl ⟨?w3g, ?y3g⟩) (by assumption) ?t3g
    case h3g => simp only [List.getElem?_toArray]; rfl
    case f3g => kernel_rfl
    case r3g => kernel_rfl
    case w3g => rfl
    case y3g => (intro u hu; (go_simp) <;> with_reducible rfl)
    try simp only [Act.put, List.setIfInBounds_toArray, List.set_cons_zero, List.set_cons_succ]
    obtain ⟨y0, hy0⟩ : ∃ V, V = U.drew := ⟨_, rfl⟩
    rw [← hy0] at hH ⊢
    clear hy0
    revert hH
    apply cut2 (F := fun u x _ => Hid (Ext U u) ∧ Hid (RdL u (some ⟨x, 0, none⟩) 2 [N, Z]))
    case h =>
      intro hrest hH
      obtain ⟨dm, -⟩ : ∃ l : List Int, l = [] := ⟨_, rfl⟩
      refine wpAnyH_ready (rs := [1, 4]) (by kernel_rfl) (by simp) ?_
      refine AllReadyH.cons (o := ?ok1) ?hk1 (fun K hK => ?sk1) (AllReadyH.cons (o := ?ok2) ?hk2 (fun K hK => ?sk2) AllReadyH.nil)
      case hk1 => simp only [List.getElem?_toArray]; rfl
      case hk2 => simp only [List.getElem?_toArray]; rfl
      case sk1 =>
        go_simp
        refine (hash10_c ba z9l false 0 M1 N _ (Sa.out.later hH)).mono ?_
        rintro e Va ⟨rfl, hb⟩
        refine hK.out _ _ (hH.trans hb) (fun hH' => ?_)
        clear hK K hH
        have hH := hH'
        clear hH'
        try simp only [List.setIfInBounds_toArray, List.set]
        clear hb
        refine wpAnyH_ready (rs := [4]) (by kernel_rfl) (by simp) ?_
        refine AllReadyH.cons (o := ?or4a) ?hr4a (fun K hK => ?_) AllReadyH.nil
        case hr4a => simp only [List.getElem?_toArray]; rfl
        go_simp
        have hb := bel1 Va (.cells #[.slice (some ⟨bw, 0, none⟩) 32 32, .slice (some ⟨g2, 0, none⟩) q q] 35)
        have Y2 : Hid (RdL (Va.alloc (.cells #[.slice (some ⟨bw, 0, none⟩) 32 32, .slice (some ⟨g2, 0, none⟩) q q] 35)) (some ⟨Va.heap.size, 0, none⟩) 2 [N, Z]) := RdL.two Va _ 32 32 N _ q q Z 35 (((AW.out.later hH).rd_all Sa.out.bc.byt 32 (by decide))) (HRZ.out.below hH)
        refine hK.out _ _ (hH.trans hb) (fun hH' => ?_)
        clear hK K hH
        have hH := hH'
        clear hH'
        try simp only [List.setIfInBounds_toArray, List.set]
        obtain ⟨xa, hnew⟩ : ∃ v, v = Va.alloc (.cells #[.slice (some ⟨bw, 0, none⟩) 32 32, .slice (some ⟨g2, 0, none⟩) q q] 35) := ⟨_, rfl⟩
        obtain ⟨bx, hbn⟩ : ∃ v, v = Va.heap.size := ⟨_, rfl⟩
        rw [← hnew] at Y2 hH ⊢
        rw [← hbn] at Y2 ⊢
        clear hb hnew hbn
        exact hrest xa bx dm ⟨hH, Y2⟩
      case sk2 =>
        go_simp
        have hb := bel1 y0 (.cells #[.slice (some ⟨bw, 0, none⟩) 32 32, .slice (some ⟨g2, 0, none⟩) q q] 35)
        have Y2 : Hid (RdL (y0.alloc (.cells #[.slice (some ⟨bw, 0, none⟩) 32 32, .slice (some ⟨g2, 0, none⟩) q q] 35)) (some ⟨y0.heap.size, 0, none⟩) 2 [N, Z]) := RdL.two y0 _ 32 32 N _ q q Z 35 (((AW.out.later hH).rd_all Sa.out.bc.byt 32 (by decide))) (HRZ.out.below hH)
        refine hK.out _ _ (hH.trans hb) (fun hH' => ?_)
        clear hK K hH
        have hH := hH'
        clear hH'
        try simp only [List.setIfInBounds_toArray, List.set]
        obtain ⟨xb, hnew⟩ : ∃ v, v = y0.alloc (.cells #[.slice (some ⟨bw, 0, none⟩) 32 32, .slice (some ⟨g2, 0, none⟩) q q] 35) := ⟨_, rfl⟩
        obtain ⟨bx, hbn⟩ : ∃ v, v = y0.heap.size := ⟨_, rfl⟩
        rw [← hnew] at Y2 hH ⊢
        rw [← hbn] at Y2 ⊢
        clear hb hnew hbn
        refine wpAnyH_ready (rs := [1]) (by kernel_rfl) (by simp) ?_
        refine AllReadyH.cons (o := ?or1b) ?hr1b (fun K hK => ?_) AllReadyH.nil
        case hr1b => simp only [List.getElem?_toArray]; rfl
        go_simp
        refine (hash10_c ba z9l false 0 M1 N _ (Sa.out.later hH)).mono ?_
        rintro e Vb ⟨rfl, hb⟩
        refine hK.out _ _ (hH.trans hb) (fun hH' => ?_)
        clear hK K hH
        have hH := hH'
        clear hH'
        try simp only [List.setIfInBounds_toArray, List.set]
        replace Y2 : Hid (RdL Vb (some ⟨bx, 0, none⟩) 2 [N, Z]) := Y2.out.below hb
        clear hb
        exact hrest Vb bx dm ⟨hH, Y2⟩
    case hr =>
      rintro y1 bx _ ⟨hE, Y2⟩
      have hH := hE.out
      clear hE
      refine wpAnyH_ready (rs := [5]) (by kernel_rfl) (by simp) ?_
      refine AllReadyH.cons (o := ?o5h) ?h5h (fun K hK => ?_) AllReadyH.nil
      case h5h => simp only [List.getElem?_toArray]; rfl
      go_simp
      refine (sum_c (some ⟨bx, 0, none⟩) 2 2 [N, Z] _ Y2.out (HG.out.later (HB.out.trans (Below.mono hH HB.out.size))) (by decide) (by simp only [List.flatten_cons, List.flatten_nil, List.append_nil, List.length_append]; rw [HLZ.out, Sa.out.bc.len]; omega)).mono ?_
      rintro e V7 ⟨S2, rfl, HS2, hb⟩
      refine hK.out _ _ (hH.trans hb) (fun hH' => ?_)
      clear hK K hH
      have hH := hH'
      clear hH'
      try simp only [List.setIfInBounds_toArray, List.set]
      clear hb Y2
      have hS2 : M1 = S2 := by rw [HS2.out, HM1.out]; simp only [List.flatten_cons, List.flatten_nil, List.append_nil]
      subst hS2
      have heq : ∀ u, Sem.run Tryd.prog (binOp .eql 27 (.agg (List.map (Value.int .u8) M1).toArray) (.agg (List.map (Value.int .u8) M1).toArray)) u = .ok (.bool true) u := fun u => eql32 M1 M1 Sa.out.bh (rfl) u
      refine wpAnyH_take (i := 6) (oi := ?o6h) (v := ?v6h) ?h6h (by kernel_rfl) ?f6h ?r6h (fun _ _ _ h => h) (Or.inl ⟨?w6h, ?y6h⟩) (by assumption) ?t6h
      case h6h => simp only [List.getElem?_toArray]; rfl
      case f6h => kernel_rfl
      case r6h => kernel_rfl
      case w6h => rfl
      case y6h => (intro u hu; (go_simp) <;> with_reducible rfl)
      try simp only [Act.put, List.setIfInBounds_toArray, List.set_cons_zero, List.set_cons_succ]
      clear heq
      refine wpAnyH_take (i := 7) (oi := ?o7h) (v := ?v7h) ?h7h (by kernel_rfl) ?f7h ?r7h (fun _ _ _ h => h) (Or.inl ⟨?w7h, ?y7h⟩) (by assumption) ?t7h
      case h7h => simp only [List.getElem?_toArray]; rfl
      case f7h => kernel_rfl
      case r7h => kernel_rfl
      case w7h => rfl
      case y7h => (intro u hu; (go_simp) <;> with_reducible rfl)
      try simp only [Act.put, List.setIfInBounds_toArray, List.set_cons_zero, List.set_cons_succ]
      refine wpAnyH_take (i := 8) (oi := ?o8h) (v := ?v8h) ?h8h (by kernel_rfl) ?f8h ?r8h (fun _ _ _ h => h) (Or.inl ⟨?w8h, ?y8h⟩) (by assumption) ?t8h
      case h8h => simp only [List.getElem?_toArray]; rfl
      case f8h => kernel_rfl
      case r8h => kernel_rfl
      case w8h => rfl
      case y8h => (intro u hu; (go_simp) <;> with_reducible rfl)
      try simp only [Act.put, List.setIfInBounds_toArray, List.set_cons_zero, List.set_cons_succ]
      refine wpAnyH_take (i := 10) (oi := ?o10hl) (v := .agg (List.map (Value.int .u8) N).toArray) ?h10hl (by kernel_rfl) ?f10hl ?r10hl (fun _ _ _ h => h) ?y10hl (by assumption) ?t10hl
      case h10hl => simp only [List.getElem?_toArray]; rfl
      case f10hl => kernel_rfl
      case r10hl => kernel_rfl
      case y10hl => exact yieldsIf_load_mid (by rfl) 27 (.tmp 7) rfl bw 0 rfl (List.map (Value.int .u8) N) _ (fun u hu => range_later hu AW.out.rng) Tryd.underlying27 rfl hiN
      try simp only [Act.put, List.setIfInBounds_toArray, List.set_cons_zero, List.set_cons_succ]
      refine wpAnyH_ready (rs := [9]) (by kernel_rfl) (by simp) ?_
      refine AllReadyH.cons (o := ?o9h) ?h9h (fun K hK => ?_) AllReadyH.nil
      case h9h => simp only [List.getElem?_toArray]; rfl
      go_simp
      refine (chain10_c ba z9l false 0 M1 N _ (Sa.out.later hH)).mono ?_
      rintro e V8 ⟨rfl, hb⟩
      refine hK.out _ _ (hH.trans hb) (fun hH' => ?_)
      clear hK K hH
      have hH := hH'
      clear hH'
      try simp only [List.setIfInBounds_toArray, List.set]
      clear hb
      have heq : ∀ u, Sem.run Tryd.prog (binOp .eql 27 (.agg (List.map (Value.int .u8) N).toArray) (.agg (List.map (Value.int .u8) N).toArray)) u = .ok (.bool true) u := fun u => eql32 N N Sa.out.bc (rfl) u
      refine wpAnyH_take (i := 11) (oi := ?o11h) (v := ?v11h) ?h11h (by kernel_rfl) ?f11h ?r11h (fun _ _ _ h => h) (Or.inl ⟨?w11h, ?y11h⟩) (by assumption) ?t11h
      case h11h => simp only [List.getElem?_toArray]; rfl
      case f11h => kernel_rfl
      case r11h => kernel_rfl
      case w11h => rfl
      case y11h => (intro u hu; (go_simp) <;> with_reducible rfl)
      try simp only [Act.put, List.setIfInBounds_toArray, List.set_cons_zero, List.set_cons_succ]
      clear heq
      refine wpAnyH_take (i := 12) (oi := ?o12h) (v := ?v12h) ?h12h (by kernel_rfl) ?f12h ?r12h (fun _ _ _ h => h) (Or.inl ⟨?w12h, ?y12h⟩) (by assumption) ?t12h
      case h12h => simp only [List.getElem?_toArray]; rfl
      case f12h => kernel_rfl
      case r12h => kernel_rfl
      case w12h => rfl
      case y12h => (intro u hu; (go_simp) <;> with_reducible rfl)
      try simp only [Act.put, List.setIfInBounds_toArray, List.set_cons_zero, List.set_cons_succ]
      refine wpAnyH_take (i := 13) (oi := ?o13h) (v := ?v13h) ?h13h (by kernel_rfl) ?f13h ?r13h (fun _ _ _ h => h) (Or.inl ⟨?w13h, ?y13h⟩) (by assumption) ?t13h
      case h13h => simp only [List.getElem?_toArray]; rfl
      case f13h => kernel_rfl
      case r13h => kernel_rfl
      case w13h => rfl
      case y13h => (intro u hu; (go_simp) <;> with_reducible rfl)
      try simp only [Act.put, List.setIfInBounds_toArray, List.set_cons_zero, List.set_cons_succ]
      refine wpAnyH_take (i := 14) (oi := ?o14h) (v := ?v14h) ?h14h (by kernel_rfl) ?f14h ?r14h (fun _ _ _ h => h) (Or.inl ⟨?w14h, ?y14h⟩) (by assumption) ?t14h
      case h14h => simp only [List.getElem?_toArray]; rfl
      case f14h => kernel_rfl
      case r14h => kernel_rfl
      case w14h => rfl
      case y14h => (intro u hu; (go_simp) <;> with_reducible rfl)
      try simp only [Act.put, List.setIfInBounds_toArray, List.set_cons_zero, List.set_cons_succ]
      refine wpAnyH_ready (rs := [15]) (by kernel_rfl) (by simp) ?_
      refine AllReadyH.cons (o := ?o15h) ?h15h (fun K hK => ?_) AllReadyH.nil
      case h15h => simp only [List.getElem?_toArray]; rfl
      go_simp
      refine (haskey10_c ba z9l false 0 M1 N _ (Sa.out.later hH)).mono ?_
      rintro e V9 ⟨rfl, hw⟩
      rw [hw]
      clear hw V9
      refine hK.out _ _ hH (fun hH' => ?_)
      clear hK K hH
      have hH := hH'
      clear hH'
      try simp only [List.setIfInBounds_toArray, List.set]
      refine wpAnyH_take (i := 16) (oi := ?o16h) (v := ?v16h) ?h16h (by kernel_rfl) ?f16h ?r16h (fun _ _ _ h => h) (Or.inl ⟨?w16h, ?y16h⟩) (by assumption) ?t16h
      case h16h => simp only [List.getElem?_toArray]; rfl
      case f16h => kernel_rfl
      case r16h => kernel_rfl
      case w16h => rfl
      case y16h => (intro u hu; (go_simp) <;> with_reducible rfl)
      try simp only [Act.put, List.setIfInBounds_toArray, List.set_cons_zero, List.set_cons_succ]
      refine wpAnyH_take (i := 17) (oi := ?o17h) (v := ?v17h) ?h17h (by kernel_rfl) ?f17h ?r17h (fun _ _ _ h => h) (Or.inl ⟨?w17h, ?y17h⟩) (by assumption) ?t17h
      case h17h => simp only [List.getElem?_toArray]; rfl
      case f17h => kernel_rfl
      case r17h => kernel_rfl
      case w17h => rfl
      case y17h => (intro u hu; (go_simp) <;> with_reducible rfl)
      try simp only [Act.put, List.setIfInBounds_toArray, List.set_cons_zero, List.set_cons_succ]
      refine wpAnyH_take (i := 18) (oi := ?o18h) (v := ?v18h) ?h18h (by kernel_rfl) ?f18h ?r18h (fun _ _ _ h => h) (Or.inl ⟨?w18h, ?y18h⟩) (by assumption) ?t18h
      case h18h => simp only [List.getElem?_toArray]; rfl
      case f18h => kernel_rfl
      case r18h => kernel_rfl
      case w18h => rfl
      case y18h => (intro u hu; (go_simp) <;> with_reducible rfl)
      try simp only [Act.put, List.setIfInBounds_toArray, List.set_cons_zero, List.set_cons_succ]
      refine wpAnyH_done (by kernel_rfl) ?_ _
      refine NoPanic.normal ?_
      have hb2 : Below U.heap.size U _ := hH
      replace HB : Hid (Below w.heap.size w _) := HB.out.trans (hb2.mono HB.out.size)
      clear hH hb2
      go_wp2
      go_ret
      exact ⟨rfl, HB.out⟩
end Go.Proofs.YtmibjgkakolhiaaDoor
