/-
  PolyTags' walk. No statement of the seat is proved here.
-/
import Derived.Test.YthacbicakbjgiaaPRTag
import Derived.Test.YthacbicakbjgiaaPLaw
import Derived.Deep.CutBlock
namespace Go.Proofs.Ythacbicakbjgiaa
open Go.RowKit

theorem Rd.keep {w w' : World} {a : Option Addr} {len cap c : Nat} {l : List Int} (h : Rd w a len cap l) (hne : 0 < len → ∀ b off, a = some ⟨b, off, none⟩ → b ≠ c) (hb : ExtB c w w') : Rd w' a len cap l :=
  ⟨h.hlen, h.hle, h.hnil, h.byt, fun h0 => by
    obtain ⟨b, off, ha, hc⟩ := h.cell h0
    exact ⟨b, off, ha, fun i hi => hb.cell (hne h0 b off ha) (hc i hi)⟩⟩
set_option maxRecDepth 8000 in
set_option maxHeartbeats 8000000 in
theorem polyTags_walk (key : List Int) (a : Option Addr) (len cap : Nat) (text : List Int) (lg how : Int) (hk : Bn 32 key) (hm : len ≤ 1048576) (hlg : -9223372036854775808 ≤ lg ∧ lg ≤ 9223372036854775807) (hhow : -9223372036854775808 ≤ how ∧ how ≤ 9223372036854775807) (w : World) (hr : Rd w a len cap text) :
    Calls Try.prog 4 #[(.agg (List.map (Value.int .u8) key).toArray), .slice a len cap, .int .i64 lg, .int .i64 how] w fun e w' => e = .returned (.bool true) ∧ Below w.heap.size w w' := by
  obtain ⟨i0, hi, hz0, hz1, hz2⟩ := info_parts info5
  have HK : Hid (Bn 32 key) := hk
  clear hk
  go_enter Try.func4, Try.ntmps4
  go_upto_region 1 with fail
  have AK : Hid (Ar (w.alloc (.cells (List.map (Value.int .u8) key).toArray 22)) w.heap.size 32 (List.map (Value.int .u8) key)) := ar_box w _ 32 HK.out.map_len _
  have HB : Hid (Below w.heap.size w (w.alloc (.cells (List.map (Value.int .u8) key).toArray 22))) := bel1 _ _
  have HNe0 : Hid (0 < len → ∀ b off, a = some ⟨b, off, none⟩ → b ≠ w.heap.size) := fun h0 b off ha => by
    obtain ⟨b', off', ha', hc⟩ := hr.cell h0
    rw [ha] at ha'
    cases ha'
    exact Nat.ne_of_lt (World.block_lt_of_cell? w _ (hc 0 h0))
  have HR : Hid (Rd (w.alloc (.cells (List.map (Value.int .u8) key).toArray 22)) a len cap text) := hr.below HB.out
  have hW0 : w.heap.size < (w.alloc (.cells (List.map (Value.int .u8) key).toArray 22)).heap.size := by simp
  clear hr
  generalize (w.alloc (.cells (List.map (Value.int .u8) key).toArray 22)) = W at *
  go_upto_if 16 with fail
  go_cut [1] from 14 (fun v wx => ∃ (a' : Option Addr) (len' cap' : Nat) (l' : List Int), v = .slice a' len' cap' ∧ Hid (Rd wx a' len' cap' l') ∧ len' ≤ 1048576 ∧ Hid (0 < len' → ∀ b off, a' = some ⟨b, off, none⟩ → b ≠ w.heap.size) ∧ Hid (Ext W wx))
  case first =>
    by_cases h3 : lg.tmod 3 = 0
    · go_wp2_with fail
      refine (pick_any lg 200 hlg (by decide) _).mono ?_
      rintro e w' ⟨m, rfl, p0, p1, hw⟩
      rw [hw]
      clear hw w'
      obtain ⟨m, rfl⟩ := Int.eq_ofNat_of_zero_le p0
      go_wp2_with fail
      refine (bytes_c m lg (by omega) _).mono ?_
      rintro e V1 ⟨g1, t, rfl, HT0, HT1, hb⟩
      have hge := (HT1.out.lt g1 (by simp [Value.ownBlock])).1
      go_wp2_with fail
      go_meet
      exact ⟨_, m, m, t, rfl, Rd.owns HT0.out HT1.out, by omega, (fun _ b off hb => by cases hb; omega), hb⟩
    · go_wp2_with fail
      go_meet
      exact ⟨a, len, cap, text, rfl, HR, hm, HNe0.out, Ext.refl _⟩
  case rest =>
    obtain ⟨a', len', cap', l', rfl, HR', hm', HNe, HE⟩ := hcut
    replace AK : Hid (Ar wc w.heap.size 32 (List.map (Value.int .u8) key)) := AK.out.later HE.out
    replace HB : Hid (Below w.heap.size w wc) := HB.out.trans (Below.mono HE.out HB.out.size)
    clear HR HE hm HNe0 hW0
    go_wp2_with fail
    refine (pick_any how 6 hhow (by decide) _).mono ?_
    rintro e w' ⟨hw6, rfl, p0, p1, hw⟩
    rw [hw]
    clear hw w'
    obtain ⟨bb, hbb0⟩ : ∃ b, IntKind.u8.wrap (how.tdiv 6) = b := ⟨_, rfl⟩
    have hbd : 0 ≤ bb ∧ bb ≤ 255 := by rw [IntKind.wrap_u8] at hbb0; omega
    obtain ⟨bd0, bd1⟩ := hbd
    go_upto_block 0 with fail
    go_cut [1] from 9 (fun v wx => ∃ (a' : Option Addr) (len' cap' : Nat) (l' key' : List Int), v = .slice a' len' cap' ∧ Hid (Rd wx a' len' cap' l') ∧ len' ≤ 1048576 ∧ Hid (Bn 32 key') ∧ Hid (Ar wx w.heap.size 32 (List.map (Value.int .u8) key')) ∧ Hid (Below w.heap.size w wx))
    case first =>
      rcases (show hw6 = 0 ∨ hw6 = 1 ∨ hw6 = 2 ∨ 3 ≤ hw6 by omega) with rfl | rfl | rfl | h3
      · go_wp2
        go_loopw [9] (fun i wr => ∃ (j : Nat) (key' : List Int), j ≤ 32 ∧ i = .int .i64 j ∧ Hid (Bn 32 key') ∧ Hid (Ar wr w.heap.size 32 (List.map (Value.int .u8) key')) ∧ Hid (Rd wr a' len' cap' l') ∧ Hid (Below w.heap.size w wr)) (fun i _ => 32 - (intOf i).toNat)
        case atStart => exact ⟨0, key, by decide, rfl, HK, AK, HR', HB⟩
        case round =>
          clear AK HR' HB
          obtain ⟨j, key', hj, rfl, HK', AK, HR', HB⟩ := hrel
          by_cases hlt : j < 32
          · have g1 : (j : Int) < 32 := by omega
            have g5 : (j : Int).toNat = j := by omega
            obtain ⟨cc, hcc, hff⟩ := there_cell AK.out.all j (by omega)
            have g3 : (j : Int) < 32 := by omega
            go_wp2
            go_roundw
            case rel => exact ⟨j + 1, key'.set j 255, by omega, by go_num, ⟨by rw [List.length_set, HK'.out.len], byt_set HK'.out.byt j (by decide) (by decide)⟩, by unfold Hid; rw [List.map_set]; exact AK.out.set j (by omega) _, HR'.out.keep HNe.out ((ExtB.refl w.heap.size wr).set j _), HB.out.setCell (p := ⟨w.heap.size, j, none⟩) (Nat.le_refl _) _⟩
            case measure => simp [intOf]; omega
          · have e : j = 32 := by omega
            subst e
            go_wp2_with fail
            go_meet
            exact ⟨a', len', cap', l', key', rfl, HR', hm', HK', AK, HB⟩
      · go_wp2
        go_loopw [10] (fun i wr => ∃ (j : Nat) (key' : List Int), j ≤ 16 ∧ i = .int .i64 j ∧ Hid (Bn 32 key') ∧ Hid (Ar wr w.heap.size 32 (List.map (Value.int .u8) key')) ∧ Hid (Rd wr a' len' cap' l') ∧ Hid (Below w.heap.size w wr)) (fun i _ => 16 - (intOf i).toNat)
        case atStart => exact ⟨0, key, by decide, rfl, HK, AK, HR', HB⟩
        case round =>
          clear AK HR' HB
          obtain ⟨j, key', hj, rfl, HK', AK, HR', HB⟩ := hrel
          by_cases hlt : j < 16
          · have g1 : (j : Int) < 16 := by omega
            have g5 : (j : Int).toNat = j := by omega
            obtain ⟨cc, hcc, hff⟩ := there_cell AK.out.all j (by omega)
            have g3 : (j : Int) < 32 := by omega
            go_wp2
            go_roundw
            case rel => exact ⟨j + 1, key'.set j 0, by omega, by go_num, ⟨by rw [List.length_set, HK'.out.len], byt_set HK'.out.byt j (by decide) (by decide)⟩, by unfold Hid; rw [List.map_set]; exact AK.out.set j (by omega) _, HR'.out.keep HNe.out ((ExtB.refl w.heap.size wr).set j _), HB.out.setCell (p := ⟨w.heap.size, j, none⟩) (Nat.le_refl _) _⟩
            case measure => simp [intOf]; omega
          · have e : j = 16 := by omega
            subst e
            obtain ⟨cc, hcc, hff⟩ := there_cell AK.out.all 0 (by decide)
            go_wp2_with fail
            go_meet
            exact ⟨a', len', cap', l', key'.set 0 bb, rfl, HR'.out.keep HNe.out ((ExtB.refl w.heap.size wr).set 0 _), hm', ⟨by rw [List.length_set, HK'.out.len], byt_set HK'.out.byt 0 bd0 bd1⟩, by unfold Hid; rw [List.map_set]; exact AK.out.set 0 (by decide) _, HB.out.setCell (p := ⟨w.heap.size, 0, none⟩) (Nat.le_refl _) _⟩
      · go_wp2_with fail
        refine (pick_any lg 100 hlg (by decide) _).mono ?_
        rintro e w' ⟨m, rfl, q0, q1, hw⟩
        rw [hw]
        clear hw w'
        obtain ⟨m, rfl⟩ := Int.eq_ofNat_of_zero_le q0
        go_wp2_with (at_make; refine wpList_make_full _ rfl _ _ 25 rfl w.heap.size 5 i0 (.int .u8 0) 1 Try.underlying25 hi hz0 hz1 _ _ _ _ m rfl rfl rfl rfl (by rw [hz2]; omega) (by unfold maxLen; omega) HB.out.size ?_)
        intro Y1 hown hgrow
        have hb1 : Below wc.heap.size wc Y1 := (Below.refl _ _).grown hgrow (Nat.le_refl _) (fun k h => by cases h)
        have OT : Hid (Ow Y1 wc.heap.size m (List.replicate m 0)) := ⟨⟨w.heap.size, by rw [← made_zero]; simpa [Value.cells] using hown⟩, byt_zero m⟩
        have hgk : w.heap.size < wc.heap.size := AK.out.lt (by decide)
        replace AK : Hid (Ar Y1 w.heap.size 32 (List.map (Value.int .u8) key)) := AK.out.later hb1
        replace HB : Hid (Below w.heap.size w Y1) := HB.out.trans (hb1.mono HB.out.size)
        clear hown hgrow hb1 HR' HNe hm'
        generalize wc.heap.size = g at *
        go_wp2
        go_loopw [12] (fun i wr => ∃ (j : Nat) (l : List Int), j ≤ m ∧ i = .int .i64 j ∧ Hid (Ow wr g m l) ∧ Hid (Ar wr w.heap.size 32 (List.map (Value.int .u8) key)) ∧ Hid (Below w.heap.size w wr)) (fun i _ => m - (intOf i).toNat)
        case atStart => exact ⟨0, _, Nat.zero_le _, rfl, OT, AK, HB⟩
        case round =>
          clear OT AK HB
          obtain ⟨j, l, hj, rfl, OT, AK, HB⟩ := hrel
          by_cases hlt : j < m
          · have g1 : (j : Int) < m := by omega
            have g5 : (j : Int).toNat = j := by omega
            obtain ⟨y, cy, fy, -, -, -⟩ := OT.out.cell j hlt
            go_wp2
            go_roundw
            case rel => exact ⟨j + 1, l.set j 255, by omega, by go_num, OT.out.set j (by decide) (by decide), AK.out.else _ _ (by omega) _, HB.out.setCell (p := ⟨g, j, none⟩) (by dsimp only; omega) _⟩
            case measure => simp [intOf]; omega
          · have e : j = m := by omega
            subst e
            go_wp2_with fail
            go_meet
            exact ⟨some ⟨g, 0, none⟩, j, j, l, key, rfl, OT.out.rd, by omega, HK, AK, HB⟩
      · have n0 : ¬ hw6 = 0 := by omega
        have n1 : ¬ hw6 = 1 := by omega
        have n2 : ¬ hw6 = 2 := by omega
        have c0 : (hw6 == 0) = false := by simp [n0]
        have c1 : (hw6 == 1) = false := by simp [n1]
        have c2 : (hw6 == 2) = false := by simp [n2]
        go_wp2_with fail
        go_meet
        exact ⟨a', len', cap', l', key, rfl, HR', hm', HK, AK, HB⟩
    case rest =>
      clear AK HB HR' HNe hm'
      obtain ⟨a', len', cap', l', key', rfl, HR', hm', HK', AK, HB⟩ := hcut
      obtain ⟨_, _, hiK⟩ := bn32_cells HK'.out
      go_wp2_with fail
      refine (few_all a' len' cap' l' _ HR'.out (by omega)).mono ?_
      rintro e Y ⟨a9, c9, rfl, hr9, hb⟩
      have HR9 : Hid (Rd Y a9 len' c9 l') := hr9
      replace HR' : Hid (Rd Y a' len' cap' l') := HR'.out.below hb
      replace AK : Hid (Ar Y w.heap.size 32 (List.map (Value.int .u8) key')) := AK.out.later hb
      replace HB : Hid (Below w.heap.size w Y) := HB.out.trans (hb.mono HB.out.size)
      clear hb hr9
      go_upto_region 23 with fail
      refine wp_region_noPanic ?_
      refine wp_region_held_drew (S := Ext Y) (by kernel_rfl) (Ext.refl _).drew (fun hH => ?_)
      change wpAnyH _ _ _ _ _ _ #[false, false, false, false, false, false, false, false, false, false, false, false, false, false, false, false, false, false] _ _
      refine wpAnyH_ready (rs := [0]) (by kernel_rfl) (by simp) ?_
      refine AllReadyH.cons (o := ?o0t) ?h0t (fun K hK => ?_) AllReadyH.nil
      case h0t => simp only [List.getElem?_toArray]; rfl
      go_simp
      refine (known5_any _).mono ?_
      rintro e V1 ⟨rfl, hb⟩
      refine hK.out _ _ (hH.trans hb) (fun hH' => ?_)
      clear hK K hH
      have hH := hH'
      clear hH'
      try simp only [List.setIfInBounds_toArray, List.set]
      clear hb
      refine wpAnyH_take (i := 1) (oi := ?o1t) (v := ?v1t) ?h1t (by kernel_rfl) ?f1t ?r1t (fun _ _ _ h => h) (Or.inl ⟨?w1t, ?y1t⟩) (by assumption) ?t1t
      case h1t => simp only [List.getElem?_toArray]; rfl
      case f1t => kernel_rfl
      case r1t => kernel_rfl
      case w1t => rfl
      case y1t => (intro u hu; (go_simp) <;> with_reducible rfl)
      try simp only [Act.put, List.setIfInBounds_toArray, List.set_cons_zero, List.set_cons_succ]
      refine wpAnyH_take (i := 2) (oi := ?o2t) (v := .agg (List.map (Value.int .u8) key').toArray) ?h2t (by kernel_rfl) ?f2t ?r2t (fun _ _ _ h => h) ?y2t (by assumption) ?t2t
      case h2t => simp only [List.getElem?_toArray]; rfl
      case f2t => kernel_rfl
      case r2t => kernel_rfl
      case y2t => exact yieldsIf_load_mid (by rfl) 22 (.tmp 4) rfl w.heap.size 0 rfl (List.map (Value.int .u8) key') _ (fun u hu => range_later hu AK.out.rng) Try.underlying22 rfl hiK
      try simp only [Act.put, List.setIfInBounds_toArray, List.set_cons_zero, List.set_cons_succ]
      refine wpAnyH_take (i := 3) (oi := ?o3t) (v := ?v3t) ?h3t (by kernel_rfl) ?f3t ?r3t (fun _ _ _ h => h) (Or.inl ⟨?w3t, ?y3t⟩) (by assumption) ?t3t
      case h3t => simp only [List.getElem?_toArray]; rfl
      case f3t => kernel_rfl
      case r3t => kernel_rfl
      case w3t => rfl
      case y3t => (intro u hu; (go_simp) <;> with_reducible rfl)
      try simp only [Act.put, List.setIfInBounds_toArray, List.set_cons_zero, List.set_cons_succ]
      refine wpAnyH_take (i := 5) (oi := ?o5t) (v := .agg (List.map (Value.int .u8) key').toArray) ?h5t (by kernel_rfl) ?f5t ?r5t (fun _ _ _ h => h) ?y5t (by assumption) ?t5t
      case h5t => simp only [List.getElem?_toArray]; rfl
      case f5t => kernel_rfl
      case r5t => kernel_rfl
      case y5t => exact yieldsIf_load_mid (by rfl) 22 (.tmp 4) rfl w.heap.size 0 rfl (List.map (Value.int .u8) key') _ (fun u hu => range_later hu AK.out.rng) Try.underlying22 rfl hiK
      try simp only [Act.put, List.setIfInBounds_toArray, List.set_cons_zero, List.set_cons_succ]
      refine wpAnyH_take (i := 6) (oi := ?o6t) (v := ?v6t) ?h6t (by kernel_rfl) ?f6t ?r6t (fun _ _ _ h => h) (Or.inl ⟨?w6t, ?y6t⟩) (by assumption) ?t6t
      case h6t => simp only [List.getElem?_toArray]; rfl
      case f6t => kernel_rfl
      case r6t => kernel_rfl
      case w6t => rfl
      case y6t => (intro u hu; (go_simp) <;> with_reducible rfl)
      try simp only [Act.put, List.setIfInBounds_toArray, List.set_cons_zero, List.set_cons_succ]
      refine wpAnyH_ready (rs := [4]) (by kernel_rfl) (by simp) ?_
      refine AllReadyH.cons (o := ?o4t) ?h4t (fun K hK => ?_) AllReadyH.nil
      case h4t => simp only [List.getElem?_toArray]; rfl
      go_simp
      refine (tag_c a9 len' c9 key' l' HK'.out _ (HR9.out.below hH) (by omega)).mono ?_
      rintro e V2 ⟨T, rfl, HTg, hT, hb⟩
      refine hK.out _ _ (hH.trans hb) (fun hH' => ?_)
      clear hK K hH
      have hH := hH'
      clear hH'
      try simp only [List.setIfInBounds_toArray, List.set]
      clear hb
      refine wpAnyH_ready (rs := [7]) (by kernel_rfl) (by simp) ?_
      refine AllReadyH.cons (o := ?o7t) ?h7t (fun K hK => ?_) AllReadyH.nil
      case h7t => simp only [List.getElem?_toArray]; rfl
      go_simp
      refine (rtag_c a' len' cap' key' l' HK'.out _ (HR'.out.below hH) hm').mono ?_
      rintro e V3 ⟨T2, rfl, HTg2, -, hb⟩
      refine hK.out _ _ (hH.trans hb) (fun hH' => ?_)
      clear hK K hH
      have hH := hH'
      clear hH'
      try simp only [List.setIfInBounds_toArray, List.set]
      have eT : T2 = T := HTg2.out.trans HTg.out.symm
      subst eT
      clear hb HTg HTg2
      have heq : ∀ u, Sem.run Try.prog (binOp .eql 23 (.agg (List.map (Value.int .u8) T2).toArray) (.agg (List.map (Value.int .u8) T2).toArray)) u = .ok (.bool true) u := fun u => eql16 T2 T2 hT rfl u
      refine wpAnyH_take (i := 8) (oi := ?o8t) (v := ?v8t) ?h8t (by kernel_rfl) ?f8t ?r8t (fun _ _ _ h => h) (Or.inl ⟨?w8t, ?y8t⟩) (by assumption) ?t8t
      case h8t => simp only [List.getElem?_toArray]; rfl
      case f8t => kernel_rfl
      case r8t => kernel_rfl
      case w8t => rfl
      case y8t => (intro u hu; (go_simp) <;> with_reducible rfl)
      try simp only [Act.put, List.setIfInBounds_toArray, List.set_cons_zero, List.set_cons_succ]
      clear heq hT
      refine wpAnyH_take (i := 9) (oi := ?o9t) (v := ?v9t) ?h9t (by kernel_rfl) ?f9t ?r9t (fun _ _ _ h => h) (Or.inl ⟨?w9t, ?y9t⟩) (by assumption) ?t9t
      case h9t => simp only [List.getElem?_toArray]; rfl
      case f9t => kernel_rfl
      case r9t => kernel_rfl
      case w9t => rfl
      case y9t => (intro u hu; (go_simp) <;> with_reducible rfl)
      try simp only [Act.put, List.setIfInBounds_toArray, List.set_cons_zero, List.set_cons_succ]
      refine wpAnyH_take (i := 10) (oi := ?o10t) (v := ?v10t) ?h10t (by kernel_rfl) ?f10t ?r10t (fun _ _ _ h => h) (Or.inl ⟨?w10t, ?y10t⟩) (by assumption) ?t10t
      case h10t => simp only [List.getElem?_toArray]; rfl
      case f10t => kernel_rfl
      case r10t => kernel_rfl
      case w10t => rfl
      case y10t => (intro u hu; (go_simp) <;> with_reducible rfl)
      try simp only [Act.put, List.setIfInBounds_toArray, List.set_cons_zero, List.set_cons_succ]
      refine wpAnyH_take (i := 11) (oi := ?o11t) (v := ?v11t) ?h11t (by kernel_rfl) ?f11t ?r11t (fun _ _ _ h => h) (Or.inl ⟨?w11t, ?y11t⟩) (by assumption) ?t11t
      case h11t => simp only [List.getElem?_toArray]; rfl
      case f11t => kernel_rfl
      case r11t => kernel_rfl
      case w11t => rfl
      case y11t => (intro u hu; (go_simp) <;> with_reducible rfl)
      try simp only [Act.put, List.setIfInBounds_toArray, List.set_cons_zero, List.set_cons_succ]
      have sx : ∀ u, Ext Y u → (convert 25 9 (.slice a9 len' c9)).run Try.prog u = .ok (.string (strOfNums l')) u := fun u hu => str_of (HR9.out.below hu)
      refine wpAnyH_take (i := 12) (oi := ?o12t) (v := ?v12t) ?h12t (by kernel_rfl) ?f12t ?r12t (fun _ _ _ h => h) (Or.inl ⟨?w12t, ?y12t⟩) (by assumption) ?t12t
      case h12t => simp only [List.getElem?_toArray]; rfl
      case f12t => kernel_rfl
      case r12t => kernel_rfl
      case w12t => rfl
      case y12t => (intro u hu; (have h1 := sx u hu; go_simp) <;> with_reducible rfl)
      try simp only [Act.put, List.setIfInBounds_toArray, List.set_cons_zero, List.set_cons_succ]
      clear sx
      refine wpAnyH_take (i := 13) (oi := ?o13t) (v := ?v13t) ?h13t (by kernel_rfl) ?f13t ?r13t (fun _ _ _ h => h) (Or.inl ⟨?w13t, ?y13t⟩) (by assumption) ?t13t
      case h13t => simp only [List.getElem?_toArray]; rfl
      case f13t => kernel_rfl
      case r13t => kernel_rfl
      case w13t => rfl
      case y13t => (intro u hu; (go_simp) <;> with_reducible rfl)
      try simp only [Act.put, List.setIfInBounds_toArray, List.set_cons_zero, List.set_cons_succ]
      have sx : ∀ u, Ext Y u → (convert 25 9 (.slice a' len' cap')).run Try.prog u = .ok (.string (strOfNums l')) u := fun u hu => str_of (HR'.out.below hu)
      refine wpAnyH_take (i := 14) (oi := ?o14t) (v := ?v14t) ?h14t (by kernel_rfl) ?f14t ?r14t (fun _ _ _ h => h) (Or.inl ⟨?w14t, ?y14t⟩) (by assumption) ?t14t
      case h14t => simp only [List.getElem?_toArray]; rfl
      case f14t => kernel_rfl
      case r14t => kernel_rfl
      case w14t => rfl
      case y14t => (intro u hu; (have h1 := sx u hu; go_simp) <;> with_reducible rfl)
      try simp only [Act.put, List.setIfInBounds_toArray, List.set_cons_zero, List.set_cons_succ]
      clear sx
      refine wpAnyH_take (i := 15) (oi := ?o15t) (v := ?v15t) ?h15t (by kernel_rfl) ?f15t ?r15t (fun _ _ _ h => h) (Or.inl ⟨?w15t, ?y15t⟩) (by assumption) ?t15t
      case h15t => simp only [List.getElem?_toArray]; rfl
      case f15t => kernel_rfl
      case r15t => kernel_rfl
      case w15t => rfl
      case y15t => (intro u hu; (go_simp) <;> with_reducible rfl)
      try simp only [Act.put, List.setIfInBounds_toArray, List.set_cons_zero, List.set_cons_succ]
      refine wpAnyH_take (i := 16) (oi := ?o16t) (v := ?v16t) ?h16t (by kernel_rfl) ?f16t ?r16t (fun _ _ _ h => h) (Or.inl ⟨?w16t, ?y16t⟩) (by assumption) ?t16t
      case h16t => simp only [List.getElem?_toArray]; rfl
      case f16t => kernel_rfl
      case r16t => kernel_rfl
      case w16t => rfl
      case y16t => (intro u hu; (go_simp) <;> with_reducible rfl)
      try simp only [Act.put, List.setIfInBounds_toArray, List.set_cons_zero, List.set_cons_succ]
      refine wpAnyH_take (i := 17) (oi := ?o17t) (v := ?v17t) ?h17t (by kernel_rfl) ?f17t ?r17t (fun _ _ _ h => h) (Or.inl ⟨?w17t, ?y17t⟩) (by assumption) ?t17t
      case h17t => simp only [List.getElem?_toArray]; rfl
      case f17t => kernel_rfl
      case r17t => kernel_rfl
      case w17t => rfl
      case y17t => (intro u hu; (go_simp) <;> with_reducible rfl)
      try simp only [Act.put, List.setIfInBounds_toArray, List.set_cons_zero, List.set_cons_succ]
      refine wpAnyH_done (by kernel_rfl) ?_ _
      refine NoPanic.normal ?_
      have hEn : Below w.heap.size w V3 := HB.out.trans (Below.mono hH HB.out.size)
      clear hH
      go_wp2
      go_ret
      exact ⟨rfl, hEn⟩
end Go.Proofs.Ythacbicakbjgiaa
