/-
  What (*Hash).press does: the block that waits is pressed in. No statement of the seat is proved here.
-/
import Derived.Test.YtlnbjehimabaiaaGreatDoorPk5
import Derived.Test.YtlnbjehimabaiaaGreatDoorPk7
namespace Go.Proofs.YtlnbjehimabaiaaGreatDoor
open Go.RowKit
set_option maxRecDepth 8000

theorem byt_zero7 (n : Nat) : Byt (List.replicate n 0) := fun x hx => by rw [(List.mem_replicate.1 hx).2]; decide
structure Mp (w : World) (b bv bm : Nat) (st : List Int) (t : Int) (bl : List Int) (k : Nat) (v m : List Int) (u : World) : Prop where
  h : Hs u b st t bl k
  v : Ar u bv 16 (List.map (Value.int .u32) v)
  m : Ar u bm 16 (List.map (Value.int .u32) m)
  gb : Gb u
  ext : ExtB b w u
section
variable {w u u' : World} {b bv bm : Nat} {st : List Int} {t : Int} {bl : List Int} {k : Nat} {v m : List Int}
theorem Mp.later (h : Mp w b bv bm st t bl k v m u) (hb : Below u.heap.size u u') : Mp w b bv bm st t bl k v m u' := ⟨h.h.later hb, h.v.later hb, h.m.later hb, h.gb.later hb, h.ext.trans hb⟩
theorem Mp.setSt (h : Mp w b bv bm st t bl k v m u) (h1 : b ≠ bv) (h2 : b ≠ bm) (g0 : 5 < b) (g1 : 6 < b) (i : Nat) (hi : i < 8) {x : Int} (hx : W7 x) : Mp w b bv bm (st.set i x) t bl k v m (u.setCell ⟨b, i, none⟩ (.int .u32 x)) :=
  ⟨h.h.setSt i hi hx, h.v.else _ _ (Ne.symm h1) _, h.m.else _ _ (Ne.symm h2) _, h.gb.set _ _ g0 g1 _, h.ext.set i _⟩
theorem Mp.setV (h : Mp w b bv bm st t bl k v m u) (h1 : b ≠ bv) (h2 : bm ≠ bv) (hw : w.heap.size ≤ bv) (g0 : 5 < bv) (g1 : 6 < bv) {v' : List Int} (hv : Wn 16 v') : Mp w b bv bm st t bl k v' m (u.setCells bv 0 (List.map (Value.int .u32) v')) :=
  ⟨h.h.else_cells _ _ h1 _, Ar.all_set h.v.all hv.map_len, h.m.else_cells h2 _ _, h.gb.extb (extB_setCells _ _ _ (ExtB.refl bv u)) g0 g1,
   ⟨(below_setCells (B := w.heap.size) bv hw (List.map (Value.int .u32) v') 0 u (Below.refl _ _)).os.trans h.ext.os, (below_setCells (B := w.heap.size) bv hw (List.map (Value.int .u32) v') 0 u (Below.refl _ _)).tape.trans h.ext.tape, (below_setCells (B := w.heap.size) bv hw (List.map (Value.int .u32) v') 0 u (Below.refl _ _)).output.trans h.ext.output, Nat.le_trans h.ext.size (below_setCells (B := w.heap.size) bv hw (List.map (Value.int .u32) v') 0 u (Below.refl _ _)).size, fun i hi hb => ((below_setCells (B := w.heap.size) bv hw (List.map (Value.int .u32) v') 0 u (Below.refl _ _)).block i hi).trans (h.ext.block i hi hb)⟩⟩
end

set_option maxHeartbeats 8000000 in
theorem press_c (b : Nat) (st : List Int) (t : Int) (bl : List Int) (k : Nat) (last : Bool) (w : World) (hs : Hs w b st t bl k) (hg : Gb w) (g0 : 5 < b) (g1 : 6 < b) (htk : t + k < 18446744073709551616) :
    Calls Tryz.prog 144 #[.pointer (some ⟨b, 0, none⟩), .bool last] w fun e w' => e = .returned (.tuple #[]) ∧ Hid (Hs w' b (pr7 st bl (t + k) last) (t + k) (List.replicate 64 0) 0) ∧ ExtB b w w' := by
  have HS : Hid (Hs w b st t bl k) := hs
  have HG : Hid (Gb w) := hg
  have hbw := hs.lt
  have hk64 := hs.wk
  obtain ⟨t0, t1⟩ := hs.wt
  have HW := hs.wst
  have HBL := hs.wbl
  replace HW : Hid (Wn 8 st) := HW
  replace HBL : Hid (Bn 64 bl) := HBL
  obtain ⟨ct, ft⟩ := hs.taken
  obtain ⟨ck, fk⟩ := hs.held
  clear hs hg
  have hwk : IntKind.u64.wrap (k : Int) = k := by rw [IntKind.wrap_u64]; omega
  have hwt : IntKind.u64.wrap (t + k) = t + k := by rw [IntKind.wrap_u64]; omega
  have xt : ∀ u, Ext w u → u.cell? ⟨b, 8, none⟩ = some (.int .u64 t) := fun u hu => hu.cell ct
  have xk : ∀ u, Ext w u → u.cell? ⟨b, 73, none⟩ = some (.int .i64 k) := fun u hu => hu.cell ck
  go_enter Tryz.func144, Tryz.ntmps144
  go_upto_region 0 with fail
  refine wp_region_noPanic ?_
  refine wp_region_two (k := 12) (Ext w) (ExtB b w) (by kernel_rfl) (Ext.refl _).drew (fun hH => ?_)
  change wpAnyK _ _ _ _ _ _ _ _ #[false, false, false, false, false, false, false, false, false, false, false, false, false] _ _
  refine tna 0 ?_
  refine tna 1 ?_
  refine tna 2 ?_
  refine tna 3 ?_ (hy := by (intro u hu; (have hx := xt u hu; go_simp) <;> with_reducible rfl))
  refine tna 4 ?_
  refine tna 5 ?_
  refine tna 6 ?_
  refine tna 7 ?_ (hy := by (intro u hu; (have hx := xk u hu; go_simp) <;> with_reducible rfl))
  refine tna 8 ?_
  refine tna 9 ?_
  refine tnk 10 (fun _ h => h.extB _) ?_
  refine tna 11 ?_
  clear xt xk
  refine rdl 12 (fun K hK => ?_)
  go_simp
  refine ko hK ((hH.extB _).set 8 _) fun hH => ?_; clear hK K
  refine wpAnyH_done (by kernel_rfl) ?_ _
  refine NoPanic.normal ?_
  clear ct ft ck fk
  have hT0 : 0 ≤ t + k := by omega
  obtain ⟨T, hT⟩ : ∃ T : Int, T = t + k := ⟨_, rfl⟩
  go_upto_region 1 with fail
  rw [← hT]
  rw [← hT] at hT0 htk
  have HT : Hid (T = t + k) := hT
  obtain ⟨W1, hW1⟩ : ∃ V, V = (w.setCell ⟨b, 8, none⟩ (.int .u64 T)).drew := ⟨_, rfl⟩
  rw [← hW1]
  replace HS : Hid (Hs W1 b st T bl k) := by unfold Hid; rw [hW1]; exact (HS.out.setT ⟨hT0, htk⟩).drew
  replace HG : Hid (Gb W1) := by unfold Hid; rw [hW1]; exact (HG.out.set b 8 g0 g1 _).later (Below.refl _ _).drew
  have HE : Hid (ExtB b w W1) := by unfold Hid; rw [hW1]; exact ((ExtB.refl b w).set 8 _).drew
  have hb1 : b < W1.heap.size := HS.out.lt
  clear hW1 hT hwk hwt t0 t1
  obtain ⟨ct, -⟩ := HS.out.taken
  have xt : ∀ u, Ext W1 u → u.cell? ⟨b, 8, none⟩ = some (.int .u64 T) := fun u hu => hu.cell ct
  have hst := HS.out.state
  obtain ⟨_, _, hi8⟩ := st_cells HW.out
  go_cut [4] from 21 (fun tv wx => ∃ (bv : Nat) (V0 : List Int), tv = .pointer (some ⟨bv, 0, none⟩) ∧ Hid (V0 = vs7 st T last) ∧ Hid (Wn 16 V0) ∧ Hid (Ar wx bv 16 (List.map (Value.int .u32) V0)) ∧ W1.heap.size ≤ bv ∧ Hid (Below W1.heap.size W1 wx))
  case first =>
    refine wp_region_noPanic ?_
    refine wp_region_held_drew (S := Ext W1) (by kernel_rfl) (Ext.refl _).drew (fun hH => ?_)
    change wpAnyH _ _ _ _ _ _ #[false, false, false, false, false, false, false, false, false, false, false, false] _ _
    refine tn 0 ?_
    refine tn 1 ?_
    refine tn 2 ?_
    refine tnl 3 (.agg (List.map (Value.int .u32) st).toArray) ?_ (hy := by exact yieldsIf_load_mid (by rfl) 138 (.tmp 23) rfl b 0 rfl (List.map (Value.int .u32) st) _ (fun u hu => range_later hu hst) Tryz.underlying138 rfl hi8)
    refine tn 4 ?_
    refine tn 5 ?_
    refine tn 6 ?_
    refine tn 7 ?_ (hy := by (intro u hu; (have hx := xt u hu; go_simp) <;> with_reducible rfl))
    refine tn 8 ?_
    obtain ⟨y0, hy0⟩ : ∃ V, V = W1.drew := ⟨_, rfl⟩
    rw [← hy0] at hH ⊢
    clear hy0
    refine rdy2 9 10 (fun K hK => ?sAp1) (fun K hK => ?sBp1)
    case sAp1 =>
      go_simp
      refine (start7_c st T last HW.out ⟨hT0, htk⟩ y0 (HG.out.later hH)).mono ?_
      rintro e V ⟨L, rfl, HL, HLW, hb⟩
      refine ko hK (hH.trans hb) fun hH => ?_; clear hK K
      have hLw : W1.heap.size ≤ V.heap.size := hH.size
      have hD : Hid ((V.alloc (.cells zw16 199)).there V.heap.size 0 16) := there_new V 16 zw16 rfl 199
      clear hb
      refine rdy 10 (fun K hK => ?_)
      go_simp
      refine ko hK (hH.trans (bel1 V _)) fun hH => ?_; clear hK K
      obtain ⟨x1, hx1⟩ : ∃ v, v = V.alloc (.cells zw16 199) := ⟨_, rfl⟩
      obtain ⟨bw, hbw⟩ : ∃ v, v = V.heap.size := ⟨_, rfl⟩
      rw [← hx1] at hD hH ⊢
      rw [← hbw] at hD hLw ⊢
      clear hx1 hbw
      obtain ⟨hlenw, honew, hiw⟩ := ws_cells HLW
      obtain ⟨csw, hcsw⟩ : ∃ cs, cs = (List.map (Value.int .u32) L) := ⟨_, rfl⟩
      rw [← hcsw] at hlenw honew hiw ⊢
      have HCW : Hid (csw = (List.map (Value.int .u32) L)) := hcsw
      clear hcsw
      refine rdy 11 (fun K hK => ?_)
      refine wp_store_mid 199 (.tmp 4) (.tmp 30) rfl bw 0 csw.toArray rfl rfl (by simpa [hlenw] using hD.out) (by simpa using hiw) (all_oneCell_toArray honew) ?_
      refine ko hK (below_setCells _ (by omega) _ _ _ hH) fun hH => ?_; clear hK K
      refine wpAnyH_done (by kernel_rfl) ?_ _
      refine NoPanic.normal ?_
      go_wp2_with fail
      go_meet
      case rel => exact ⟨bw, L, rfl, HL, HLW, by rw [← HCW.out]; exact Ar.all_set hD.out hlenw, hLw, hH⟩
    case sBp1 =>
      go_simp
      have hLw : W1.heap.size ≤ y0.heap.size := hH.size
      have hD : Hid ((y0.alloc (.cells zw16 199)).there y0.heap.size 0 16) := there_new y0 16 zw16 rfl 199
      refine ko hK (hH.trans (bel1 y0 _)) fun hH => ?_; clear hK K
      obtain ⟨x1, hx1⟩ : ∃ v, v = y0.alloc (.cells zw16 199) := ⟨_, rfl⟩
      obtain ⟨bw, hbw⟩ : ∃ v, v = y0.heap.size := ⟨_, rfl⟩
      rw [← hx1] at hD hH ⊢
      rw [← hbw] at hD hLw ⊢
      clear hx1 hbw
      refine rdy 9 (fun K hK => ?_)
      go_simp
      refine (start7_c st T last HW.out ⟨hT0, htk⟩ x1 (HG.out.later hH)).mono ?_
      rintro e V ⟨L, rfl, HL, HLW, hb⟩
      refine ko hK (hH.trans hb) fun hH => ?_; clear hK K
      replace hD : Hid (V.there bw 0 16) := there_later hb hD.out
      clear hb
      obtain ⟨hlenw, honew, hiw⟩ := ws_cells HLW
      obtain ⟨csw, hcsw⟩ : ∃ cs, cs = (List.map (Value.int .u32) L) := ⟨_, rfl⟩
      rw [← hcsw] at hlenw honew hiw ⊢
      have HCW : Hid (csw = (List.map (Value.int .u32) L)) := hcsw
      clear hcsw
      refine rdy 11 (fun K hK => ?_)
      refine wp_store_mid 199 (.tmp 4) (.tmp 30) rfl bw 0 csw.toArray rfl rfl (by simpa [hlenw] using hD.out) (by simpa using hiw) (all_oneCell_toArray honew) ?_
      refine ko hK (below_setCells _ (by omega) _ _ _ hH) fun hH => ?_; clear hK K
      refine wpAnyH_done (by kernel_rfl) ?_ _
      refine NoPanic.normal ?_
      go_wp2_with fail
      go_meet
      case rel => exact ⟨bw, L, rfl, HL, HLW, by rw [← HCW.out]; exact Ar.all_set hD.out hlenw, hLw, hH⟩
  case rest =>
    obtain ⟨bv, V0, rfl, HV0, HWV, AV, hbv, HX⟩ := hcut
    clear ct xt hst hi8
    have HM0 : Hid (Hs wc b st T bl k ∧ Gb wc ∧ ExtB b w wc) := ⟨HS.out.later HX.out, HG.out.later HX.out, HE.out.trans HX.out⟩
    have hsz : w.heap.size ≤ bv := Nat.le_trans HE.out.size hbv
    clear HS HG HE
    have hbv2 : bv < wc.heap.size := AV.out.lt (by decide)
    have hblk := HM0.out.1.block
    obtain ⟨_, _, hi64⟩ := bn64_cells7 HBL.out
    go_wp2_with (refine wpList_load_mid rfl 163 (.tmp 33) rfl b 9 rfl (List.map (Value.int .u8) bl) _ hblk Tryz.underlying163 rfl hi64 ?_)
    clear hblk hi64
    refine (read7_c bl HBL.out _).mono ?_
    rintro e V ⟨m, rfl, Hm, hWm, hb⟩
    replace HM0 : Hid (Hs V b st T bl k ∧ Gb V ∧ ExtB b w V) := ⟨HM0.out.1.later hb, HM0.out.2.1.later hb, HM0.out.2.2.trans hb⟩
    replace AV := hidp (AV.out.later hb)
    have HWm : Hid (Wn 16 m) := hWm
    have hbvV : bv < V.heap.size := AV.out.lt (by decide)
    have hsV : b < V.heap.size := HM0.out.1.lt
    clear hb hWm HX
    obtain ⟨hlen, hone, hi⟩ := ws_cells HWm.out
    obtain ⟨cs, hcs⟩ : ∃ cs, cs = (List.map (Value.int .u32) m) := ⟨_, rfl⟩
    have HC : Hid (cs = (List.map (Value.int .u32) m)) := hcs
    rw [← hcs] at hlen hone hi ⊢
    clear hcs
    have hth := there_new V 16 zw16 rfl 199
    go_upto_region 3 with (refine wpList_store_mid rfl 199 (.tmp 5) (.tmp 35) rfl V.heap.size 0 cs.toArray rfl rfl (by simpa [hlen] using hth) (by simpa using hi) (all_oneCell_toArray hone) ?_)
    clear hth
    have AM : Hid (Ar ((V.alloc (.cells zw16 199)).setCells V.heap.size 0 cs) V.heap.size 16 cs) := ar_var V _ 16 rfl _ _ hlen
    have HX : Hid (Below V.heap.size V ((V.alloc (.cells zw16 199)).setCells V.heap.size 0 cs)) := bel_var _ _ _ _
    obtain ⟨W3, hW3⟩ : ∃ U, U = (V.alloc (.cells zw16 199)).setCells V.heap.size 0 cs := ⟨_, rfl⟩
    obtain ⟨bm, hbm⟩ : ∃ n, n = V.heap.size := ⟨_, rfl⟩
    rw [← hW3] at AM HX ⊢
    rw [← hbm] at AM hbvV hsV ⊢
    rw [HC.out] at AM
    have HM : Hid (Mp w b bv bm st T bl k V0 m W3) := ⟨HM0.out.1.later HX.out, AV.out.later HX.out, AM.out, HM0.out.2.1.later HX.out, HM0.out.2.2.trans HX.out⟩
    have hnv : b ≠ bv := by omega
    have hnb : b ≠ bm := by omega
    have hnm : bm ≠ bv := by omega
    have hg0 : 5 < bv := by omega
    have hg1 : 6 < bv := by omega
    clear hW3 hbm AM AV HM0 HX HC hlen hone hi
    obtain ⟨-, hi160⟩ := sg_cells
    have hsg : W3.rangeAt 6 0 sgL := HM.out.gb.sg
    go_wp2_with (refine wpList_load_mid rfl 202 (.global 6) rfl 6 0 rfl sgL _ hsg Tryz.underlying202 rfl hi160 ?_)
    clear hi160 hsg
    go_loopw [37] (fun i wr => ∃ (n : Nat) (v : List Int), n ≤ 10 ∧ i = .int .i64 n ∧ Hid (v = rs7 m V0 n) ∧ Hid (Wn 16 v) ∧ Hid (Mp w b bv bm st T bl k v m wr)) (fun i _ => 10 - (intOf i).toNat)
    case atStart => exact ⟨0, V0, by decide, rfl, rfl, HWV, HM⟩
    case round =>
      clear HM
      obtain ⟨n, v, hn, rfl, Hv, HWv, HM⟩ := hrel
      by_cases hlt : n < 10
      · have c1 : (n : Int) < 10 := by omega
        have hix := sg_row n hlt
        have hso := sg7_so n hlt
        obtain ⟨sr, HSR⟩ : ∃ s, Hid (s = sg7[n]!) := ⟨_, rfl⟩
        rw [← HSR.out] at hix hso
        have HSO : Hid (So sr) := hso
        clear hso
        obtain ⟨hlen, hone, hi⟩ := so_cells HSO.out
        obtain ⟨cs, hcs⟩ : ∃ cs, cs = List.map nb8 sr := ⟨_, rfl⟩
        have HC : Hid (cs = List.map nb8 sr) := hcs
        rw [← hcs] at hlen hone hi hix
        clear hcs
        have hth := there_new wr 16 zb16 rfl 122
        go_upto_region 6 with (refine wpList_store_mid rfl 122 (.tmp 7) (.tmp 39) rfl wr.heap.size 0 cs.toArray rfl rfl (by simpa [hlen] using hth) (by simpa using hi) (all_oneCell_toArray hone) ?_)
        clear hth hix
        have AO : Hid (Ar ((wr.alloc (.cells zb16 122)).setCells wr.heap.size 0 cs) wr.heap.size 16 cs) := ar_var wr _ 16 rfl _ _ hlen
        have HX : Hid (Below wr.heap.size wr ((wr.alloc (.cells zb16 122)).setCells wr.heap.size 0 cs)) := bel_var _ _ _ _
        obtain ⟨W5, hW5⟩ : ∃ U, U = (wr.alloc (.cells zb16 122)).setCells wr.heap.size 0 cs := ⟨_, rfl⟩
        obtain ⟨bo, hbo⟩ : ∃ n, n = wr.heap.size := ⟨_, rfl⟩
        rw [← hW5] at AO HX ⊢
        rw [← hbo] at AO ⊢
        rw [HC.out] at AO hi
        replace HM := hidp (HM.out.later HX.out)
        clear hW5 hbo HX HC hlen hone
        obtain ⟨_, _, hiw⟩ := ws_cells HWv.out
        obtain ⟨_, _, him⟩ := ws_cells HWm.out
        go_wp2_with (first
          | (refine wpList_load_mid rfl 199 (.tmp 4) rfl bv 0 rfl (List.map (Value.int .u32) v) _ HM.out.v.rng Tryz.underlying199 rfl hiw ?_)
          | (refine wpList_load_mid rfl 199 (.tmp 5) rfl bm 0 rfl (List.map (Value.int .u32) m) _ HM.out.m.rng Tryz.underlying199 rfl him ?_)
          | (refine wpList_load_mid rfl 122 (.tmp 7) rfl bo 0 rfl (List.map nb8 sr) _ AO.out.rng Tryz.underlying122 rfl hi ?_))
        clear hiw him hi AO
        refine (mixed_c v m sr HWv.out HWm.out HSO.out _).mono ?_
        rintro e V2 ⟨v', rfl, Hv', hWv', hb⟩
        replace HM := hidp (HM.out.later hb)
        have HWv' : Hid (Wn 16 v') := hWv'
        clear hb hWv'
        have HM' : Hid (Mp w b bv bm st T bl k v' m (V2.setCells bv 0 (List.map (Value.int .u32) v'))) := HM.out.setV hnv hnm hsz hg0 hg1 HWv'.out
        obtain ⟨hlen, hone, hi⟩ := ws_cells HWv'.out
        obtain ⟨cs, hcs⟩ : ∃ cs, cs = (List.map (Value.int .u32) v') := ⟨_, rfl⟩
        rw [← hcs] at hlen hone hi HM' ⊢
        have hth := HM.out.v.all
        clear hcs
        go_wp2_with (refine wpList_store_mid rfl 199 (.tmp 4) (.tmp 43) rfl bv 0 cs.toArray rfl rfl (by simpa [hlen] using hth) (by simpa using hi) (all_oneCell_toArray hone) ?_)
        clear hth
        go_roundw
        case rel => exact ⟨n + 1, v', by omega, by go_num, by unfold Hid; rw [rs7, ← Hv.out, ← HSR.out]; exact Hv'.out, HWv', by first | exact HM' | (unfold Hid; simpa using HM'.out)⟩
        case measure => simp [intOf]; omega
      · have e : n = 10 := by omega
        subst e
        clear hlt hn
        obtain ⟨N, HN⟩ : ∃ l, Hid (l = px7 st v) := ⟨_, rfl⟩
        have HNW : Hid (Wn 8 N) := by unfold Hid; rw [HN.out]; exact px7_w HW.out HWv.out
        have hNl := HNW.out.len
        have hsl := HW.out.len
        replace HM : Hid (Mp w b bv bm (mk7 N st 0) T bl k v m wr) := by unfold Hid; rw [mk7_zero]; exact HM.out
        go_wp2
        go_loopw [45] (fun i wr => ∃ n : Nat, n ≤ 8 ∧ i = .int .i64 n ∧ Hid (Mp w b bv bm (mk7 N st n) T bl k v m wr)) (fun i _ => 8 - (intOf i).toNat)
        case atStart => exact ⟨0, by decide, rfl, HM⟩
        case round =>
          clear HM
          obtain ⟨n, hn, rfl, HM⟩ := hrel
          by_cases hlt : n < 8
          · have c1 : (n : Int) < 8 := by omega
            obtain ⟨x, cx, fx, rx, HXx⟩ := HM.out.h.word n hlt
            rw [mk7_get_old (Nat.le_refl n) (by omega) (by omega)] at HXx
            obtain ⟨y, cy, -, ry, HY⟩ := wn_word HM.out.v HWv.out n (by omega)
            obtain ⟨z, cz, -, rz, HZ⟩ := wn_word HM.out.v HWv.out (n + 8) (by omega)
            have hw8 : IntKind.i64.wrap ((n : Int) + 8) = (n : Int) + 8 := by rw [IntKind.wrap_i64]; omega
            have hn8 : ((n : Int) + 8).toNat = n + 8 := by omega
            have c2 : (n : Int) < 16 := by omega
            have c3 : (n : Int) + 8 < 16 := by omega
            have c4 : 0 ≤ (n : Int) + 8 := by omega
            have xx : ∀ u, Ext wr u → u.cell? ⟨b, n, none⟩ = some (.int .u32 x) := fun u hu => hu.cell cx
            have xy : ∀ u, Ext wr u → u.cell? ⟨bv, n, none⟩ = some (.int .u32 y) := fun u hu => hu.cell cy
            have xz : ∀ u, Ext wr u → u.cell? ⟨bv, n + 8, none⟩ = some (.int .u32 z) := fun u hu => hu.cell cz
            go_upto_region 11 with fail
            refine wp_region_noPanic ?_
            refine wp_region_two (k := 18) (Ext wr) (ExtB b wr) (by kernel_rfl) (Ext.refl _).drew (fun hH => ?_)
            change wpAnyK _ _ _ _ _ _ _ _ #[false, false, false, false, false, false, false, false, false, false, false, false, false, false, false, false, false, false, false] _ _
            refine tna 0 ?_
            refine tna 1 ?_
            refine tna 2 ?_
            refine tna 3 ?_
            refine tna 4 ?_
            refine tna 5 ?_ (hy := by (intro u hu; (have hx := xx u hu; go_simp) <;> with_reducible rfl))
            refine tna 6 ?_
            refine tna 7 ?_
            refine tna 8 ?_ (hy := by (intro u hu; (have hx := xy u hu; go_simp) <;> with_reducible rfl))
            refine tna 9 ?_
            refine tna 10 ?_
            refine tna 11 ?_
            refine tna 12 ?_ (hy := by (intro u hu; (have hx := xz u hu; go_simp) <;> with_reducible rfl))
            refine tna 13 ?_
            refine tna 14 ?_
            refine tnk 15 (fun _ h => h.extB _) ?_
            refine tnk 16 (fun _ h => h.extB _) ?_
            refine tna 17 ?_
            clear xx xy xz
            refine rdl 18 (fun K hK => ?_)
            go_simp
            refine ko hK ((hH.extB _).set n _) fun hH => ?_; clear hK K
            refine wpAnyH_done (by kernel_rfl) ?_ _
            refine NoPanic.normal ?_
            have HM' : Hid (Mp w b bv bm (mk7 N st (n + 1)) T bl k v m (wr.setCell ⟨b, n, none⟩ (.int .u32 (xr7 x (xr7 y z)))).drew) := by
              have := (HM.out.setSt hnv hnb g0 g1 n hlt (xr7_w rx (xr7_w ry rz))).later (Below.refl _ _).drew
              rw [mk7_set (by omega) (by omega) (by rw [HN.out, px7_at HW.out HWv.out n hlt, HXx.out, HY.out, HZ.out])] at this
              exact this
            clear HM cx fx cy cz hw8 hn8
            go_wp2
            go_roundw
            case rel => (repeat apply Exists.intro); exact ⟨⟨n + 1, by omega, by go_num, HM'⟩, rfl⟩
            case measure => simp [intOf]; omega
          · have e : n = 8 := by omega
            subst e
            rw [mk7_all (by omega) 8 hNl.symm] at HM
            clear hlt hn
            go_upto_region 14 with (refine wpList_store_mid rfl 163 (.tmp 70) (.tmp 68) rfl b 9 (List.map (Value.int .u8) (List.replicate 64 0)).toArray rfl rfl (by simpa using HM.out.h.blockThere) (by kernel_rfl) (all_oneCell_toArray (bytes_oneCell _)) ?_)
            have HH : Hid (Hs (wr.setCells b 9 (List.map (Value.int .u8) (List.replicate 64 0))) b N T (List.replicate 64 0) k) := HM.out.h.setBl _ ⟨List.length_replicate, byt_zero7 64⟩
            have HE : Hid (ExtB b w (wr.setCells b 9 (List.map (Value.int .u8) (List.replicate 64 0)))) := extB_setCells _ _ _ HM.out.ext
            clear HM
            obtain ⟨W9, hW9⟩ : ∃ U, U = wr.setCells b 9 (List.map (Value.int .u8) (List.replicate 64 0)) := ⟨_, rfl⟩
            rw [← hW9] at HH HE ⊢
            clear hW9
            obtain ⟨ck, fk⟩ := HH.out.held
            go_wp2
            go_end0
            refine ⟨rfl, ?_, HE.out.set 73 _⟩
            unfold Hid
            rw [pr7_eq, ← HT.out, ← HV0.out, ← Hm.out, ← Hv.out, ← HN.out]
            exact HH.out.setK (by decide)
end Go.Proofs.YtlnbjehimabaiaaGreatDoor
