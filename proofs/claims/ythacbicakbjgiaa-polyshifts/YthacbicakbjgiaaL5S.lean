/-
  PolyShifts' walk. No statement of the seat is proved here.
-/
import Derived.Test.YthacbicakbjgiaaPLaw
namespace Go.Proofs.Ythacbicakbjgiaa
open Go.RowKit

set_option maxRecDepth 8000 in
set_option maxHeartbeats 8000000 in
theorem polyShifts_walk (key : List Int) (ad : Option Addr) (len cap : Nat) (text more : List Int) (hk : Bn 32 key) (hm : len ≤ 140737488351232) (hmo : Bn 16 more) (w : World) (hr : Rd w ad len cap text) :
    Calls Try.prog 5 #[(.agg (List.map (Value.int .u8) key).toArray), .slice ad len cap, (.agg (List.map (Value.int .u8) more).toArray)] w fun e w' => e = .returned (.bool true) ∧ Below w.heap.size w w' := by
  have HK : Hid (Bn 32 key) := hk
  have HM : Hid (Bn 16 more) := hmo
  have HR : Hid (Rd w ad len cap text) := hr
  clear hk hmo hr
  obtain ⟨_, _, hiK⟩ := bn32_cells HK.out
  go_enter Try.func5, Try.ntmps5
  go_upto_region 1 with fail
  have AK : Hid (Ar ((w.alloc (.cells (List.map (Value.int .u8) key).toArray 22)).alloc (.cells (List.map (Value.int .u8) more).toArray 23)) w.heap.size 32 (List.map (Value.int .u8) key)) := (ar_box w _ 32 HK.out.map_len _).later (bel1 _ _)
  have AM : Hid (Ar ((w.alloc (.cells (List.map (Value.int .u8) key).toArray 22)).alloc (.cells (List.map (Value.int .u8) more).toArray 23)) (w.heap.size + 1) 16 (List.map (Value.int .u8) more)) := by have := ar_box (w.alloc (.cells (List.map (Value.int .u8) key).toArray 22)) (List.map (Value.int .u8) more) 16 HM.out.map_len 23; simpa [Hid] using this
  have HB : Hid (Below w.heap.size w ((w.alloc (.cells (List.map (Value.int .u8) key).toArray 22)).alloc (.cells (List.map (Value.int .u8) more).toArray 23))) := bel2 _ _ _
  generalize ((w.alloc (.cells (List.map (Value.int .u8) key).toArray 22)).alloc (.cells (List.map (Value.int .u8) more).toArray 23)) = W at *
  have k1 : w.heap.size < w.heap.size + 1 := by omega
  generalize w.heap.size + 1 = b5 at *
  go_wp2_with (refine wpList_load_mid rfl 22 (.tmp 3) rfl w.heap.size 0 rfl (List.map (Value.int .u8) key) _ AK.out.rng Try.underlying22 rfl hiK ?_)
  refine (tag_c ad len cap key text HK.out _ (HR.out.below HB.out) hm).mono ?_
  rintro e V1 ⟨T, rfl, HT, hT, hb⟩
  have HTn : Hid (Bn 16 T) := hT
  replace AK : Hid (Ar V1 w.heap.size 32 (List.map (Value.int .u8) key)) := AK.out.later hb
  replace AM : Hid (Ar V1 b5 16 (List.map (Value.int .u8) more)) := AM.out.later hb
  replace HB : Hid (Below w.heap.size w V1) := HB.out.trans (hb.mono HB.out.size)
  have hb5 : b5 < V1.heap.size := AM.out.lt (by decide)
  clear hb hT
  obtain ⟨hlen7, hone7, hi7⟩ := bn16_cells HTn.out
  obtain ⟨cs7, hcs⟩ : ∃ cs, cs = (List.map (Value.int .u8) T) := ⟨_, rfl⟩
  rw [← hcs] at hlen7 hone7 hi7 ⊢
  have HC7 : Hid (cs7 = (List.map (Value.int .u8) T)) := hcs
  clear hcs
  have hth := there_new V1 16 #[.int .u8 0, .int .u8 0, .int .u8 0, .int .u8 0, .int .u8 0, .int .u8 0, .int .u8 0, .int .u8 0, .int .u8 0, .int .u8 0, .int .u8 0, .int .u8 0, .int .u8 0, .int .u8 0, .int .u8 0, .int .u8 0] rfl 23
  have A7 : Hid (Ar ((V1.alloc (.cells #[.int .u8 0, .int .u8 0, .int .u8 0, .int .u8 0, .int .u8 0, .int .u8 0, .int .u8 0, .int .u8 0, .int .u8 0, .int .u8 0, .int .u8 0, .int .u8 0, .int .u8 0, .int .u8 0, .int .u8 0, .int .u8 0] 23)).setCells V1.heap.size 0 cs7) V1.heap.size 16 cs7) := ar_var _ _ 16 rfl _ _ hlen7
  have hX : Below V1.heap.size V1 ((V1.alloc (.cells #[.int .u8 0, .int .u8 0, .int .u8 0, .int .u8 0, .int .u8 0, .int .u8 0, .int .u8 0, .int .u8 0, .int .u8 0, .int .u8 0, .int .u8 0, .int .u8 0, .int .u8 0, .int .u8 0, .int .u8 0, .int .u8 0] 23)).setCells V1.heap.size 0 cs7) := bel_var _ _ _ _
  have HX : Hid (Below V1.heap.size V1 ((V1.alloc (.cells #[.int .u8 0, .int .u8 0, .int .u8 0, .int .u8 0, .int .u8 0, .int .u8 0, .int .u8 0, .int .u8 0, .int .u8 0, .int .u8 0, .int .u8 0, .int .u8 0, .int .u8 0, .int .u8 0, .int .u8 0, .int .u8 0] 23)).setCells V1.heap.size 0 cs7)) := hX
  clear hX
  have hbb7 : w.heap.size ≤ V1.heap.size := HB.out.size
  replace HB : Hid (Below w.heap.size w ((V1.alloc (.cells #[.int .u8 0, .int .u8 0, .int .u8 0, .int .u8 0, .int .u8 0, .int .u8 0, .int .u8 0, .int .u8 0, .int .u8 0, .int .u8 0, .int .u8 0, .int .u8 0, .int .u8 0, .int .u8 0, .int .u8 0, .int .u8 0] 23)).setCells V1.heap.size 0 cs7)) := HB.out.trans (HX.out.mono HB.out.size)
  replace AK : Hid (Ar ((V1.alloc (.cells #[.int .u8 0, .int .u8 0, .int .u8 0, .int .u8 0, .int .u8 0, .int .u8 0, .int .u8 0, .int .u8 0, .int .u8 0, .int .u8 0, .int .u8 0, .int .u8 0, .int .u8 0, .int .u8 0, .int .u8 0, .int .u8 0] 23)).setCells V1.heap.size 0 cs7) w.heap.size 32 (List.map (Value.int .u8) key)) := AK.out.later HX.out
  replace AM : Hid (Ar ((V1.alloc (.cells #[.int .u8 0, .int .u8 0, .int .u8 0, .int .u8 0, .int .u8 0, .int .u8 0, .int .u8 0, .int .u8 0, .int .u8 0, .int .u8 0, .int .u8 0, .int .u8 0, .int .u8 0, .int .u8 0, .int .u8 0, .int .u8 0] 23)).setCells V1.heap.size 0 cs7) b5 16 (List.map (Value.int .u8) more)) := AM.out.later HX.out
  clear HX
  go_upto_region 2 with (refine wpList_store_mid rfl 23 (.tmp 7) (.tmp 14) rfl (V1.heap.size) 0 cs7.toArray rfl rfl (by simpa [hlen7] using hth) (by simpa using hi7) (all_oneCell_toArray hone7) ?_)
  clear hth
  generalize (V1.alloc (.cells #[.int .u8 0, .int .u8 0, .int .u8 0, .int .u8 0, .int .u8 0, .int .u8 0, .int .u8 0, .int .u8 0, .int .u8 0, .int .u8 0, .int .u8 0, .int .u8 0, .int .u8 0, .int .u8 0, .int .u8 0, .int .u8 0] 23)).setCells V1.heap.size 0 cs7 = W1 at *
  generalize V1.heap.size = b7 at *
  go_wp2
  obtain ⟨x, hx⟩ : ∃ x, x = key.drop 16 := ⟨_, rfl⟩
  have HX : Hid (x = key.drop 16) := hx
  have HXL : Hid (x.length = 16) := by unfold Hid; rw [hx, List.length_drop, HK.out.len]
  have HXB : Hid (Byt x) := by unfold Hid; rw [hx]; exact HK.out.byt.drop 16
  have HTL : Hid ((key.take 16).length = 16) := by unfold Hid; rw [List.length_take, HK.out.len]; rfl
  clear hx
  obtain ⟨Z, hZ⟩ : ∃ Z, Z = addL x more 0 := ⟨_, rfl⟩
  have HZ : Hid (Z = addL x more 0) := hZ
  have HZL : Hid (Z.length = 16) := by unfold Hid; rw [hZ, addL_lay _ _ _ (by rw [HXL.out, HM.out.len]), lay_length]; exact HXL.out
  have HZB : Hid (Byt Z) := by unfold Hid; rw [hZ, addL_lay _ _ _ (by rw [HXL.out, HM.out.len])]; exact lay_byt _ _
  clear hZ
  have AC : Hid (Ar W1 w.heap.size 32 (List.map (Value.int .u8) (key.take 16 ++ (Z.take 0 ++ x.drop 0)))) := by
    unfold Hid
    rw [List.take_zero, List.nil_append, List.drop_zero, HX.out, List.take_append_drop]
    exact AK.out
  clear AK
  go_loopw [8, 9] (fun c i wr => ∃ (j : Nat) (cc : Int), j ≤ 16 ∧ i = .int .i64 j ∧ c = .int .i64 cc ∧ 0 ≤ cc ∧ cc ≤ 1 ∧ Hid (addL (x.drop j) (more.drop j) cc = Z.drop j) ∧ Hid (Ar wr w.heap.size 32 (List.map (Value.int .u8) (key.take 16 ++ (Z.take j ++ x.drop j)))) ∧ Hid (Ar wr b5 16 (List.map (Value.int .u8) more)) ∧ Hid (Ar wr b7 16 cs7) ∧ Hid (Below w.heap.size w wr)) (fun _ i _ => 16 - (intOf i).toNat)
  case atStart => exact ⟨0, 0, by decide, rfl, rfl, by decide, by decide, by rw [List.drop_zero, List.drop_zero, List.drop_zero]; exact HZ.out.symm, AC, AM, A7, HB⟩
  case round =>
    clear AC AM A7 HB
    obtain ⟨j, cc, hj, rfl, rfl, hc0, hc1, HA, AC, AM, A7, HB⟩ := hrel
    by_cases hlt : j < 16
    · have g1 : (j : Int) < 16 := by omega
      have lx : j < x.length := by rw [HXL.out]; exact hlt
      have lm : j < more.length := by rw [HM.out.len]; exact hlt
      have lz : j ≤ Z.length := by rw [HZL.out]; omega
      obtain ⟨z, hz, hz2, hnext⟩ := addL_drop x more Z j cc lx lm HA.out
      have hxb := HXB.out _ (List.getElem_mem lx)
      have hmb := HM.out.byt _ (List.getElem_mem lm)
      have ck : wr.cell? ⟨w.heap.size, 16 + j, none⟩ = some (.int .u8 x[j]) ∧ wr.frozen? ⟨w.heap.size, 16 + j, none⟩ = false := by
        have h := AC.out.cell (16 + j) (by omega)
        refine ⟨?_, h.2⟩
        rw [h.1, List.getElem_map]
        congr 2
        have e : (key.take 16 ++ (Z.take j ++ x.drop j))[16 + j]? = some x[j] := by
          rw [List.getElem?_append_right (by rw [HTL.out]; omega), HTL.out, show 16 + j - 16 = j by omega]; exact half2_at Z x j lz lx
        rw [List.getElem?_eq_getElem (by have := AC.out.len; rw [List.length_map] at this; omega)] at e
        exact Option.some.inj e
      obtain ⟨ck, fk⟩ := ck
      have cm : wr.cell? ⟨b5, j, none⟩ = some (.int .u8 more[j]) := by
        have h := AM.out.cell j hlt
        rw [h.1, List.getElem_map]
      have HNX : Hid (addL (x.drop (j + 1)) (more.drop (j + 1)) ((cc + x[j] + more[j]) / 256) = Z.drop (j + 1)) := hnext
      have HZj : Hid (Z[j]? = some z) := hz
      clear hnext hz HA
      generalize x[j] = xj at *
      generalize more[j] = mj at *
      obtain ⟨q0, hq0⟩ : ∃ q, q = (cc + xj + mj) / 256 := ⟨_, rfl⟩
      rw [← hq0] at HNX
      have hq1 : IntKind.u8.wrap (cc + xj + mj) = z := by rw [IntKind.wrap_u8, hz2]
      have hq2 : Int.tdiv (cc + xj + mj) 256 = q0 := by rw [Int.tdiv_eq_ediv_of_nonneg (by omega), hq0]
      have hq3 : 0 ≤ q0 ∧ q0 ≤ 1 := by omega
      have hzb : 0 ≤ z ∧ z ≤ 255 := by omega
      obtain ⟨hx0, hx1⟩ := hxb
      obtain ⟨hm0, hm1⟩ := hmb
      obtain ⟨hq30, hq31⟩ := hq3
      have htn : (16 + (j : Int)).toNat = 16 + j := by omega
      have hlt2 : 16 + (j : Int) < 32 := by omega
      have hdr : Below wr.heap.size wr (wr.drewN 0) := belowN (Below.refl _ _) 0
      clear hdr hq0 hz2
      go_upto_region 6 with fail
      go_quiet (fail)
      go_wp2
      go_roundw
      case rel => exact ⟨j + 1, q0, by omega, by go_num, rfl, hq30, hq31, HNX, by
        have := (AC.out.later (belowN (Below.refl _ _) nq)).set (16 + j) (by omega) (.int .u8 z)
        rw [← List.map_set] at this
        rw [List.set_append_right _ _ (by rw [HTL.out]; omega), HTL.out, show 16 + j - 16 = j by omega, half2_set Z x j z HZj.out lx] at this
        exact this, (AM.out.later (belowN (Below.refl _ _) nq)).else _ _ (by omega) _, (A7.out.later (belowN (Below.refl _ _) nq)).else _ _ (by omega) _, (belowN HB.out nq).setCell (p := ⟨w.heap.size, 16 + j, none⟩) (by dsimp only; omega) _⟩
      case measure => simp [intOf]; omega
    · have e : j = 16 := by omega
      subst e
      have HK2 : Hid (Bn 32 (key.take 16 ++ (Z.take 16 ++ x.drop 16))) := ⟨by rw [List.length_append, HTL.out, List.length_append, List.length_take, HZL.out, List.length_drop, HXL.out]; rfl, (HK.out.byt.take 16).app ((HZB.out.take 16).app (HXB.out.drop 16))⟩
      have HE2 : Hid (key.take 16 ++ (Z.take 16 ++ x.drop 16) = (key.take 16 ++ addL (key.drop 16) more 0)) := by
        unfold Hid
        have e1 : Z.take 16 = Z := List.take_of_length_le (by rw [HZL.out]; decide)
        have e2 : x.drop 16 = [] := List.drop_eq_nil_of_le (by rw [HXL.out]; decide)
        rw [e1, e2, List.append_nil, HZ.out, HX.out]
      obtain ⟨_, _, hiK2⟩ := bn32_cells HK2.out
      generalize key.take 16 ++ (Z.take 16 ++ x.drop 16) = key2 at *
      clear HA
      go_wp2_with (refine wpList_load_mid rfl 22 (.tmp 3) rfl w.heap.size 0 rfl (List.map (Value.int .u8) key2) _ AC.out.rng Try.underlying22 rfl hiK2 ?_)
      refine (tag_c ad len cap key2 text HK2.out _ (HR.out.below HB.out) hm).mono ?_
      rintro e V2 ⟨T2, rfl, HT2, hT2, hb⟩
      have HTn2 : Hid (Bn 16 T2) := hT2
      replace AM : Hid (Ar V2 b5 16 (List.map (Value.int .u8) more)) := AM.out.later hb
      replace A7 : Hid (Ar V2 b7 16 cs7) := A7.out.later hb
      replace HB : Hid (Below w.heap.size w V2) := HB.out.trans (hb.mono HB.out.size)
      have hb7 : b7 < V2.heap.size := A7.out.lt (by decide)
      have hb5' : b5 < V2.heap.size := AM.out.lt (by decide)
      clear hb hT2 AC
      obtain ⟨hlen9, hone9, hi9⟩ := bn16_cells HTn2.out
      obtain ⟨cs9, hcs⟩ : ∃ cs, cs = (List.map (Value.int .u8) T2) := ⟨_, rfl⟩
      rw [← hcs] at hlen9 hone9 hi9 ⊢
      have HC9 : Hid (cs9 = (List.map (Value.int .u8) T2)) := hcs
      clear hcs
      have hth := there_new V2 16 #[.int .u8 0, .int .u8 0, .int .u8 0, .int .u8 0, .int .u8 0, .int .u8 0, .int .u8 0, .int .u8 0, .int .u8 0, .int .u8 0, .int .u8 0, .int .u8 0, .int .u8 0, .int .u8 0, .int .u8 0, .int .u8 0] rfl 23
      have A9 : Hid (Ar ((V2.alloc (.cells #[.int .u8 0, .int .u8 0, .int .u8 0, .int .u8 0, .int .u8 0, .int .u8 0, .int .u8 0, .int .u8 0, .int .u8 0, .int .u8 0, .int .u8 0, .int .u8 0, .int .u8 0, .int .u8 0, .int .u8 0, .int .u8 0] 23)).setCells V2.heap.size 0 cs9) V2.heap.size 16 cs9) := ar_var _ _ 16 rfl _ _ hlen9
      have hX : Below V2.heap.size V2 ((V2.alloc (.cells #[.int .u8 0, .int .u8 0, .int .u8 0, .int .u8 0, .int .u8 0, .int .u8 0, .int .u8 0, .int .u8 0, .int .u8 0, .int .u8 0, .int .u8 0, .int .u8 0, .int .u8 0, .int .u8 0, .int .u8 0, .int .u8 0] 23)).setCells V2.heap.size 0 cs9) := bel_var _ _ _ _
      have HX : Hid (Below V2.heap.size V2 ((V2.alloc (.cells #[.int .u8 0, .int .u8 0, .int .u8 0, .int .u8 0, .int .u8 0, .int .u8 0, .int .u8 0, .int .u8 0, .int .u8 0, .int .u8 0, .int .u8 0, .int .u8 0, .int .u8 0, .int .u8 0, .int .u8 0, .int .u8 0] 23)).setCells V2.heap.size 0 cs9)) := hX
      clear hX
      have hbb9 : w.heap.size ≤ V2.heap.size := HB.out.size
      replace HB : Hid (Below w.heap.size w ((V2.alloc (.cells #[.int .u8 0, .int .u8 0, .int .u8 0, .int .u8 0, .int .u8 0, .int .u8 0, .int .u8 0, .int .u8 0, .int .u8 0, .int .u8 0, .int .u8 0, .int .u8 0, .int .u8 0, .int .u8 0, .int .u8 0, .int .u8 0] 23)).setCells V2.heap.size 0 cs9)) := HB.out.trans (HX.out.mono HB.out.size)
      replace A7 : Hid (Ar ((V2.alloc (.cells #[.int .u8 0, .int .u8 0, .int .u8 0, .int .u8 0, .int .u8 0, .int .u8 0, .int .u8 0, .int .u8 0, .int .u8 0, .int .u8 0, .int .u8 0, .int .u8 0, .int .u8 0, .int .u8 0, .int .u8 0, .int .u8 0] 23)).setCells V2.heap.size 0 cs9) b7 16 cs7) := A7.out.later HX.out
      replace AM : Hid (Ar ((V2.alloc (.cells #[.int .u8 0, .int .u8 0, .int .u8 0, .int .u8 0, .int .u8 0, .int .u8 0, .int .u8 0, .int .u8 0, .int .u8 0, .int .u8 0, .int .u8 0, .int .u8 0, .int .u8 0, .int .u8 0, .int .u8 0, .int .u8 0] 23)).setCells V2.heap.size 0 cs9) b5 16 (List.map (Value.int .u8) more)) := AM.out.later HX.out
      clear HX
      go_upto_region 10 with (refine wpList_store_mid rfl 23 (.tmp 10) (.tmp 40) rfl (V2.heap.size) 0 cs9.toArray rfl rfl (by simpa [hlen9] using hth) (by simpa using hi9) (all_oneCell_toArray hone9) ?_)
      clear hth
      generalize (V2.alloc (.cells #[.int .u8 0, .int .u8 0, .int .u8 0, .int .u8 0, .int .u8 0, .int .u8 0, .int .u8 0, .int .u8 0, .int .u8 0, .int .u8 0, .int .u8 0, .int .u8 0, .int .u8 0, .int .u8 0, .int .u8 0, .int .u8 0] 23)).setCells V2.heap.size 0 cs9 = W2 at *
      generalize V2.heap.size = b9 at *
      go_wp2
      clear HZ HZL HZB HXL HXB HX HTL
      obtain ⟨Z, hZ⟩ : ∃ Z, Z = addL T more 0 := ⟨_, rfl⟩
      have HZ : Hid (Z = addL T more 0) := hZ
      have HXL : Hid (T.length = 16) := HTn.out.len
      have HXB : Hid (Byt T) := HTn.out.byt
      have HZL : Hid (Z.length = 16) := by unfold Hid; rw [hZ, addL_lay _ _ _ (by rw [HXL.out, HM.out.len]), lay_length]; exact HXL.out
      have HZB : Hid (Byt Z) := by unfold Hid; rw [hZ, addL_lay _ _ _ (by rw [HXL.out, HM.out.len])]; exact lay_byt _ _
      clear hZ
      have AC : Hid (Ar W2 b7 16 (List.map (Value.int .u8) (Z.take 0 ++ T.drop 0))) := by
        unfold Hid
        rw [List.take_zero, List.nil_append, List.drop_zero, ← HC7.out]
        exact A7.out
      clear A7
      have A9 := A9
      go_loopw [8, 11] (fun c i wr => ∃ (j : Nat) (cc : Int), j ≤ 16 ∧ i = .int .i64 j ∧ c = .int .i64 cc ∧ 0 ≤ cc ∧ cc ≤ 1 ∧ Hid (addL (T.drop j) (more.drop j) cc = Z.drop j) ∧ Hid (Ar wr b7 16 (List.map (Value.int .u8) (Z.take j ++ T.drop j))) ∧ Hid (Ar wr b5 16 (List.map (Value.int .u8) more)) ∧ Hid (Ar wr b9 16 cs9) ∧ Hid (Below w.heap.size w wr)) (fun _ i _ => 16 - (intOf i).toNat)
      case atStart => exact ⟨0, 0, by decide, rfl, rfl, by decide, by decide, by rw [List.drop_zero, List.drop_zero, List.drop_zero]; exact HZ.out.symm, AC, AM, A9, HB⟩
      case round =>
        clear AC AM A9 HB
        obtain ⟨j, cc, hj, rfl, rfl, hc0, hc1, HA, AC, AM, A9, HB⟩ := hrel
        by_cases hlt : j < 16
        · have g1 : (j : Int) < 16 := by omega
          have lx : j < T.length := by rw [HXL.out]; exact hlt
          have lm : j < more.length := by rw [HM.out.len]; exact hlt
          have lz : j ≤ Z.length := by rw [HZL.out]; omega
          obtain ⟨z, hz, hz2, hnext⟩ := addL_drop T more Z j cc lx lm HA.out
          have hxb := HXB.out _ (List.getElem_mem lx)
          have hmb := HM.out.byt _ (List.getElem_mem lm)
          have ck : wr.cell? ⟨b7, j, none⟩ = some (.int .u8 T[j]) ∧ wr.frozen? ⟨b7, j, none⟩ = false := by
            have h := AC.out.cell (j) (by omega)
            refine ⟨?_, h.2⟩
            rw [h.1, List.getElem_map]
            congr 2
            have e : (Z.take j ++ T.drop j)[j]? = some T[j] := by
              exact half2_at Z T j lz lx
            rw [List.getElem?_eq_getElem (by have := AC.out.len; rw [List.length_map] at this; omega)] at e
            exact Option.some.inj e
          obtain ⟨ck, fk⟩ := ck
          have cm : wr.cell? ⟨b5, j, none⟩ = some (.int .u8 more[j]) := by
            have h := AM.out.cell j hlt
            rw [h.1, List.getElem_map]
          have HNX : Hid (addL (T.drop (j + 1)) (more.drop (j + 1)) ((cc + T[j] + more[j]) / 256) = Z.drop (j + 1)) := hnext
          have HZj : Hid (Z[j]? = some z) := hz
          clear hnext hz HA
          generalize T[j] = xj at *
          generalize more[j] = mj at *
          obtain ⟨q0, hq0⟩ : ∃ q, q = (cc + xj + mj) / 256 := ⟨_, rfl⟩
          rw [← hq0] at HNX
          have hq1 : IntKind.u8.wrap (cc + xj + mj) = z := by rw [IntKind.wrap_u8, hz2]
          have hq2 : Int.tdiv (cc + xj + mj) 256 = q0 := by rw [Int.tdiv_eq_ediv_of_nonneg (by omega), hq0]
          have hq3 : 0 ≤ q0 ∧ q0 ≤ 1 := by omega
          have hzb : 0 ≤ z ∧ z ≤ 255 := by omega
          obtain ⟨hx0, hx1⟩ := hxb
          obtain ⟨hm0, hm1⟩ := hmb
          obtain ⟨hq30, hq31⟩ := hq3
          have htn : (j : Int).toNat = j := by omega
          have hlt2 : (j : Int) < 16 := by omega
          have hdr : Below wr.heap.size wr (wr.drewN 0) := belowN (Below.refl _ _) 0
          clear hdr hq0 hz2
          go_upto_region 14 with fail
          go_quiet (fail)
          go_wp2
          go_roundw
          case rel => exact ⟨j + 1, q0, by omega, by go_num, rfl, hq30, hq31, HNX, by
            have := (AC.out.later (belowN (Below.refl _ _) nq)).set (j) (by omega) (.int .u8 z)
            rw [← List.map_set] at this
            rw [half2_set Z T j z HZj.out lx] at this
            exact this, (AM.out.later (belowN (Below.refl _ _) nq)).else _ _ (by omega) _, (A9.out.later (belowN (Below.refl _ _) nq)).else _ _ (by omega) _, (belowN HB.out nq).setCell (p := ⟨b7, j, none⟩) (by dsimp only; omega) _⟩
          case measure => simp [intOf]; omega
        · have e : j = 16 := by omega
          subst e
          have HE3 : Hid (Z.take 16 ++ T.drop 16 = T2) := by
            unfold Hid
            have e1 : Z.take 16 = Z := List.take_of_length_le (by rw [HZL.out]; decide)
            have e2 : T.drop 16 = [] := List.drop_eq_nil_of_le (by rw [HXL.out]; decide)
            rw [e1, e2, List.append_nil, HZ.out, HT2.out, HE2.out, HT.out]
            exact (tg_shift key more text HK.out HM.out).symm
          rw [HE3.out] at AC
          clear HA AM
          go_wp2_with fail
          refine (known5_any _).mono ?_
          rintro e W4 ⟨rfl, hb⟩
          replace HB : Hid (Below w.heap.size w W4) := HB.out.trans (hb.mono HB.out.size)
          replace A9 : Hid (Ar W4 b9 16 cs9) := A9.out.later hb
          replace AC : Hid (Ar W4 b7 16 cs9) := by unfold Hid; rw [HC9.out]; exact AC.out.later hb
          clear hb
          have heq : ∀ u, Sem.run Try.prog (binOp .eql 23 (.agg cs9.toArray) (.agg cs9.toArray)) u = .ok (.bool true) u := fun u => by
            rw [HC9.out]
            exact eql16 T2 T2 HTn2.out rfl u
          go_wp2_with (first
            | (refine wpList_load_want (by rfl) 23 (.tmp 7) rfl b7 0 rfl cs9 _ AC.out.rng Try.underlying23 rfl hi9 ?_)
            | (refine wpList_load_want (by rfl) 23 (.tmp 10) rfl b9 0 rfl cs9 _ A9.out.rng Try.underlying23 rfl hi9 ?_))
          go_ret
          exact ⟨rfl, HB.out⟩
end Go.Proofs.Ythacbicakbjgiaa
