/-
  What the reference's TagOf does. No statement of the seat is proved here.
-/
import Derived.Test.YtjmdgmbkkkoamaaDoorPk36
namespace Go.Proofs.YtjmdgmbkkkoamaaDoor
open Go.RowKit

set_option maxRecDepth 8000 in
theorem made_app {ad H X1 X2 : List Int} {la lh : Nat} (h1 : X1 = ad ++ List.replicate (fl6 ad.length) 0) (h2 : X2 = H ++ List.replicate (fl6 H.length) 0) (ha : ad.length = la) (hh : H.length = lh) : ((X1 ++ X2) ++ lay 8 (la : Int)) ++ lay 8 (lh : Int) = mt6 ad H := by
  unfold mt6 ml6
  rw [h1, h2, ha, hh]
  simp only [List.flatten_cons, List.flatten_nil, List.append_assoc, List.append_nil]
set_option maxRecDepth 8000 in
set_option maxHeartbeats 8000000 in
theorem rtagof_c (key nonce : List Int) (aa : Option Addr) (la ca : Nat) (ad : List Int) (ah : Option Addr) (lh ch : Nat) (hid : List Int) (hk : Bn 32 key) (hn : Bn 12 nonce) (w : World) (hra : Rd w aa la ca ad) (hrh : Rd w ah lh ch hid) (hg : Gr w) (hm : la + lh + 46 ≤ 2097152) :
    Calls Tryd.prog 30 #[(.agg (List.map (Value.int .u8) key).toArray), (.agg (List.map (Value.int .u8) nonce).toArray), .slice aa la ca, .slice ah lh ch] w fun e w' => ∃ g X, e = .returned (.slice (some ⟨g, 0, none⟩) 16 16) ∧ Hid (X = tt6 key nonce ad hid) ∧ Hid (Rd w' (some ⟨g, 0, none⟩) 16 16 X) ∧ w.heap.size ≤ g ∧ Below w.heap.size w w' := by
  have HRA : Hid (Rd w aa la ca ad) := hra
  have HRH : Hid (Rd w ah lh ch hid) := hrh
  have HG : Hid (Gr w) := hg
  have HLA : Hid (ad.length = la) := hra.hlen
  have HLH : Hid (hid.length = lh) := hrh.hlen
  have HBA : Hid (Byt ad) := hra.byt
  have HBH : Hid (Byt hid) := hrh.byt
  clear hra hrh hg
  have hwa : IntKind.u64.wrap (la : Int) = (la : Int) := by rw [IntKind.wrap_u64]; omega
  have hwh : IntKind.u64.wrap (lh : Int) = (lh : Int) := by rw [IntKind.wrap_u64]; omega
  have HK : Hid (Bn 32 key) := hk
  have HN : Hid (Bn 12 nonce) := hn
  clear hk hn
  obtain ⟨_, _, hiK⟩ := bn32_cells HK.out
  obtain ⟨_, _, hiN⟩ := bn12_cells HN.out
  go_enter Tryd.func30, Tryd.ntmps30
  go_upto_region 1 with fail
  have AK : Hid (Ar ((w.alloc (.cells (List.map (Value.int .u8) key).toArray 27)).alloc (.cells (List.map (Value.int .u8) nonce).toArray 48)) w.heap.size 32 (List.map (Value.int .u8) key)) := (ar_box w _ 32 HK.out.map_len _).later (bel1 _ _)
  have AN : Hid (Ar ((w.alloc (.cells (List.map (Value.int .u8) key).toArray 27)).alloc (.cells (List.map (Value.int .u8) nonce).toArray 48)) (w.heap.size + 1) 12 (List.map (Value.int .u8) nonce)) := by have := (ar_box (w.alloc (.cells (List.map (Value.int .u8) key).toArray 27)) _ 12 HN.out.map_len 48); simpa [Hid] using this
  have HB : Hid (Below w.heap.size w ((w.alloc (.cells (List.map (Value.int .u8) key).toArray 27)).alloc (.cells (List.map (Value.int .u8) nonce).toArray 48))) := bel2 _ _ _
  generalize ((w.alloc (.cells (List.map (Value.int .u8) key).toArray 27)).alloc (.cells (List.map (Value.int .u8) nonce).toArray 48)) = W0 at *
  have k1 : w.heap.size < w.heap.size + 1 := by omega
  generalize hq1 : w.heap.size + 1 = q1 at *
  replace HRA : Hid (Rd W0 aa la ca ad) := HRA.out.below HB.out
  replace HRH : Hid (Rd W0 ah lh ch hid) := HRH.out.below HB.out
  replace HG : Hid (Gr W0) := HG.out.later HB.out
  go_wp2_with (first
  | (refine wpList_load_mid rfl 27 (.tmp 4) rfl w.heap.size 0 rfl (List.map (Value.int .u8) key) _ AK.out.rng Tryd.underlying27 rfl hiK ?_)
  | (refine wpList_load_mid rfl 48 (.tmp 5) rfl q1 0 rfl (List.map (Value.int .u8) nonce) _ AN.out.rng Tryd.underlying48 rfl hiN ?_))
  refine (rblock_c key 0 nonce HK.out ⟨by decide, by decide⟩ HN.out _ HG.out).mono ?_
  rintro e V ⟨B, rfl, HBk, hB, hb⟩
  have HBn : Hid (Bn 64 B) := hB
  clear hB AK AN hiK hiN
  replace HRA : Hid (Rd V aa la ca ad) := HRA.out.below hb
  replace HRH : Hid (Rd V ah lh ch hid) := HRH.out.below hb
  replace HG : Hid (Gr V) := HG.out.later hb
  replace HB : Hid (Below w.heap.size w V) := HB.out.trans (hb.mono HB.out.size)
  clear hb
  obtain ⟨hlen9, hone9, hi9⟩ := bn64_cells HBn.out
  obtain ⟨cs9, hcs⟩ : ∃ cs, cs = (List.map (Value.int .u8) B) := ⟨_, rfl⟩
  rw [← hcs] at hlen9 hone9 hi9 ⊢
  have HC9 : Hid (cs9 = (List.map (Value.int .u8) B)) := hcs
  clear hcs
  have hth := there_new V 64 #[.int .u8 0, .int .u8 0, .int .u8 0, .int .u8 0, .int .u8 0, .int .u8 0, .int .u8 0, .int .u8 0, .int .u8 0, .int .u8 0, .int .u8 0, .int .u8 0, .int .u8 0, .int .u8 0, .int .u8 0, .int .u8 0, .int .u8 0, .int .u8 0, .int .u8 0, .int .u8 0, .int .u8 0, .int .u8 0, .int .u8 0, .int .u8 0, .int .u8 0, .int .u8 0, .int .u8 0, .int .u8 0, .int .u8 0, .int .u8 0, .int .u8 0, .int .u8 0, .int .u8 0, .int .u8 0, .int .u8 0, .int .u8 0, .int .u8 0, .int .u8 0, .int .u8 0, .int .u8 0, .int .u8 0, .int .u8 0, .int .u8 0, .int .u8 0, .int .u8 0, .int .u8 0, .int .u8 0, .int .u8 0, .int .u8 0, .int .u8 0, .int .u8 0, .int .u8 0, .int .u8 0, .int .u8 0, .int .u8 0, .int .u8 0, .int .u8 0, .int .u8 0, .int .u8 0, .int .u8 0, .int .u8 0, .int .u8 0, .int .u8 0, .int .u8 0] rfl 63
  have A9 : Hid (Ar ((V.alloc (.cells #[.int .u8 0, .int .u8 0, .int .u8 0, .int .u8 0, .int .u8 0, .int .u8 0, .int .u8 0, .int .u8 0, .int .u8 0, .int .u8 0, .int .u8 0, .int .u8 0, .int .u8 0, .int .u8 0, .int .u8 0, .int .u8 0, .int .u8 0, .int .u8 0, .int .u8 0, .int .u8 0, .int .u8 0, .int .u8 0, .int .u8 0, .int .u8 0, .int .u8 0, .int .u8 0, .int .u8 0, .int .u8 0, .int .u8 0, .int .u8 0, .int .u8 0, .int .u8 0, .int .u8 0, .int .u8 0, .int .u8 0, .int .u8 0, .int .u8 0, .int .u8 0, .int .u8 0, .int .u8 0, .int .u8 0, .int .u8 0, .int .u8 0, .int .u8 0, .int .u8 0, .int .u8 0, .int .u8 0, .int .u8 0, .int .u8 0, .int .u8 0, .int .u8 0, .int .u8 0, .int .u8 0, .int .u8 0, .int .u8 0, .int .u8 0, .int .u8 0, .int .u8 0, .int .u8 0, .int .u8 0, .int .u8 0, .int .u8 0, .int .u8 0, .int .u8 0] 63)).setCells V.heap.size 0 cs9) V.heap.size 64 (List.map (Value.int .u8) B)) := by rw [← HC9.out]; exact ar_var _ _ 64 rfl _ _ hlen9
  have hX : Below V.heap.size V ((V.alloc (.cells #[.int .u8 0, .int .u8 0, .int .u8 0, .int .u8 0, .int .u8 0, .int .u8 0, .int .u8 0, .int .u8 0, .int .u8 0, .int .u8 0, .int .u8 0, .int .u8 0, .int .u8 0, .int .u8 0, .int .u8 0, .int .u8 0, .int .u8 0, .int .u8 0, .int .u8 0, .int .u8 0, .int .u8 0, .int .u8 0, .int .u8 0, .int .u8 0, .int .u8 0, .int .u8 0, .int .u8 0, .int .u8 0, .int .u8 0, .int .u8 0, .int .u8 0, .int .u8 0, .int .u8 0, .int .u8 0, .int .u8 0, .int .u8 0, .int .u8 0, .int .u8 0, .int .u8 0, .int .u8 0, .int .u8 0, .int .u8 0, .int .u8 0, .int .u8 0, .int .u8 0, .int .u8 0, .int .u8 0, .int .u8 0, .int .u8 0, .int .u8 0, .int .u8 0, .int .u8 0, .int .u8 0, .int .u8 0, .int .u8 0, .int .u8 0, .int .u8 0, .int .u8 0, .int .u8 0, .int .u8 0, .int .u8 0, .int .u8 0, .int .u8 0, .int .u8 0] 63)).setCells V.heap.size 0 cs9) := bel_var _ _ _ _
  have hbs9 : w.heap.size ≤ V.heap.size := HB.out.size
  replace HRA : Hid (Rd ((V.alloc (.cells #[.int .u8 0, .int .u8 0, .int .u8 0, .int .u8 0, .int .u8 0, .int .u8 0, .int .u8 0, .int .u8 0, .int .u8 0, .int .u8 0, .int .u8 0, .int .u8 0, .int .u8 0, .int .u8 0, .int .u8 0, .int .u8 0, .int .u8 0, .int .u8 0, .int .u8 0, .int .u8 0, .int .u8 0, .int .u8 0, .int .u8 0, .int .u8 0, .int .u8 0, .int .u8 0, .int .u8 0, .int .u8 0, .int .u8 0, .int .u8 0, .int .u8 0, .int .u8 0, .int .u8 0, .int .u8 0, .int .u8 0, .int .u8 0, .int .u8 0, .int .u8 0, .int .u8 0, .int .u8 0, .int .u8 0, .int .u8 0, .int .u8 0, .int .u8 0, .int .u8 0, .int .u8 0, .int .u8 0, .int .u8 0, .int .u8 0, .int .u8 0, .int .u8 0, .int .u8 0, .int .u8 0, .int .u8 0, .int .u8 0, .int .u8 0, .int .u8 0, .int .u8 0, .int .u8 0, .int .u8 0, .int .u8 0, .int .u8 0, .int .u8 0, .int .u8 0] 63)).setCells V.heap.size 0 cs9) aa la ca ad) := HRA.out.below hX
  replace HRH : Hid (Rd ((V.alloc (.cells #[.int .u8 0, .int .u8 0, .int .u8 0, .int .u8 0, .int .u8 0, .int .u8 0, .int .u8 0, .int .u8 0, .int .u8 0, .int .u8 0, .int .u8 0, .int .u8 0, .int .u8 0, .int .u8 0, .int .u8 0, .int .u8 0, .int .u8 0, .int .u8 0, .int .u8 0, .int .u8 0, .int .u8 0, .int .u8 0, .int .u8 0, .int .u8 0, .int .u8 0, .int .u8 0, .int .u8 0, .int .u8 0, .int .u8 0, .int .u8 0, .int .u8 0, .int .u8 0, .int .u8 0, .int .u8 0, .int .u8 0, .int .u8 0, .int .u8 0, .int .u8 0, .int .u8 0, .int .u8 0, .int .u8 0, .int .u8 0, .int .u8 0, .int .u8 0, .int .u8 0, .int .u8 0, .int .u8 0, .int .u8 0, .int .u8 0, .int .u8 0, .int .u8 0, .int .u8 0, .int .u8 0, .int .u8 0, .int .u8 0, .int .u8 0, .int .u8 0, .int .u8 0, .int .u8 0, .int .u8 0, .int .u8 0, .int .u8 0, .int .u8 0, .int .u8 0] 63)).setCells V.heap.size 0 cs9) ah lh ch hid) := HRH.out.below hX
  replace HG : Hid (Gr ((V.alloc (.cells #[.int .u8 0, .int .u8 0, .int .u8 0, .int .u8 0, .int .u8 0, .int .u8 0, .int .u8 0, .int .u8 0, .int .u8 0, .int .u8 0, .int .u8 0, .int .u8 0, .int .u8 0, .int .u8 0, .int .u8 0, .int .u8 0, .int .u8 0, .int .u8 0, .int .u8 0, .int .u8 0, .int .u8 0, .int .u8 0, .int .u8 0, .int .u8 0, .int .u8 0, .int .u8 0, .int .u8 0, .int .u8 0, .int .u8 0, .int .u8 0, .int .u8 0, .int .u8 0, .int .u8 0, .int .u8 0, .int .u8 0, .int .u8 0, .int .u8 0, .int .u8 0, .int .u8 0, .int .u8 0, .int .u8 0, .int .u8 0, .int .u8 0, .int .u8 0, .int .u8 0, .int .u8 0, .int .u8 0, .int .u8 0, .int .u8 0, .int .u8 0, .int .u8 0, .int .u8 0, .int .u8 0, .int .u8 0, .int .u8 0, .int .u8 0, .int .u8 0, .int .u8 0, .int .u8 0, .int .u8 0, .int .u8 0, .int .u8 0, .int .u8 0, .int .u8 0] 63)).setCells V.heap.size 0 cs9)) := HG.out.later hX
  replace HB : Hid (Below w.heap.size w ((V.alloc (.cells #[.int .u8 0, .int .u8 0, .int .u8 0, .int .u8 0, .int .u8 0, .int .u8 0, .int .u8 0, .int .u8 0, .int .u8 0, .int .u8 0, .int .u8 0, .int .u8 0, .int .u8 0, .int .u8 0, .int .u8 0, .int .u8 0, .int .u8 0, .int .u8 0, .int .u8 0, .int .u8 0, .int .u8 0, .int .u8 0, .int .u8 0, .int .u8 0, .int .u8 0, .int .u8 0, .int .u8 0, .int .u8 0, .int .u8 0, .int .u8 0, .int .u8 0, .int .u8 0, .int .u8 0, .int .u8 0, .int .u8 0, .int .u8 0, .int .u8 0, .int .u8 0, .int .u8 0, .int .u8 0, .int .u8 0, .int .u8 0, .int .u8 0, .int .u8 0, .int .u8 0, .int .u8 0, .int .u8 0, .int .u8 0, .int .u8 0, .int .u8 0, .int .u8 0, .int .u8 0, .int .u8 0, .int .u8 0, .int .u8 0, .int .u8 0, .int .u8 0, .int .u8 0, .int .u8 0, .int .u8 0, .int .u8 0, .int .u8 0, .int .u8 0, .int .u8 0] 63)).setCells V.heap.size 0 cs9)) := HB.out.trans (hX.mono HB.out.size)
  clear hX
  go_upto_region 2 with (refine wpList_store_mid rfl 63 (.tmp 9) (.tmp 16) rfl (V.heap.size) 0 cs9.toArray rfl rfl (by simpa [hlen9] using hth) (by simpa using hi9) (all_oneCell_toArray hone9) ?_)
  clear hth
  generalize ((V.alloc (.cells #[.int .u8 0, .int .u8 0, .int .u8 0, .int .u8 0, .int .u8 0, .int .u8 0, .int .u8 0, .int .u8 0, .int .u8 0, .int .u8 0, .int .u8 0, .int .u8 0, .int .u8 0, .int .u8 0, .int .u8 0, .int .u8 0, .int .u8 0, .int .u8 0, .int .u8 0, .int .u8 0, .int .u8 0, .int .u8 0, .int .u8 0, .int .u8 0, .int .u8 0, .int .u8 0, .int .u8 0, .int .u8 0, .int .u8 0, .int .u8 0, .int .u8 0, .int .u8 0, .int .u8 0, .int .u8 0, .int .u8 0, .int .u8 0, .int .u8 0, .int .u8 0, .int .u8 0, .int .u8 0, .int .u8 0, .int .u8 0, .int .u8 0, .int .u8 0, .int .u8 0, .int .u8 0, .int .u8 0, .int .u8 0, .int .u8 0, .int .u8 0, .int .u8 0, .int .u8 0, .int .u8 0, .int .u8 0, .int .u8 0, .int .u8 0, .int .u8 0, .int .u8 0, .int .u8 0, .int .u8 0, .int .u8 0, .int .u8 0, .int .u8 0, .int .u8 0] 63)).setCells V.heap.size 0 cs9) = W2 at *
  generalize V.heap.size = b9 at *
  clear HC9 hone9 hlen9 hi9
  have k9 : b9 < W2.heap.size := A9.out.lt (by decide)
  go_upto_region 3 with fail
  obtain ⟨W3, hW3⟩ : ∃ W, W = W2.alloc (.cells #[.int .u8 0, .int .u8 0, .int .u8 0, .int .u8 0, .int .u8 0, .int .u8 0, .int .u8 0, .int .u8 0, .int .u8 0, .int .u8 0, .int .u8 0, .int .u8 0, .int .u8 0, .int .u8 0, .int .u8 0, .int .u8 0, .int .u8 0, .int .u8 0, .int .u8 0, .int .u8 0, .int .u8 0, .int .u8 0, .int .u8 0, .int .u8 0, .int .u8 0, .int .u8 0, .int .u8 0, .int .u8 0, .int .u8 0, .int .u8 0, .int .u8 0, .int .u8 0] 27) := ⟨_, rfl⟩
  obtain ⟨b10, hb10⟩ : ∃ b, b = W2.heap.size := ⟨_, rfl⟩
  rw [← hW3, ← hb10]
  have A10 : Hid (Ar W3 b10 32 (List.map (Value.int .u8) ((B.take 0) ++ (List.replicate 32 0).drop 0))) := by unfold Hid; rw [hW3, hb10]; exact ar_box W2 (List.map (Value.int .u8) (List.replicate 32 0)) 32 rfl 27
  have HE : Hid (Ext W2 W3) := by unfold Hid; rw [hW3]; exact bel1 _ _
  have k10 : W2.heap.size ≤ b10 := by omega
  clear hW3 hb10
  go_wp2
  go_loopw [11] (fun iv wr => ∃ j : Nat, j ≤ 32 ∧ iv = .int .i64 j ∧ Hid (Ar wr b10 32 (List.map (Value.int .u8) ((B.take j) ++ (List.replicate 32 0).drop j))) ∧ Hid (Ext W2 wr)) (fun iv _ => 32 - (intOf iv).toNat)
  case atStart => exact ⟨0, Nat.zero_le _, rfl, A10, HE⟩
  case round =>
    clear A10 HE
    obtain ⟨j, hj, rfl, A10, HE⟩ := hrel
    by_cases hlt : j < 32
    · have g1 : (j : Int) < 32 := by omega
      have g2 : (j : Int) < 64 := by omega
      have htn : (j : Int).toNat = j := by omega
      obtain ⟨cx, -⟩ := (A9.out.later HE.out).cell j (by omega)
      rw [List.getElem_map] at cx
      obtain ⟨x, hx⟩ : ∃ x, x = B[j]'(by have := HBn.out.len; omega) := ⟨_, rfl⟩
      rw [← hx] at cx
      have HX : Hid (B[j]? = some x) := by unfold Hid; rw [hx]; exact List.getElem?_eq_getElem _
      clear hx
      obtain ⟨cy, fy⟩ := A10.out.cell j hlt
      go_wp2
      go_roundw
      case rel => exact ⟨j + 1, by omega, by go_num, by
        have := A10.out.set j hlt (.int .u8 x)
        rw [← List.map_set, half2_set _ _ j x HX.out (by simp; omega)] at this
        exact this, HE.out.setCell (p := ⟨b10, j, none⟩) k10 _⟩
      case measure => simp [intOf]; omega
    · have e : j = 32 := by omega
      subst e
      have A11 : Hid (Ar wr b10 32 (List.map (Value.int .u8) (ot6 key nonce))) := by
        have := A10.out
        rw [List.drop_eq_nil_of_le (by decide), List.append_nil] at this
        unfold Hid ot6
        rw [← HBk.out]
        exact this
      have hE2 := HE.out
      replace HRA : Hid (Rd wr aa la ca ad) := HRA.out.below hE2
      replace HRH : Hid (Rd wr ah lh ch hid) := HRH.out.below hE2
      replace HB : Hid (Below w.heap.size w wr) := HB.out.trans (Below.mono hE2 HB.out.size)
      clear A9 A10 HE hE2 hlt hj HG
      go_upto_region 7 with fail
      obtain ⟨Y, hY⟩ : ∃ Y, Y = wr := ⟨_, rfl⟩
      rw [← hY] at A11 HRA HRH HB ⊢
      clear hY
      go_wp2_with fail
      refine (rfill_c aa la ca ad _ HRA.out (by omega)).mono ?_
      rintro e V1 ⟨a1, m1, c1, X1, rfl, HM1, HX1, HO, hb⟩
      have HE : Hid (Ext Y V1) := hb
      replace HRH : Hid (Rd V1 ah lh ch hid) := HRH.out.below hb
      clear hb
      go_wp2_with fail
      refine (rfill_c ah lh ch hid _ HRH.out (by omega)).mono ?_
      rintro e V2 ⟨a2, m2, c2, X2, rfl, HM2, HX2, HO2, hb⟩
      replace HO : Hid (V2.ownsRow Y.heap.size 5 1 (.slice a1 m1 c1) m1 (List.map (Value.int .u8) X1)) := own_later HO.out hb
      replace HE : Hid (Ext Y V2) := HE.out.trans hb
      have HR2 : Hid (Rd V2 a2 m2 c2 X2) := rd_own (by rw [HX2.out]; exact HBH.out.app (byt_zero _)) HO2.out
      clear hb HO2 HRH
      have hm1 : m1 ≤ la + 15 := by have := fl6_lt la; have := HM1.out; omega
      have hm2 : m2 ≤ lh + 15 := by have := fl6_lt lh; have := HM2.out; omega
      go_wp2_with (at_builtin; refine wpList_app_l rfl (.tmp 27) (.tmp 29) rfl Y.heap.size _ m1 X1 rfl HO.out a2 m2 c2 X2 rfl HR2.out (by omega) HE.out.size ?_)
      intro v3 V3 hown hbx
      obtain ⟨a3, c3, rfl⟩ := owns_shape hown
      replace HO : Hid (V3.ownsRow Y.heap.size 5 1 (.slice a3 (m1 + m2) c3) (m1 + m2) (List.map (Value.int .u8) (X1 ++ X2))) := by unfold Hid; rw [List.map_append]; exact hown
      replace HE : Hid (Ext Y V3) := Below.trans HE.out hbx
      obtain ⟨n3, hn3⟩ : ∃ n, n = m1 + m2 := ⟨_, rfl⟩
      rw [← hn3] at HO ⊢
      have hn3' : n3 ≤ la + lh + 30 := by omega
      clear hown hbx HR2 hn3
      go_wp2_with fail
      refine (rput64_c (la : Int) _ (by omega) (by omega)).mono ?_
      rintro e V4 ⟨g4, c4, rfl, HP, -, hb⟩
      replace HO : Hid (V4.ownsRow Y.heap.size 5 1 (.slice a3 n3 c3) n3 (List.map (Value.int .u8) (X1 ++ X2))) := own_later HO.out hb
      replace HE : Hid (Ext Y V4) := HE.out.trans hb
      clear hb
      go_wp2_with (at_builtin; refine wpList_app_l rfl (.tmp 31) (.tmp 35) rfl Y.heap.size _ n3 (X1 ++ X2) rfl HO.out (some ⟨g4, 0, none⟩) 8 c4 (lay 8 (la : Int)) rfl HP.out (by omega) HE.out.size ?_)
      intro v5 V5 hown hbx
      obtain ⟨a5, c5, rfl⟩ := owns_shape hown
      replace HO : Hid (V5.ownsRow Y.heap.size 5 1 (.slice a5 (n3 + 8) c5) (n3 + 8) (List.map (Value.int .u8) ((X1 ++ X2) ++ lay 8 (la : Int)))) := by unfold Hid; simpa using hown
      replace HE : Hid (Ext Y V5) := Below.trans HE.out hbx
      clear hown hbx HP
      go_wp2_with fail
      refine (rput64_c (lh : Int) _ (by omega) (by omega)).mono ?_
      rintro e V6 ⟨g6, c6, rfl, HP, -, hb⟩
      replace HO : Hid (V6.ownsRow Y.heap.size 5 1 (.slice a5 (n3 + 8) c5) (n3 + 8) (List.map (Value.int .u8) ((X1 ++ X2) ++ lay 8 (la : Int)))) := own_later HO.out hb
      replace HE : Hid (Ext Y V6) := HE.out.trans hb
      clear hb
      go_wp2_with (at_builtin; refine wpList_app_l rfl (.tmp 36) (.tmp 40) rfl Y.heap.size _ (n3 + 8) ((X1 ++ X2) ++ lay 8 (la : Int)) rfl HO.out (some ⟨g6, 0, none⟩) 8 c6 (lay 8 (lh : Int)) rfl HP.out (by omega) HE.out.size ?_)
      intro v7 V7 hown hbx
      obtain ⟨a7, c7, rfl⟩ := owns_shape hown
      have HO7 : Hid (V7.ownsRow Y.heap.size 5 1 (.slice a7 (n3 + 8 + 8) c7) (n3 + 8 + 8) (List.map (Value.int .u8) (mt6 ad hid))) := by
        unfold Hid
        rw [← made_app HX1.out HX2.out HLA.out HLH.out]
        simpa using hown
      replace HE : Hid (Ext Y V7) := Below.trans HE.out hbx
      obtain ⟨n7, hn7⟩ : ∃ n, n = n3 + 8 + 8 := ⟨_, rfl⟩
      rw [← hn7] at HO7
      try rw [show n3 + 16 = n7 by omega]
      try rw [← hn7]
      have hn7' : n7 ≤ 2097152 := by omega
      have HR7 : Hid (Rd V7 a7 n7 c7 (mt6 ad hid)) := rd_own (mt6_byt HBA.out HBH.out) HO7.out
      replace A11 : Hid (Ar V7 b10 32 (List.map (Value.int .u8) (ot6 key nonce))) := A11.out.later HE.out
      replace HB : Hid (Below w.heap.size w V7) := HB.out.trans (Below.mono HE.out HB.out.size)
      clear hown hbx HP HO HO7 HE hn7
      obtain ⟨_, _, hi11⟩ := bn32_cells (ot6_bn key nonce)
      go_wp2_with (refine wpList_load_mid rfl 27 (.tmp 10) rfl b10 0 rfl (List.map (Value.int .u8) (ot6 key nonce)) _ A11.out.rng Tryd.underlying27 rfl hi11 ?_)
      refine (rtag_c a7 n7 c7 (ot6 key nonce) (mt6 ad hid) (ot6_bn key nonce) _ HR7.out hn7').mono ?_
      rintro e V8 ⟨TG, rfl, HTG, hTG, hb⟩
      have HTn : Hid (Bn 16 TG) := hTG
      clear hTG A11 hi11 HR7
      replace HB : Hid (Below w.heap.size w V8) := HB.out.trans (hb.mono HB.out.size)
      clear hb
      obtain ⟨hlen13, hone13, hi13⟩ := bn16_cells HTn.out
      obtain ⟨cs13, hcs⟩ : ∃ cs, cs = (List.map (Value.int .u8) TG) := ⟨_, rfl⟩
      rw [← hcs] at hlen13 hone13 hi13 ⊢
      have HC13 : Hid (cs13 = (List.map (Value.int .u8) TG)) := hcs
      clear hcs
      have hth := there_new V8 16 #[.int .u8 0, .int .u8 0, .int .u8 0, .int .u8 0, .int .u8 0, .int .u8 0, .int .u8 0, .int .u8 0, .int .u8 0, .int .u8 0, .int .u8 0, .int .u8 0, .int .u8 0, .int .u8 0, .int .u8 0, .int .u8 0] rfl 60
      have A13 : Hid (Ar ((V8.alloc (.cells #[.int .u8 0, .int .u8 0, .int .u8 0, .int .u8 0, .int .u8 0, .int .u8 0, .int .u8 0, .int .u8 0, .int .u8 0, .int .u8 0, .int .u8 0, .int .u8 0, .int .u8 0, .int .u8 0, .int .u8 0, .int .u8 0] 60)).setCells V8.heap.size 0 cs13) V8.heap.size 16 (List.map (Value.int .u8) TG)) := by rw [← HC13.out]; exact ar_var _ _ 16 rfl _ _ hlen13
      have hX : Below V8.heap.size V8 ((V8.alloc (.cells #[.int .u8 0, .int .u8 0, .int .u8 0, .int .u8 0, .int .u8 0, .int .u8 0, .int .u8 0, .int .u8 0, .int .u8 0, .int .u8 0, .int .u8 0, .int .u8 0, .int .u8 0, .int .u8 0, .int .u8 0, .int .u8 0] 60)).setCells V8.heap.size 0 cs13) := bel_var _ _ _ _
      have hbs13 : w.heap.size ≤ V8.heap.size := HB.out.size
      replace HB : Hid (Below w.heap.size w ((V8.alloc (.cells #[.int .u8 0, .int .u8 0, .int .u8 0, .int .u8 0, .int .u8 0, .int .u8 0, .int .u8 0, .int .u8 0, .int .u8 0, .int .u8 0, .int .u8 0, .int .u8 0, .int .u8 0, .int .u8 0, .int .u8 0, .int .u8 0] 60)).setCells V8.heap.size 0 cs13)) := HB.out.trans (hX.mono HB.out.size)
      clear hX
      go_upto_region 10 with (refine wpList_store_mid rfl 60 (.tmp 13) (.tmp 44) rfl (V8.heap.size) 0 cs13.toArray rfl rfl (by simpa [hlen13] using hth) (by simpa using hi13) (all_oneCell_toArray hone13) ?_)
      clear hth
      generalize ((V8.alloc (.cells #[.int .u8 0, .int .u8 0, .int .u8 0, .int .u8 0, .int .u8 0, .int .u8 0, .int .u8 0, .int .u8 0, .int .u8 0, .int .u8 0, .int .u8 0, .int .u8 0, .int .u8 0, .int .u8 0, .int .u8 0, .int .u8 0] 60)).setCells V8.heap.size 0 cs13) = W9 at *
      generalize V8.heap.size = b13 at *
      clear HC13 hone13 hlen13 hi13
      go_wp2
      go_ret
      exact ⟨b13, TG, rfl, HTG, A13.out.rd_all HTn.out.byt 16 (by decide), hbs13, HB.out⟩
end Go.Proofs.YtjmdgmbkkkoamaaDoor
