/-
  AeadOpens' walk. No statement of the seat is proved here.
-/
import Derived.Test.YtppmodncljigcaaDoorR6O
import Derived.Deep.CutBlock
namespace Go.Proofs.YtppmodncljigcaaDoor
open Go.RowKit

set_option maxRecDepth 8000 in
set_option maxHeartbeats 8000000 in
theorem aeadOpens_walk (key nonce : List Int) (aa : Option Addr) (la ca : Nat) (ad : List Int) (at' : Option Addr) (lt ct : Nat) (text : List Int) (how at1 bt : Int) (ar : Option Addr) (lr cr : Nat) (raw : List Int) (hk : Bn 32 key) (hn : Bn 12 nonce) (hs : la + lt + lr ≤ 1048576) (hi1 : -9223372036854775808 ≤ how ∧ how ≤ 9223372036854775807) (hi2 : -9223372036854775808 ≤ at1 ∧ at1 ≤ 9223372036854775807) (hbt : 0 ≤ bt ∧ bt ≤ 255) (w : World) (hra : Rd w aa la ca ad) (hrt : Rd w at' lt ct text) (hrr : Rd w ar lr cr raw) (hg : Gr w) :
    Calls Tryd.prog 4 #[(.agg (List.map (Value.int .u8) key).toArray), (.agg (List.map (Value.int .u8) nonce).toArray), .slice aa la ca, .slice at' lt ct, .int .i64 how, .int .i64 at1, .int .u8 bt, .slice ar lr cr] w fun e w' => e = .returned (.bool true) ∧ Below w.heap.size w w' := by
  have HRA : Hid (Rd w aa la ca ad) := hra
  have HRT : Hid (Rd w at' lt ct text) := hrt
  have HRR : Hid (Rd w ar lr cr raw) := hrr
  have HG : Hid (Gr w) := hg
  clear hra hrt hrr hg
  have HK : Hid (Bn 32 key) := hk
  have HN : Hid (Bn 12 nonce) := hn
  clear hk hn
  obtain ⟨_, _, hiK⟩ := bn32_cells HK.out
  obtain ⟨_, _, hiN⟩ := bn12_cells HN.out
  go_enter Tryd.func4, Tryd.ntmps4
  go_upto_region 1 with fail
  have AK : Hid (Ar ((w.alloc (.cells (List.map (Value.int .u8) key).toArray 22)).alloc (.cells (List.map (Value.int .u8) nonce).toArray 23)) w.heap.size 32 (List.map (Value.int .u8) key)) := (ar_box w _ 32 HK.out.map_len _).later (bel1 _ _)
  have AN : Hid (Ar ((w.alloc (.cells (List.map (Value.int .u8) key).toArray 22)).alloc (.cells (List.map (Value.int .u8) nonce).toArray 23)) (w.heap.size + 1) 12 (List.map (Value.int .u8) nonce)) := by have := (ar_box (w.alloc (.cells (List.map (Value.int .u8) key).toArray 22)) _ 12 HN.out.map_len 23); simpa [Hid] using this
  have HB : Hid (Below w.heap.size w ((w.alloc (.cells (List.map (Value.int .u8) key).toArray 22)).alloc (.cells (List.map (Value.int .u8) nonce).toArray 23))) := bel2 _ _ _
  generalize ((w.alloc (.cells (List.map (Value.int .u8) key).toArray 22)).alloc (.cells (List.map (Value.int .u8) nonce).toArray 23)) = W0 at *
  have k1 : w.heap.size < w.heap.size + 1 := by omega
  generalize hq1 : w.heap.size + 1 = q1 at *
  have kA : w.heap.size < W0.heap.size := AK.out.lt (by decide)
  have kN : q1 < W0.heap.size := AN.out.lt (by decide)
  go_wp2_with (first
  | (refine wpList_load_mid rfl 22 (.tmp 8) rfl w.heap.size 0 rfl (List.map (Value.int .u8) key) _ AK.out.rng Tryd.underlying22 rfl hiK ?_)
  | (refine wpList_load_mid rfl 23 (.tmp 9) rfl q1 0 rfl (List.map (Value.int .u8) nonce) _ AN.out.rng Tryd.underlying23 rfl hiN ?_))
  refine (rseal_c key nonce aa la ca ad at' lt ct text HK.out HN.out _ (HRA.out.below HB.out) (HRT.out.below HB.out) (HG.out.later HB.out) (by omega)).mono ?_
  rintro e V ⟨aR, mR, cR, XR, rfl, HmR, HXR, OR, hb⟩
  have HE0 : Hid (Ext W0 V) := hb
  have hmR : mR = lt + 16 := HmR.out
  obtain ⟨gR, rfl, hgR, -⟩ := owns_block OR.out (by omega)
  have RV : Hid (Rd V (some ⟨gR, 0, none⟩) mR cR XR) := rd_own (by rw [HXR.out]; exact se6_byt _ _ _ HRT.out.byt) OR.out
  have hmR1 : 1 ≤ mR := by omega
  have hmR2 : la + mR ≤ 1048592 := by omega
  have HBV : Hid (Below w.heap.size w V) := HB.out.trans (hb.mono HB.out.size)
  clear hb HmR HXR HRT hmR
  go_wp2_with fail
  refine (pick_any how 7 hi1 (by decide) _).mono ?_
  rintro e w' ⟨k7, rfl, p0, p1, hw⟩
  rw [hw]
  clear hw w'
  obtain ⟨b0, b1⟩ := id hbt
  go_upto_block 0 with fail
  go_cut [17] from 22 (fun v wx => ∃ (key' nonce' : List Int) (a' : Option Addr) (len' cap' : Nat) (box : List Int), v = .slice a' len' cap' ∧ Hid (Bn 32 key') ∧ Hid (Bn 12 nonce') ∧ Hid (Ar wx w.heap.size 32 (List.map (Value.int .u8) key')) ∧ Hid (Ar wx q1 12 (List.map (Value.int .u8) nonce')) ∧ Hid (Rd wx a' len' cap' box) ∧ la + len' ≤ 1048640 ∧ Hid (Below w.heap.size w wx))
  case first =>
    rcases (show k7 = 0 ∨ k7 = 1 ∨ k7 = 2 ∨ k7 = 3 ∨ k7 = 4 ∨ k7 = 5 ∨ k7 = 6 by omega) with rfl | rfl | rfl | rfl | rfl | rfl | rfl
    · go_wp2_with fail
      refine (few_o ar lr cr raw _ (HRR.out.below HBV.out) (by omega)).mono ?_
      rintro e V2 ⟨a2, c2, rfl, -, R2, hb⟩
      have hX : Ext W0 V2 := HE0.out.trans hb
      have hY : Below w.heap.size w V2 := HBV.out.trans (hb.mono HBV.out.size)
      go_wp2_with fail
      go_meet
      exact ⟨key, nonce, a2, lr, c2, raw, rfl, HK, HN, AK.out.later hX, AN.out.later hX, R2, by omega, hY⟩
    · go_wp2_with fail
      refine (pick_big at1 (mR : Int) hi2 (by omega) _).mono ?_
      rintro e w' ⟨i0, rfl, p0, p1, hw⟩
      rw [hw]
      clear hw w'
      obtain ⟨j, rfl⟩ := Int.eq_ofNat_of_zero_le p0
      have hjn : (j : Int).toNat = j := by omega
      have hj : j < mR := by omega
      obtain ⟨x, cx, hx⟩ := bytes_own OR.out j hj
      have HX : Hid (XR[j]? = some x) := hx
      clear hx
      have hxb := RV.out.byt x (List.mem_of_getElem? HX.out)
      have fx := World.ownsRow.frozenAt OR.out j
      obtain ⟨y0, y1, -⟩ := xor8 x bt hxb hbt
      obtain ⟨hxb0, hxb1⟩ := hxb
      have hX : Ext W0 (V.setCell ⟨gR, j, none⟩ (.int .u8 (bits .xor .u8 x bt))) := HE0.out.setCell (p := ⟨gR, j, none⟩) hgR _
      have hY : Below w.heap.size w (V.setCell ⟨gR, j, none⟩ (.int .u8 (bits .xor .u8 x bt))) := HBV.out.setCell (p := ⟨gR, j, none⟩) (by dsimp only; omega) _
      have RX : Hid (Rd (V.setCell ⟨gR, j, none⟩ (.int .u8 (bits .xor .u8 x bt))) (some ⟨gR, 0, none⟩) mR cR (XR.set j (bits .xor .u8 x bt))) := by
        have := (OR.out.stored j (.int .u8 (bits .xor .u8 x bt))).1
        rw [← List.map_set] at this
        exact rd_own (byt_set RV.out.byt j y0 y1) this
      go_wp2_with fail
      go_meet
      exact ⟨key, nonce, some ⟨gR, 0, none⟩, mR, cR, XR.set j (bits .xor .u8 x bt), rfl, HK, HN, AK.out.later hX, AN.out.later hX, RX, by omega, hY⟩
    · go_wp2_with fail
      refine (pick_big at1 ((mR : Int) + 1) hi2 (by omega) _).mono ?_
      rintro e w' ⟨i0, rfl, p0, p1, hw⟩
      rw [hw]
      clear hw w'
      obtain ⟨j, rfl⟩ := Int.eq_ofNat_of_zero_le p0
      have hjn : (j : Int).toNat = j := by omega
      have hj : j ≤ mR := by omega
      have hjc : (j : Int) ≤ cR := by have := RV.out.hle; omega
      go_wp2_with fail
      go_meet
      exact ⟨key, nonce, some ⟨gR, 0, none⟩, j, cR, XR.take j, rfl, HK, HN, AK.out.later HE0.out, AN.out.later HE0.out, RV.out.cut j hj, by omega, HBV⟩
    · have HR1 : Hid (Rd (V.alloc (.cells #[.int .u8 bt] 5)) (some ⟨V.heap.size, 0, none⟩) 1 1 [bt]) := Rd.laid V [bt] (Byt.cons hbt.1 hbt.2 Byt.nil) 5 1 (Nat.le_refl _) #[.int .u8 bt] (fun i hi => by match i, hi with | 0, _ => rfl)
      go_wp2_with (at_builtin; refine wpList_app_l rfl (.tmp 58) (.tmp 60) rfl W0.heap.size _ mR XR rfl (OR.out.alloc _) _ 1 1 [bt] rfl HR1.out (by omega) (by have := HE0.out.size; simp; omega) ?_)
      intro v2 V2 hown hbx
      obtain ⟨a2, c2, rfl⟩ := owns_shape hown
      have RX : Hid (Rd V2 a2 (mR + 1) c2 (XR ++ [bt])) := rd_own (RV.out.byt.app (Byt.cons hbt.1 hbt.2 Byt.nil)) (by simpa using hown)
      have hX : Ext W0 V2 := Below.trans (HE0.out.trans (bel1 _ _)) hbx
      have hY : Below w.heap.size w V2 := HB.out.trans (Below.mono hX HB.out.size)
      clear hown hbx HR1
      go_wp2_with fail
      go_meet
      exact ⟨key, nonce, a2, mR + 1, c2, XR ++ [bt], rfl, HK, HN, AK.out.later hX, AN.out.later hX, RX, by omega, hY⟩
    · go_wp2_with fail
      refine (pick_any at1 32 hi2 (by decide) _).mono ?_
      rintro e w' ⟨i0, rfl, p0, p1, hw⟩
      rw [hw]
      clear hw w'
      obtain ⟨j, rfl⟩ := Int.eq_ofNat_of_zero_le p0
      have hjn : (j : Int).toNat = j := by omega
      have hj : j < 32 := by omega
      have AV : Hid (Ar V w.heap.size 32 (List.map (Value.int .u8) key)) := AK.out.later HE0.out
      obtain ⟨x, HX⟩ : ∃ x, Hid (key[j]? = some x) := ⟨_, List.getElem?_eq_getElem (by rw [HK.out.len]; exact hj)⟩
      have hxb := HK.out.byt x (List.mem_of_getElem? HX.out)
      have fx := (AV.out.cell j hj).2
      have cx : V.cell? ⟨w.heap.size, j, none⟩ = some (.int .u8 x) := by
        have := AV.out.rng j (.int .u8 x) (by rw [List.getElem?_map, HX.out]; rfl)
        rwa [Nat.zero_add] at this
      obtain ⟨y0, y1, -⟩ := xor8 x bt hxb hbt
      obtain ⟨hxb0, hxb1⟩ := hxb
      go_wp2_with fail
      go_meet
      exact ⟨key.set j (bits .xor .u8 x bt), nonce, some ⟨gR, 0, none⟩, mR, cR, XR, rfl, ⟨by rw [List.length_set, HK.out.len], byt_set HK.out.byt j y0 y1⟩, HN, by unfold Hid; rw [List.map_set]; exact AV.out.set j hj _, (AN.out.later HE0.out).else _ _ (by omega) _, RV.out.extb ((ExtB.refl _ _).set j _) (by omega), by omega, HBV.out.setCell (p := ⟨w.heap.size, j, none⟩) (Nat.le_refl _) _⟩
    · go_wp2_with fail
      refine (pick_any at1 12 hi2 (by decide) _).mono ?_
      rintro e w' ⟨i0, rfl, p0, p1, hw⟩
      rw [hw]
      clear hw w'
      obtain ⟨j, rfl⟩ := Int.eq_ofNat_of_zero_le p0
      have hjn : (j : Int).toNat = j := by omega
      have hj : j < 12 := by omega
      have AV : Hid (Ar V q1 12 (List.map (Value.int .u8) nonce)) := AN.out.later HE0.out
      obtain ⟨x, HX⟩ : ∃ x, Hid (nonce[j]? = some x) := ⟨_, List.getElem?_eq_getElem (by rw [HN.out.len]; exact hj)⟩
      have hxb := HN.out.byt x (List.mem_of_getElem? HX.out)
      have fx := (AV.out.cell j hj).2
      have cx : V.cell? ⟨q1, j, none⟩ = some (.int .u8 x) := by
        have := AV.out.rng j (.int .u8 x) (by rw [List.getElem?_map, HX.out]; rfl)
        rwa [Nat.zero_add] at this
      obtain ⟨y0, y1, -⟩ := xor8 x bt hxb hbt
      obtain ⟨hxb0, hxb1⟩ := hxb
      go_wp2_with fail
      go_meet
      exact ⟨key, nonce.set j (bits .xor .u8 x bt), some ⟨gR, 0, none⟩, mR, cR, XR, rfl, HK, ⟨by rw [List.length_set, HN.out.len], byt_set HN.out.byt j y0 y1⟩, (AK.out.later HE0.out).else _ _ (by omega) _, by unfold Hid; rw [List.map_set]; exact AV.out.set j hj _, RV.out.extb ((ExtB.refl _ _).set j _) (by omega), by omega, HBV.out.setCell (p := ⟨q1, j, none⟩) (by dsimp only; omega) _⟩
    · go_wp2_with fail
      go_meet
      exact ⟨key, nonce, some ⟨gR, 0, none⟩, mR, cR, XR, rfl, HK, HN, AK.out.later HE0.out, AN.out.later HE0.out, RV, by omega, HBV⟩
  case rest =>
    clear AK AN HE0 RV HBV OR hiK hiN HK HN
    obtain ⟨key', nonce', a', len', cap', box, rfl, HK, HN, AK, AN, RB, hsz, HBY⟩ := hcut
    obtain ⟨Y, hY⟩ : ∃ Y, Y = wc := ⟨_, rfl⟩
    rw [← hY] at AK AN RB HBY ⊢
    clear hY
    replace HRA : Hid (Rd Y aa la ca ad) := HRA.out.below HBY.out
    replace HG : Hid (Gr Y) := HG.out.later HBY.out
    clear HB HRR
    have HB := HBY
    clear HBY
    obtain ⟨_, _, hiK⟩ := bn32_cells HK.out
    obtain ⟨_, _, hiN⟩ := bn12_cells HN.out
    go_wp2_with (first
      | (refine wpList_load_mid rfl 22 (.tmp 8) rfl w.heap.size 0 rfl (List.map (Value.int .u8) key') _ AK.out.rng Tryd.underlying22 rfl hiK ?_)
      | (refine wpList_load_mid rfl 23 (.tmp 9) rfl q1 0 rfl (List.map (Value.int .u8) nonce') _ AN.out.rng Tryd.underlying23 rfl hiN ?_))
    refine (open_c key' nonce' aa la ca ad a' len' cap' box HK.out HN.out _ HRA.out RB.out (by omega) (by omega)).mono ?_
    rintro e V1 ⟨x1, m1, c1, X1, E1, rfl, HE1, HX1, R1, hb⟩
    replace AK : Hid (Ar V1 w.heap.size 32 (List.map (Value.int .u8) key')) := AK.out.later hb
    replace AN : Hid (Ar V1 q1 12 (List.map (Value.int .u8) nonce')) := AN.out.later hb
    replace HRA : Hid (Rd V1 aa la ca ad) := HRA.out.below hb
    replace RB : Hid (Rd V1 a' len' cap' box) := RB.out.below hb
    replace HG : Hid (Gr V1) := HG.out.later hb
    replace HB : Hid (Below w.heap.size w V1) := HB.out.trans (hb.mono HB.out.size)
    clear hb
    go_wp2_with (first
      | (refine wpList_load_mid rfl 22 (.tmp 8) rfl w.heap.size 0 rfl (List.map (Value.int .u8) key') _ AK.out.rng Tryd.underlying22 rfl hiK ?_)
      | (refine wpList_load_mid rfl 23 (.tmp 9) rfl q1 0 rfl (List.map (Value.int .u8) nonce') _ AN.out.rng Tryd.underlying23 rfl hiN ?_))
    refine (ropen_c key' nonce' aa la ca ad a' len' cap' box HK.out HN.out _ HRA.out RB.out HG.out (by omega)).mono ?_
    rintro e V2 ⟨x2, m2, c2, X2, E2, rfl, hE2, HE2, HX2, R2, hb⟩
    replace R1 : Hid (Rd V2 x1 m1 c1 X1) := R1.out.below hb
    replace HB : Hid (Below w.heap.size w V2) := HB.out.trans (hb.mono HB.out.size)
    clear hb
    have hXX : X2 = X1 := by rw [HX2.out, HX1.out]
    subst hXX
    clear AK AN HRA RB HG hiK hiN HX1 HX2
    go_wp2_with fail
    refine (known6_any _).mono ?_
    rintro e V3 ⟨rfl, hb⟩
    replace R1 : Hid (Rd V3 x1 m1 c1 X2) := R1.out.below hb
    replace R2 : Hid (Rd V3 x2 m2 c2 X2) := R2.out.below hb
    replace HB : Hid (Below w.heap.size w V3) := HB.out.trans (hb.mono HB.out.size)
    clear hb
    have s1 := str_of R1.out
    have s2 := str_of R2.out
    clear R1 R2
    go_wp2_with fail
    refine (errno_l E2 _ hE2).mono ?_
    rintro e w' ⟨z, rfl, HZ, hw⟩
    rw [hw]
    clear hw w'
    have hz : z = E1 := by rw [HZ.out, HE1.out, HE2.out]
    subst hz
    clear s1 s2 HZ HE1 HE2
    go_wp2
    go_ret
    exact ⟨rfl, HB.out⟩
end Go.Proofs.YtppmodncljigcaaDoor
