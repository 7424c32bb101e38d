/-
  What kdf's mac and Hmac do. No statement of the seat is proved here.
-/
import Derived.Test.YtmibjgkakolhiaaDoorEBeg
namespace Go.Proofs.YtmibjgkakolhiaaDoor
open Go.RowKit

set_option maxRecDepth 8000 in
set_option maxHeartbeats 4000000 in
theorem mac_c (a : Option Addr) (len cap : Nat) (key : List Int) (ap : Option Addr) (lp cp : Nat) (L : List (List Int)) (w : World) (hr : Rd w a len cap key) (hp : RdL w ap lp L) (hg : Gb w) (hlen : len ≤ 4611686018427387904) (hlp : lp ≤ 281474976710656) (hT : 64 + L.flatten.length ≤ 4611686018427387904) :
    Calls Tryd.prog 41 #[.slice a len cap, .slice ap lp cp] w fun e w' => ∃ S, e = .returned (.agg (List.map (Value.int .u8) S).toArray) ∧ Hid (S = hm8 key L.flatten) ∧ Below w.heap.size w w' := by
  have HR : Hid (Rd w a len cap key) := hr
  have HP : Hid (RdL w ap lp L) := hp
  have HG : Hid (Gb w) := hg
  have HLL : Hid (L.length = lp) := hp.hlen
  have HKB : Hid (Bn 64 (kp8 key)) := kp8_bn hr.byt
  have g0 := hg.ivlt
  have g1 := hg.sglt
  clear hr hp hg
  go_enter Tryd.func41, Tryd.ntmps41
  go_upto_region 1 with fail
  have HD : Hid ((w.alloc (.cells #[.int .u8 0, .int .u8 0, .int .u8 0, .int .u8 0, .int .u8 0, .int .u8 0, .int .u8 0, .int .u8 0, .int .u8 0, .int .u8 0, .int .u8 0, .int .u8 0, .int .u8 0, .int .u8 0, .int .u8 0, .int .u8 0, .int .u8 0, .int .u8 0, .int .u8 0, .int .u8 0, .int .u8 0, .int .u8 0, .int .u8 0, .int .u8 0, .int .u8 0, .int .u8 0, .int .u8 0, .int .u8 0, .int .u8 0, .int .u8 0, .int .u8 0, .int .u8 0] 27)).there w.heap.size 0 32) := by unfold Hid; exact there_new _ 32 _ rfl _
  have HB : Hid (Below w.heap.size w (w.alloc (.cells #[.int .u8 0, .int .u8 0, .int .u8 0, .int .u8 0, .int .u8 0, .int .u8 0, .int .u8 0, .int .u8 0, .int .u8 0, .int .u8 0, .int .u8 0, .int .u8 0, .int .u8 0, .int .u8 0, .int .u8 0, .int .u8 0, .int .u8 0, .int .u8 0, .int .u8 0, .int .u8 0, .int .u8 0, .int .u8 0, .int .u8 0, .int .u8 0, .int .u8 0, .int .u8 0, .int .u8 0, .int .u8 0, .int .u8 0, .int .u8 0, .int .u8 0, .int .u8 0] 27))) := bel1 _ _
  obtain ⟨W0, hW0⟩ : ∃ W, W = (w.alloc (.cells #[.int .u8 0, .int .u8 0, .int .u8 0, .int .u8 0, .int .u8 0, .int .u8 0, .int .u8 0, .int .u8 0, .int .u8 0, .int .u8 0, .int .u8 0, .int .u8 0, .int .u8 0, .int .u8 0, .int .u8 0, .int .u8 0, .int .u8 0, .int .u8 0, .int .u8 0, .int .u8 0, .int .u8 0, .int .u8 0, .int .u8 0, .int .u8 0, .int .u8 0, .int .u8 0, .int .u8 0, .int .u8 0, .int .u8 0, .int .u8 0, .int .u8 0, .int .u8 0] 27)) := ⟨_, rfl⟩
  obtain ⟨q2, hq2⟩ : ∃ q, q = w.heap.size := ⟨_, rfl⟩
  rw [← hW0] at HD HB ⊢
  have HQ : Hid (q2 = w.heap.size) := hq2
  rw [← hq2] at HD ⊢
  have k1 : q2 < W0.heap.size := there_lt HD.out (by decide)
  clear hW0 hq2
  go_wp2_with fail
  refine (filled_c a len cap key _ (HR.out.below HB.out) (HG.out.later HB.out) hlen).mono ?_
  rintro e V0 ⟨B, rfl, HBe, hb⟩
  have hBn : Bn 64 B := by rw [HBe.out]; exact HKB.out
  have HBN : Hid (Bn 64 B) := hBn
  replace HD : Hid (V0.there q2 0 32) := there_later hb HD.out
  replace HB : Hid (Below w.heap.size w V0) := HB.out.trans (hb.mono HB.out.size)
  replace k1 : q2 < V0.heap.size := by have := hb.size; omega
  clear hb HR
  obtain ⟨hlenb5, honeb5, hib5⟩ := bn64_cells7 hBn
  obtain ⟨csb5, hcs⟩ : ∃ cs, cs = (List.map (Value.int .u8) B) := ⟨_, rfl⟩
  rw [← hcs] at hlenb5 honeb5 hib5 ⊢
  have HCb5 : Hid (csb5 = (List.map (Value.int .u8) B)) := hcs
  clear hcs
  have hth := there_new V0 64 #[.int .u8 0, .int .u8 0, .int .u8 0, .int .u8 0, .int .u8 0, .int .u8 0, .int .u8 0, .int .u8 0, .int .u8 0, .int .u8 0, .int .u8 0, .int .u8 0, .int .u8 0, .int .u8 0, .int .u8 0, .int .u8 0, .int .u8 0, .int .u8 0, .int .u8 0, .int .u8 0, .int .u8 0, .int .u8 0, .int .u8 0, .int .u8 0, .int .u8 0, .int .u8 0, .int .u8 0, .int .u8 0, .int .u8 0, .int .u8 0, .int .u8 0, .int .u8 0, .int .u8 0, .int .u8 0, .int .u8 0, .int .u8 0, .int .u8 0, .int .u8 0, .int .u8 0, .int .u8 0, .int .u8 0, .int .u8 0, .int .u8 0, .int .u8 0, .int .u8 0, .int .u8 0, .int .u8 0, .int .u8 0, .int .u8 0, .int .u8 0, .int .u8 0, .int .u8 0, .int .u8 0, .int .u8 0, .int .u8 0, .int .u8 0, .int .u8 0, .int .u8 0, .int .u8 0, .int .u8 0, .int .u8 0, .int .u8 0, .int .u8 0, .int .u8 0] rfl 87
  have Ab5 : Hid (Ar ((V0.alloc (.cells #[.int .u8 0, .int .u8 0, .int .u8 0, .int .u8 0, .int .u8 0, .int .u8 0, .int .u8 0, .int .u8 0, .int .u8 0, .int .u8 0, .int .u8 0, .int .u8 0, .int .u8 0, .int .u8 0, .int .u8 0, .int .u8 0, .int .u8 0, .int .u8 0, .int .u8 0, .int .u8 0, .int .u8 0, .int .u8 0, .int .u8 0, .int .u8 0, .int .u8 0, .int .u8 0, .int .u8 0, .int .u8 0, .int .u8 0, .int .u8 0, .int .u8 0, .int .u8 0, .int .u8 0, .int .u8 0, .int .u8 0, .int .u8 0, .int .u8 0, .int .u8 0, .int .u8 0, .int .u8 0, .int .u8 0, .int .u8 0, .int .u8 0, .int .u8 0, .int .u8 0, .int .u8 0, .int .u8 0, .int .u8 0, .int .u8 0, .int .u8 0, .int .u8 0, .int .u8 0, .int .u8 0, .int .u8 0, .int .u8 0, .int .u8 0, .int .u8 0, .int .u8 0, .int .u8 0, .int .u8 0, .int .u8 0, .int .u8 0, .int .u8 0, .int .u8 0] 87)).setCells V0.heap.size 0 csb5) V0.heap.size 64 (List.map (Value.int .u8) B)) := by rw [← HCb5.out]; exact ar_var _ _ 64 rfl _ _ hlenb5
  have hX : Below V0.heap.size V0 ((V0.alloc (.cells #[.int .u8 0, .int .u8 0, .int .u8 0, .int .u8 0, .int .u8 0, .int .u8 0, .int .u8 0, .int .u8 0, .int .u8 0, .int .u8 0, .int .u8 0, .int .u8 0, .int .u8 0, .int .u8 0, .int .u8 0, .int .u8 0, .int .u8 0, .int .u8 0, .int .u8 0, .int .u8 0, .int .u8 0, .int .u8 0, .int .u8 0, .int .u8 0, .int .u8 0, .int .u8 0, .int .u8 0, .int .u8 0, .int .u8 0, .int .u8 0, .int .u8 0, .int .u8 0, .int .u8 0, .int .u8 0, .int .u8 0, .int .u8 0, .int .u8 0, .int .u8 0, .int .u8 0, .int .u8 0, .int .u8 0, .int .u8 0, .int .u8 0, .int .u8 0, .int .u8 0, .int .u8 0, .int .u8 0, .int .u8 0, .int .u8 0, .int .u8 0, .int .u8 0, .int .u8 0, .int .u8 0, .int .u8 0, .int .u8 0, .int .u8 0, .int .u8 0, .int .u8 0, .int .u8 0, .int .u8 0, .int .u8 0, .int .u8 0, .int .u8 0, .int .u8 0] 87)).setCells V0.heap.size 0 csb5) := bel_var _ _ _ _
  go_upto_region 2 with (refine wpList_store_mid rfl 87 (.tmp 5) (.tmp 12) rfl V0.heap.size 0 csb5.toArray rfl rfl (by simpa [hlenb5] using hth) (by simpa using hib5) (all_oneCell_toArray honeb5) ?_)
  clear hth honeb5 hlenb5
  obtain ⟨W1, hnew⟩ : ∃ W, W = ((V0.alloc (.cells #[.int .u8 0, .int .u8 0, .int .u8 0, .int .u8 0, .int .u8 0, .int .u8 0, .int .u8 0, .int .u8 0, .int .u8 0, .int .u8 0, .int .u8 0, .int .u8 0, .int .u8 0, .int .u8 0, .int .u8 0, .int .u8 0, .int .u8 0, .int .u8 0, .int .u8 0, .int .u8 0, .int .u8 0, .int .u8 0, .int .u8 0, .int .u8 0, .int .u8 0, .int .u8 0, .int .u8 0, .int .u8 0, .int .u8 0, .int .u8 0, .int .u8 0, .int .u8 0, .int .u8 0, .int .u8 0, .int .u8 0, .int .u8 0, .int .u8 0, .int .u8 0, .int .u8 0, .int .u8 0, .int .u8 0, .int .u8 0, .int .u8 0, .int .u8 0, .int .u8 0, .int .u8 0, .int .u8 0, .int .u8 0, .int .u8 0, .int .u8 0, .int .u8 0, .int .u8 0, .int .u8 0, .int .u8 0, .int .u8 0, .int .u8 0, .int .u8 0, .int .u8 0, .int .u8 0, .int .u8 0, .int .u8 0, .int .u8 0, .int .u8 0, .int .u8 0] 87)).setCells V0.heap.size 0 csb5) := ⟨_, rfl⟩
  obtain ⟨b5, hblk⟩ : ∃ q, q = V0.heap.size := ⟨_, rfl⟩
  rw [← hnew] at Ab5 hX ⊢
  rw [← hblk] at Ab5 ⊢
  rw [HCb5.out] at hib5
  clear hnew HCb5
  replace HD : Hid (W1.there q2 0 32) := there_later hX HD.out
  replace HB : Hid (Below w.heap.size w W1) := HB.out.trans (hX.mono HB.out.size)
  rw [← hblk] at k1
  have kb5 : b5 < W1.heap.size := Ab5.out.lt (by decide)
  clear hX hblk hBn
  go_wp2_with (refine wpList_load_mid rfl 87 (.tmp 5) rfl b5 0 rfl (List.map (Value.int .u8) B) _ Ab5.out.rng Tryd.underlying87 rfl hib5 ?_)
  refine (begun_c B 54 HBN.out (by decide) _ (HG.out.later HB.out)).mono ?_
  rintro e V1 ⟨bi, rfl, hbi, HX, hb⟩
  replace Ab5 : Hid (Ar V1 b5 64 (List.map (Value.int .u8) B)) := Ab5.out.later hb
  replace HD : Hid (V1.there q2 0 32) := there_later hb HD.out
  have kbi : w.heap.size ≤ bi := Nat.le_trans HB.out.size hbi
  replace HB : Hid (Below w.heap.size w V1) := HB.out.trans (hb.mono HB.out.size)
  have n5 : b5 ≠ bi := by omega
  have n2 : q2 ≠ bi := by omega
  clear hb hbi kb5
  have H0 : Hid (Hx V1 bi (xm8 54 B ++ (L.take 0).flatten)) := by unfold Hid; rw [List.take_zero, List.flatten_nil, List.append_nil]; exact HX.out
  clear HX
  go_wp2
  go_loopw [17] (fun i wr => ∃ k : Nat, k ≤ lp ∧ i = .int .i64 k ∧ Hid (Hx wr bi (xm8 54 B ++ (L.take k).flatten)) ∧ Hid (Ar wr b5 64 (List.map (Value.int .u8) B)) ∧ Hid (wr.there q2 0 32) ∧ Hid (Below w.heap.size w wr)) (fun i _ => lp - (intOf i).toNat)
  case atStart => exact ⟨0, Nat.zero_le _, rfl, H0, Ab5, HD, HB⟩
  case round =>
    clear H0 Ab5 HD HB
    obtain ⟨k, hk, rfl, HX, Ab5, HD, HB⟩ := hrel
    by_cases hlt : k < lp
    · have c1 : (k : Int) < lp := by omega
      obtain ⟨bL, off, rfl, hc⟩ := HP.out.cell (by omega)
      obtain ⟨ai, ni, ci, cc, hrd⟩ := hc k hlt
      have HRD : Hid (Rd w ai ni ci (L[k]?.getD [])) := hrd
      have cx := cell_later HB.out cc
      have hne : 0 < ni → ∀ p, ai = some p → p.block ≠ bi := by
        intro h0 p hp
        obtain ⟨b', o', ha, hc'⟩ := HRD.out.cell h0
        rw [ha] at hp
        cases hp
        have := World.block_lt_of_cell? w _ (hc' 0 h0)
        dsimp only at this ⊢
        omega
      have HNE : Hid (0 < ni → ∀ p, ai = some p → p.block ≠ bi) := hne
      have hfl : (xm8 54 B ++ (L.take k).flatten).length + ni ≤ 4611686018427387904 := by
        have h1 := flen_le L (k + 1)
        rw [flen_succ L k (by rw [HLL.out]; exact hlt), HRD.out.hlen] at h1
        unfold flen at h1
        rw [List.length_append, xm8_len, HBN.out.len]
        omega
      clear hc cc hrd hne
      go_wp2_with fail
      refine (write_c bi _ ai ni ci (L[k]?.getD []) _ HX.out (HG.out.later HB.out) (by omega) (by omega) (HRD.out.below HB.out) HNE.out hfl).mono ?_
      rintro e V ⟨rfl, HX2, hb⟩
      rw [List.append_assoc, ← flat_succ L k (by rw [HLL.out]; exact hlt)] at HX2
      replace HD : Hid (V.there q2 0 32) := there_extb hb n2 HD.out
      replace Ab5 : Hid (Ar V b5 64 (List.map (Value.int .u8) B)) := Ab5.out.extb hb n5
      replace HB : Hid (Below w.heap.size w V) := hb.below HB.out kbi
      clear hb cx
      go_wp2
      go_roundw
      case rel => exact ⟨k + 1, by omega, by go_num, HX2, Ab5, HD, HB⟩
      case measure => simp [intOf]; omega
    · have e : k = lp := by omega
      subst e
      rw [List.take_of_length_le (by rw [HLL.out]; exact Nat.le_refl _)] at HX
      go_wp2_with fail
      refine (sumh_c bi _ _ HX.out (HG.out.later HB.out) (by rw [List.length_append, xm8_len, HBN.out.len]; exact hT)).mono ?_
      rintro e V ⟨S1, rfl, HS1, hb⟩
      have HSN1 : Hid (Bn 32 S1) := by unfold Hid; rw [HS1.out]; exact sum7_bn _
      replace HD : Hid (V.there q2 0 32) := there_later hb HD.out
      replace Ab5 : Hid (Ar V b5 64 (List.map (Value.int .u8) B)) := Ab5.out.later hb
      replace HB : Hid (Below w.heap.size w V) := HB.out.trans (hb.mono HB.out.size)
      clear hb HX
      obtain ⟨hlenb9, honeb9, hib9⟩ := bn32_cells HSN1.out
      obtain ⟨csb9, hcs⟩ : ∃ cs, cs = (List.map (Value.int .u8) S1) := ⟨_, rfl⟩
      rw [← hcs] at hlenb9 honeb9 hib9 ⊢
      have HCb9 : Hid (csb9 = (List.map (Value.int .u8) S1)) := hcs
      clear hcs
      have hth := there_new V 32 #[.int .u8 0, .int .u8 0, .int .u8 0, .int .u8 0, .int .u8 0, .int .u8 0, .int .u8 0, .int .u8 0, .int .u8 0, .int .u8 0, .int .u8 0, .int .u8 0, .int .u8 0, .int .u8 0, .int .u8 0, .int .u8 0, .int .u8 0, .int .u8 0, .int .u8 0, .int .u8 0, .int .u8 0, .int .u8 0, .int .u8 0, .int .u8 0, .int .u8 0, .int .u8 0, .int .u8 0, .int .u8 0, .int .u8 0, .int .u8 0, .int .u8 0, .int .u8 0] rfl 27
      have Ab9 : Hid (Ar ((V.alloc (.cells #[.int .u8 0, .int .u8 0, .int .u8 0, .int .u8 0, .int .u8 0, .int .u8 0, .int .u8 0, .int .u8 0, .int .u8 0, .int .u8 0, .int .u8 0, .int .u8 0, .int .u8 0, .int .u8 0, .int .u8 0, .int .u8 0, .int .u8 0, .int .u8 0, .int .u8 0, .int .u8 0, .int .u8 0, .int .u8 0, .int .u8 0, .int .u8 0, .int .u8 0, .int .u8 0, .int .u8 0, .int .u8 0, .int .u8 0, .int .u8 0, .int .u8 0, .int .u8 0] 27)).setCells V.heap.size 0 csb9) V.heap.size 32 (List.map (Value.int .u8) S1)) := by rw [← HCb9.out]; exact ar_var _ _ 32 rfl _ _ hlenb9
      have hX : Below V.heap.size V ((V.alloc (.cells #[.int .u8 0, .int .u8 0, .int .u8 0, .int .u8 0, .int .u8 0, .int .u8 0, .int .u8 0, .int .u8 0, .int .u8 0, .int .u8 0, .int .u8 0, .int .u8 0, .int .u8 0, .int .u8 0, .int .u8 0, .int .u8 0, .int .u8 0, .int .u8 0, .int .u8 0, .int .u8 0, .int .u8 0, .int .u8 0, .int .u8 0, .int .u8 0, .int .u8 0, .int .u8 0, .int .u8 0, .int .u8 0, .int .u8 0, .int .u8 0, .int .u8 0, .int .u8 0] 27)).setCells V.heap.size 0 csb9) := bel_var _ _ _ _
      go_upto_region 9 with (refine wpList_store_mid rfl 27 (.tmp 9) (.tmp 26) rfl V.heap.size 0 csb9.toArray rfl rfl (by simpa [hlenb9] using hth) (by simpa using hib9) (all_oneCell_toArray honeb9) ?_)
      clear hth honeb9 hlenb9
      obtain ⟨W2, hnew⟩ : ∃ W, W = ((V.alloc (.cells #[.int .u8 0, .int .u8 0, .int .u8 0, .int .u8 0, .int .u8 0, .int .u8 0, .int .u8 0, .int .u8 0, .int .u8 0, .int .u8 0, .int .u8 0, .int .u8 0, .int .u8 0, .int .u8 0, .int .u8 0, .int .u8 0, .int .u8 0, .int .u8 0, .int .u8 0, .int .u8 0, .int .u8 0, .int .u8 0, .int .u8 0, .int .u8 0, .int .u8 0, .int .u8 0, .int .u8 0, .int .u8 0, .int .u8 0, .int .u8 0, .int .u8 0, .int .u8 0] 27)).setCells V.heap.size 0 csb9) := ⟨_, rfl⟩
      obtain ⟨b9, hblk⟩ : ∃ q, q = V.heap.size := ⟨_, rfl⟩
      rw [← hnew] at Ab9 hX ⊢
      rw [← hblk] at Ab9 ⊢
      rw [HCb9.out] at hib9
      clear hnew HCb9
      replace HD : Hid (W2.there q2 0 32) := there_later hX HD.out
      replace Ab5 : Hid (Ar W2 b5 64 (List.map (Value.int .u8) B)) := Ab5.out.later hX
      replace HB : Hid (Below w.heap.size w W2) := HB.out.trans (hX.mono HB.out.size)
      have kb9 : b9 < W2.heap.size := Ab9.out.lt (by decide)
      have kq2 : q2 < W2.heap.size := there_lt HD.out (by decide)
      clear hX hblk
      go_wp2_with (refine wpList_load_mid rfl 87 (.tmp 5) rfl b5 0 rfl (List.map (Value.int .u8) B) _ Ab5.out.rng Tryd.underlying87 rfl hib5 ?_)
      refine (begun_c B 92 HBN.out (by decide) _ (HG.out.later HB.out)).mono ?_
      rintro e V3 ⟨bo, rfl, hbo, HX, hb⟩
      replace Ab9 : Hid (Ar V3 b9 32 (List.map (Value.int .u8) S1)) := Ab9.out.later hb
      replace HD : Hid (V3.there q2 0 32) := there_later hb HD.out
      have kbo : w.heap.size ≤ bo := Nat.le_trans HB.out.size hbo
      replace HB : Hid (Below w.heap.size w V3) := HB.out.trans (hb.mono HB.out.size)
      have n9 : b9 ≠ bo := by omega
      have n2' : q2 ≠ bo := by omega
      clear hb hbo kb9 kq2 Ab5 hib5 hib9
      have HR9 : Hid (Rd V3 (some ⟨b9, 0, none⟩) 32 32 S1) := Ab9.out.rd_all HSN1.out.byt 32 (by decide)
      go_wp2_with fail
      refine (write_c bo _ (some ⟨b9, 0, none⟩) 32 32 S1 _ HX.out (HG.out.later HB.out) (by omega) (by omega) HR9.out (fun _ p hp => by cases hp; exact n9) (by rw [xm8_len, HBN.out.len]; decide)).mono ?_
      rintro e V4 ⟨rfl, HX2, hb⟩
      replace HD : Hid (V4.there q2 0 32) := there_extb hb n2' HD.out
      replace HB : Hid (Below w.heap.size w V4) := hb.below HB.out kbo
      clear hb HR9 Ab9 HX
      go_wp2_with fail
      refine (sumh_c bo _ _ HX2.out (HG.out.later HB.out) (by rw [List.length_append, xm8_len, HBN.out.len, HSN1.out.len]; decide)).mono ?_
      rintro e V5 ⟨S, rfl, HS, hb⟩
      have hSn : Bn 32 S := by rw [HS.out]; exact sum7_bn _
      replace HS : Hid (S = hm8 key L.flatten) := by unfold Hid hm8; rw [HS.out, HS1.out, HBe.out]
      replace HD : Hid (V5.there q2 0 32) := there_later hb HD.out
      replace HB : Hid (Below w.heap.size w V5) := HB.out.trans (hb.mono HB.out.size)
      clear hb HX2 HS1 HSN1 HBe
      obtain ⟨hlen', hone, hi⟩ := bn32_cells hSn
      obtain ⟨cs, hcs⟩ : ∃ cs, cs = (List.map (Value.int .u8) S) := ⟨_, rfl⟩
      have HC : Hid (cs = (List.map (Value.int .u8) S)) := hcs
      rw [← hcs] at hlen' hone hi ⊢
      clear hcs
      have hth := HD.out
      go_wp2_with (refine wpList_store_mid rfl 27 (.tmp 4) (.tmp 33) rfl q2 0 cs.toArray rfl rfl (by simpa [hlen'] using hth) (by simpa using hi) (all_oneCell_toArray hone) ?_)
      have HR2 : Hid ((V5.setCells q2 0 cs).rangeAt q2 0 cs) := World.rangeAt_setCells_same _ _ _ _ (by rw [hlen']; exact hth)
      have hld := run_loadVar_mid (P := Tryd.prog) _ _ 0 27 _ _ HR2.out Tryd.underlying27 rfl hi
      exact bodyPost_ret (v := .agg cs.toArray) (by simp [results, Tryd.results41]; exact hld) rfl ⟨S, by rw [HC.out], HS, below_setCells _ (by have := HQ.out; omega) _ _ _ HB.out⟩


end Go.Proofs.YtmibjgkakolhiaaDoor
