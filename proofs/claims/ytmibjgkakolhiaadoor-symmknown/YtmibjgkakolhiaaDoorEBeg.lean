/-
  What kdf's begun does: a hash of a key's block, turned by a pad. No statement of the seat is proved here.
-/
import Derived.Test.YtmibjgkakolhiaaDoorEFill
namespace Go.Proofs.YtmibjgkakolhiaaDoor
open Go.RowKit

set_option maxRecDepth 8000 in
set_option maxHeartbeats 4000000 in
theorem begun_c (B : List Int) (x : Int) (hB : Bn 64 B) (hx : 0 ≤ x ∧ x ≤ 255) (w : World) (hg : Gb w) :
    Calls Tryd.prog 52 #[(.agg (List.map (Value.int .u8) B).toArray), .int .u8 x] w fun e w' => ∃ b, e = .returned (.pointer (some ⟨b, 0, none⟩)) ∧ w.heap.size ≤ b ∧ Hid (Hx w' b (xm8 x B)) ∧ Below w.heap.size w w' := by
  have HG : Hid (Gb w) := hg
  have hgw := hg
  have HBn : Hid (Bn 64 B) := hB
  clear hg hB
  go_enter Tryd.func52, Tryd.ntmps52
  go_upto_region 1 with fail
  have AD : Hid (Ar (w.alloc (.cells (List.map (Value.int .u8) B).toArray 87)) w.heap.size 64 (List.map (Value.int .u8) (xw8 x B 0))) := by unfold Hid; rw [xw8_zero]; exact ar_box w _ 64 HBn.out.map_len 87
  have HB : Hid (Below w.heap.size w (w.alloc (.cells (List.map (Value.int .u8) B).toArray 87))) := bel1 _ _
  obtain ⟨W0, hW0⟩ : ∃ W, W = (w.alloc (.cells (List.map (Value.int .u8) B).toArray 87)) := ⟨_, rfl⟩
  obtain ⟨bq, hbq⟩ : ∃ q, q = w.heap.size := ⟨_, rfl⟩
  rw [← hW0] at AD HB ⊢
  have HQ : Hid (bq = w.heap.size) := hbq
  rw [← hbq] at AD ⊢
  replace HG : Hid (Gb W0) := HG.out.later HB.out
  clear hW0 hbq
  go_wp2
  go_loopw [7] (fun i wr => ∃ k : Nat, k ≤ 64 ∧ i = .int .i64 k ∧ Hid (Ar wr bq 64 (List.map (Value.int .u8) (xw8 x B k))) ∧ Hid (Gb wr) ∧ Hid (Below w.heap.size w wr)) (fun i _ => 64 - (intOf i).toNat)
  case atStart => exact ⟨0, by decide, rfl, AD, HG, HB⟩
  case round =>
    clear AD HG HB
    obtain ⟨k, hk, rfl, AD, HG, HB⟩ := hrel
    by_cases hlt : k < 64
    · have c1 : (k : Int) < 64 := by omega
      obtain ⟨y, hy0, hy1, hyl⟩ := byte_at HBn.out k hlt
      have hc := cell8 AD.out (xw8_get x B k (by rw [HBn.out.len]; exact hlt)) hlt
      obtain ⟨ck, fk⟩ := hc
      rw [hyl] at ck
      obtain ⟨z, hz⟩ : ∃ z, z = bits .xor .u8 y x := ⟨_, rfl⟩
      have hzz : bits .xor .u8 y x = z := hz.symm
      have AN : Hid (Ar (wr.setCell ⟨bq, k, none⟩ (.int .u8 z)) bq 64 (List.map (Value.int .u8) (xw8 x B (k + 1)))) := by
        have := AD.out.set k hlt (.int .u8 z)
        unfold Hid
        rw [xw8_succ x B k (by rw [HBn.out.len]; exact hlt), hyl, hzz, List.map_set]
        exact this
      have HG' : Hid (Gb (wr.setCell ⟨bq, k, none⟩ (.int .u8 z))) := HG.out.set bq k (by have := HQ.out; have := hgw.ivlt; omega) (by have := HQ.out; have := hgw.sglt; omega) _
      have HB' : Hid (Below w.heap.size w (wr.setCell ⟨bq, k, none⟩ (.int .u8 z))) := HB.out.setCell (p := ⟨bq, k, none⟩) (by have := HQ.out; dsimp only; omega) _
      clear hz hyl AD HG HB
      go_wp2
      go_roundw
      case rel => exact ⟨k + 1, by omega, by go_num, AN, HG', HB'⟩
      case measure => simp [intOf]; omega
    · have e : k = 64 := by omega
      subst e
      rw [xw8_all x B HBn.out.len] at AD
      have hXB : Byt (xm8 x B) := xm8_byt hx HBn.out.byt
      have hbq0 : bq < wr.heap.size := AD.out.lt (by decide)
      go_wp2_with fail
      refine (new_c _ HG.out).mono ?_
      rintro e V0 ⟨rfl, HX, hb⟩
      replace AD : Hid (Ar V0 bq 64 (List.map (Value.int .u8) (xm8 x B))) := AD.out.later hb
      obtain ⟨b0, hb0⟩ : ∃ q, q = wr.heap.size := ⟨_, rfl⟩
      rw [← hb0] at HX hbq0 ⊢
      have kb : w.heap.size ≤ b0 := by rw [hb0]; exact HB.out.size
      replace HG : Hid (Gb V0) := HG.out.later hb
      replace HB : Hid (Below w.heap.size w V0) := HB.out.trans (hb.mono HB.out.size)
      have g0 := HG.out.ivlt
      have g1 := HG.out.sglt
      clear hb hb0
      have HRX : Hid (Rd V0 (some ⟨bq, 0, none⟩) 64 64 (xm8 x B)) := AD.out.rd_all hXB 64 (by decide)
      go_wp2_with fail
      refine (write_c b0 [] (some ⟨bq, 0, none⟩) 64 64 (xm8 x B) _ HX.out HG.out (by have := hgw.ivlt; have := hgw.sglt; omega) (by have := hgw.ivlt; have := hgw.sglt; omega) HRX.out (fun _ p hp => by cases hp; dsimp only; omega) (by decide)).mono ?_
      rintro e V1 ⟨rfl, HX2, hb⟩
      replace HX2 : Hid (Hx V1 b0 (xm8 x B)) := HX2.out
      replace HB : Hid (Below w.heap.size w V1) := hb.below HB.out kb
      clear hb
      go_wp2
      go_ret
      exact ⟨b0, rfl, kb, HX2, HB.out⟩
end Go.Proofs.YtmibjgkakolhiaaDoor
