/-
  What kdf's filled does: a key as a block. No statement of the seat is proved here.
-/
import Derived.Test.YtmibjgkakolhiaaDoorPk32
import Derived.Test.YtmibjgkakolhiaaDoorBSum
namespace Go.Proofs.YtmibjgkakolhiaaDoor
open Go.RowKit

set_option maxRecDepth 8000 in
set_option maxHeartbeats 4000000 in
theorem filled_c (a : Option Addr) (len cap : Nat) (l : List Int) (w : World) (hr : Rd w a len cap l) (hg : Gb w) (hlen : len ≤ 4611686018427387904) :
    Calls Tryd.prog 51 #[.slice a len cap] w fun e w' => ∃ B, e = .returned (.agg (List.map (Value.int .u8) B).toArray) ∧ Hid (B = kp8 l) ∧ Below w.heap.size w w' := by
  have HR : Hid (Rd w a len cap l) := hr
  have HG : Hid (Gb w) := hg
  have HLL : Hid (l.length = len) := hr.hlen
  have HB8 : Hid (Byt l) := hr.byt
  clear hr hg
  go_enter Tryd.func51, Tryd.ntmps51
  go_upto_region 1 with fail
  have HD : Hid ((w.alloc (.cells #[.int .u8 0, .int .u8 0, .int .u8 0, .int .u8 0, .int .u8 0, .int .u8 0, .int .u8 0, .int .u8 0, .int .u8 0, .int .u8 0, .int .u8 0, .int .u8 0, .int .u8 0, .int .u8 0, .int .u8 0, .int .u8 0, .int .u8 0, .int .u8 0, .int .u8 0, .int .u8 0, .int .u8 0, .int .u8 0, .int .u8 0, .int .u8 0, .int .u8 0, .int .u8 0, .int .u8 0, .int .u8 0, .int .u8 0, .int .u8 0, .int .u8 0, .int .u8 0, .int .u8 0, .int .u8 0, .int .u8 0, .int .u8 0, .int .u8 0, .int .u8 0, .int .u8 0, .int .u8 0, .int .u8 0, .int .u8 0, .int .u8 0, .int .u8 0, .int .u8 0, .int .u8 0, .int .u8 0, .int .u8 0, .int .u8 0, .int .u8 0, .int .u8 0, .int .u8 0, .int .u8 0, .int .u8 0, .int .u8 0, .int .u8 0, .int .u8 0, .int .u8 0, .int .u8 0, .int .u8 0, .int .u8 0, .int .u8 0, .int .u8 0, .int .u8 0] 87)).there w.heap.size 0 64) := by unfold Hid; exact there_new _ 64 _ rfl _
  have HB : Hid (Below w.heap.size w (w.alloc (.cells #[.int .u8 0, .int .u8 0, .int .u8 0, .int .u8 0, .int .u8 0, .int .u8 0, .int .u8 0, .int .u8 0, .int .u8 0, .int .u8 0, .int .u8 0, .int .u8 0, .int .u8 0, .int .u8 0, .int .u8 0, .int .u8 0, .int .u8 0, .int .u8 0, .int .u8 0, .int .u8 0, .int .u8 0, .int .u8 0, .int .u8 0, .int .u8 0, .int .u8 0, .int .u8 0, .int .u8 0, .int .u8 0, .int .u8 0, .int .u8 0, .int .u8 0, .int .u8 0, .int .u8 0, .int .u8 0, .int .u8 0, .int .u8 0, .int .u8 0, .int .u8 0, .int .u8 0, .int .u8 0, .int .u8 0, .int .u8 0, .int .u8 0, .int .u8 0, .int .u8 0, .int .u8 0, .int .u8 0, .int .u8 0, .int .u8 0, .int .u8 0, .int .u8 0, .int .u8 0, .int .u8 0, .int .u8 0, .int .u8 0, .int .u8 0, .int .u8 0, .int .u8 0, .int .u8 0, .int .u8 0, .int .u8 0, .int .u8 0, .int .u8 0, .int .u8 0] 87))) := bel1 _ _
  obtain ⟨W0, hW0⟩ : ∃ W, W = (w.alloc (.cells #[.int .u8 0, .int .u8 0, .int .u8 0, .int .u8 0, .int .u8 0, .int .u8 0, .int .u8 0, .int .u8 0, .int .u8 0, .int .u8 0, .int .u8 0, .int .u8 0, .int .u8 0, .int .u8 0, .int .u8 0, .int .u8 0, .int .u8 0, .int .u8 0, .int .u8 0, .int .u8 0, .int .u8 0, .int .u8 0, .int .u8 0, .int .u8 0, .int .u8 0, .int .u8 0, .int .u8 0, .int .u8 0, .int .u8 0, .int .u8 0, .int .u8 0, .int .u8 0, .int .u8 0, .int .u8 0, .int .u8 0, .int .u8 0, .int .u8 0, .int .u8 0, .int .u8 0, .int .u8 0, .int .u8 0, .int .u8 0, .int .u8 0, .int .u8 0, .int .u8 0, .int .u8 0, .int .u8 0, .int .u8 0, .int .u8 0, .int .u8 0, .int .u8 0, .int .u8 0, .int .u8 0, .int .u8 0, .int .u8 0, .int .u8 0, .int .u8 0, .int .u8 0, .int .u8 0, .int .u8 0, .int .u8 0, .int .u8 0, .int .u8 0, .int .u8 0] 87)) := ⟨_, rfl⟩
  obtain ⟨q2, hq2⟩ : ∃ q, q = w.heap.size := ⟨_, rfl⟩
  rw [← hW0] at HD HB ⊢
  have HQ : Hid (q2 = w.heap.size) := hq2
  rw [← hq2] at HD ⊢
  have k1 : q2 < W0.heap.size := there_lt HD.out (by decide)
  clear hW0 hq2
  replace HR : Hid (Rd W0 a len cap l) := HR.out.below HB.out
  replace HG : Hid (Gb W0) := HG.out.later HB.out
  go_upto_if 7 with fail
  go_cut [0] from 7 (fun v wx => ∃ (a' : Option Addr) (n' c' : Nat) (l' : List Int), v = .slice a' n' c' ∧ Hid (Rd wx a' n' c' l') ∧ n' ≤ 64 ∧ Hid (l' = if 64 < l.length then sum7 l else l) ∧ Hid (Below W0.heap.size W0 wx))
  case first =>
    by_cases hgt : 64 < len
    · have q1 : (64 : Int) < (len : Int) := by omega
      have hb1 := bel1 W0 (.cells #[.slice a len cap] 35)
      have Y1 : Hid (RdL (W0.alloc (.cells #[.slice a len cap] 35)) (some ⟨W0.heap.size, 0, none⟩) 1 [l]) := RdL.one W0 _ len cap _ 35 HR.out
      go_wp2_with fail
      refine (sum_c (some ⟨W0.heap.size, 0, none⟩) 1 1 [l] _ Y1.out (HG.out.later hb1) (by decide) (by simp only [List.flatten_cons, List.flatten_nil, List.append_nil]; rw [HLL.out]; exact hlen)).mono ?_
      rintro e V1 ⟨S1, rfl, HS1, hb⟩
      replace HS1 : Hid (S1 = sum7 l) := by have := HS1.out; rwa [List.flatten_cons, List.flatten_nil, List.append_nil] at this
      have hb2 : Below W0.heap.size W0 V1 := hb1.trans (hb.mono hb1.size)
      have hSn : Bn 32 S1 := by rw [HS1.out]; exact sum7_bn _
      clear hb hb1 Y1
      obtain ⟨hlenb1, honeb1, hib1⟩ := bn32_cells hSn
      obtain ⟨csb1, hcs⟩ : ∃ cs, cs = (List.map (Value.int .u8) S1) := ⟨_, rfl⟩
      rw [← hcs] at hlenb1 honeb1 hib1 ⊢
      have HCb1 : Hid (csb1 = (List.map (Value.int .u8) S1)) := hcs
      clear hcs
      have hth := there_new V1 32 #[.int .u8 0, .int .u8 0, .int .u8 0, .int .u8 0, .int .u8 0, .int .u8 0, .int .u8 0, .int .u8 0, .int .u8 0, .int .u8 0, .int .u8 0, .int .u8 0, .int .u8 0, .int .u8 0, .int .u8 0, .int .u8 0, .int .u8 0, .int .u8 0, .int .u8 0, .int .u8 0, .int .u8 0, .int .u8 0, .int .u8 0, .int .u8 0, .int .u8 0, .int .u8 0, .int .u8 0, .int .u8 0, .int .u8 0, .int .u8 0, .int .u8 0, .int .u8 0] rfl 27
      have Ab1 : Hid (Ar ((V1.alloc (.cells #[.int .u8 0, .int .u8 0, .int .u8 0, .int .u8 0, .int .u8 0, .int .u8 0, .int .u8 0, .int .u8 0, .int .u8 0, .int .u8 0, .int .u8 0, .int .u8 0, .int .u8 0, .int .u8 0, .int .u8 0, .int .u8 0, .int .u8 0, .int .u8 0, .int .u8 0, .int .u8 0, .int .u8 0, .int .u8 0, .int .u8 0, .int .u8 0, .int .u8 0, .int .u8 0, .int .u8 0, .int .u8 0, .int .u8 0, .int .u8 0, .int .u8 0, .int .u8 0] 27)).setCells V1.heap.size 0 csb1) V1.heap.size 32 (List.map (Value.int .u8) S1)) := by rw [← HCb1.out]; exact ar_var _ _ 32 rfl _ _ hlenb1
      have hX : Below V1.heap.size V1 ((V1.alloc (.cells #[.int .u8 0, .int .u8 0, .int .u8 0, .int .u8 0, .int .u8 0, .int .u8 0, .int .u8 0, .int .u8 0, .int .u8 0, .int .u8 0, .int .u8 0, .int .u8 0, .int .u8 0, .int .u8 0, .int .u8 0, .int .u8 0, .int .u8 0, .int .u8 0, .int .u8 0, .int .u8 0, .int .u8 0, .int .u8 0, .int .u8 0, .int .u8 0, .int .u8 0, .int .u8 0, .int .u8 0, .int .u8 0, .int .u8 0, .int .u8 0, .int .u8 0, .int .u8 0] 27)).setCells V1.heap.size 0 csb1) := bel_var _ _ _ _
      go_upto_region 3 with (refine wpList_store_mid rfl 27 (.tmp 3) (.tmp 10) rfl V1.heap.size 0 csb1.toArray rfl rfl (by simpa [hlenb1] using hth) (by simpa using hib1) (all_oneCell_toArray honeb1) ?_)
      clear hth honeb1 hlenb1
      obtain ⟨W1, hnew⟩ : ∃ W, W = ((V1.alloc (.cells #[.int .u8 0, .int .u8 0, .int .u8 0, .int .u8 0, .int .u8 0, .int .u8 0, .int .u8 0, .int .u8 0, .int .u8 0, .int .u8 0, .int .u8 0, .int .u8 0, .int .u8 0, .int .u8 0, .int .u8 0, .int .u8 0, .int .u8 0, .int .u8 0, .int .u8 0, .int .u8 0, .int .u8 0, .int .u8 0, .int .u8 0, .int .u8 0, .int .u8 0, .int .u8 0, .int .u8 0, .int .u8 0, .int .u8 0, .int .u8 0, .int .u8 0, .int .u8 0] 27)).setCells V1.heap.size 0 csb1) := ⟨_, rfl⟩
      obtain ⟨b1, hblk⟩ : ∃ q, q = V1.heap.size := ⟨_, rfl⟩
      rw [← hnew] at Ab1 hX ⊢
      rw [← hblk] at Ab1 ⊢
      rw [HCb1.out] at hib1
      clear hnew HCb1
      clear hblk
      replace hX : Below W0.heap.size W0 W1 := hb2.trans (hX.mono hb2.size)
      go_wp2_with fail
      go_meet
      case rel => exact ⟨_, 32, 32, S1, rfl, Ab1.out.rd_all hSn.byt 32 (by decide), by decide, by unfold Hid; rw [if_pos (by rw [HLL.out]; exact hgt)]; exact HS1.out, hX⟩
    · have q1 : ¬ (64 : Int) < (len : Int) := by omega
      go_wp2_with fail
      go_meet
      case rel => exact ⟨a, len, cap, l, rfl, HR, by omega, by unfold Hid; rw [if_neg (by rw [HLL.out]; exact hgt)], Below.refl _ _⟩
  case rest =>
    obtain ⟨a', n', c', l', rfl, HR2, hn', HL2, HB2⟩ := hcut
    obtain ⟨W1, hW1⟩ : ∃ W, W = wc := ⟨_, rfl⟩
    rw [← hW1] at HR2 HB2 ⊢
    clear hW1
    replace HD : Hid (W1.there q2 0 64) := there_later HB2.out HD.out
    replace HB : Hid (Below w.heap.size w W1) := HB.out.trans (HB2.out.mono HB.out.size)
    replace k1 : q2 < W1.heap.size := by have := HB2.out.size; omega
    have hLl : l'.length = n' := HR2.out.hlen
    clear HR HG HB2
    go_upto_region 5 with fail
    have hb := bel1 W1 (.cells #[.int .u8 0, .int .u8 0, .int .u8 0, .int .u8 0, .int .u8 0, .int .u8 0, .int .u8 0, .int .u8 0, .int .u8 0, .int .u8 0, .int .u8 0, .int .u8 0, .int .u8 0, .int .u8 0, .int .u8 0, .int .u8 0, .int .u8 0, .int .u8 0, .int .u8 0, .int .u8 0, .int .u8 0, .int .u8 0, .int .u8 0, .int .u8 0, .int .u8 0, .int .u8 0, .int .u8 0, .int .u8 0, .int .u8 0, .int .u8 0, .int .u8 0, .int .u8 0, .int .u8 0, .int .u8 0, .int .u8 0, .int .u8 0, .int .u8 0, .int .u8 0, .int .u8 0, .int .u8 0, .int .u8 0, .int .u8 0, .int .u8 0, .int .u8 0, .int .u8 0, .int .u8 0, .int .u8 0, .int .u8 0, .int .u8 0, .int .u8 0, .int .u8 0, .int .u8 0, .int .u8 0, .int .u8 0, .int .u8 0, .int .u8 0, .int .u8 0, .int .u8 0, .int .u8 0, .int .u8 0, .int .u8 0, .int .u8 0, .int .u8 0, .int .u8 0] 87)
    have AD : Hid (Ar (W1.alloc (.cells #[.int .u8 0, .int .u8 0, .int .u8 0, .int .u8 0, .int .u8 0, .int .u8 0, .int .u8 0, .int .u8 0, .int .u8 0, .int .u8 0, .int .u8 0, .int .u8 0, .int .u8 0, .int .u8 0, .int .u8 0, .int .u8 0, .int .u8 0, .int .u8 0, .int .u8 0, .int .u8 0, .int .u8 0, .int .u8 0, .int .u8 0, .int .u8 0, .int .u8 0, .int .u8 0, .int .u8 0, .int .u8 0, .int .u8 0, .int .u8 0, .int .u8 0, .int .u8 0, .int .u8 0, .int .u8 0, .int .u8 0, .int .u8 0, .int .u8 0, .int .u8 0, .int .u8 0, .int .u8 0, .int .u8 0, .int .u8 0, .int .u8 0, .int .u8 0, .int .u8 0, .int .u8 0, .int .u8 0, .int .u8 0, .int .u8 0, .int .u8 0, .int .u8 0, .int .u8 0, .int .u8 0, .int .u8 0, .int .u8 0, .int .u8 0, .int .u8 0, .int .u8 0, .int .u8 0, .int .u8 0, .int .u8 0, .int .u8 0, .int .u8 0, .int .u8 0] 87)) W1.heap.size 64 (List.map (Value.int .u8) (List.replicate 64 0))) := ar_box W1 (List.map (Value.int .u8) (List.replicate 64 0)) 64 rfl 87
    replace HR2 : Hid (Rd (W1.alloc (.cells #[.int .u8 0, .int .u8 0, .int .u8 0, .int .u8 0, .int .u8 0, .int .u8 0, .int .u8 0, .int .u8 0, .int .u8 0, .int .u8 0, .int .u8 0, .int .u8 0, .int .u8 0, .int .u8 0, .int .u8 0, .int .u8 0, .int .u8 0, .int .u8 0, .int .u8 0, .int .u8 0, .int .u8 0, .int .u8 0, .int .u8 0, .int .u8 0, .int .u8 0, .int .u8 0, .int .u8 0, .int .u8 0, .int .u8 0, .int .u8 0, .int .u8 0, .int .u8 0, .int .u8 0, .int .u8 0, .int .u8 0, .int .u8 0, .int .u8 0, .int .u8 0, .int .u8 0, .int .u8 0, .int .u8 0, .int .u8 0, .int .u8 0, .int .u8 0, .int .u8 0, .int .u8 0, .int .u8 0, .int .u8 0, .int .u8 0, .int .u8 0, .int .u8 0, .int .u8 0, .int .u8 0, .int .u8 0, .int .u8 0, .int .u8 0, .int .u8 0, .int .u8 0, .int .u8 0, .int .u8 0, .int .u8 0, .int .u8 0, .int .u8 0, .int .u8 0] 87)) a' n' c' l') := HR2.out.below hb
    replace HD : Hid ((W1.alloc (.cells #[.int .u8 0, .int .u8 0, .int .u8 0, .int .u8 0, .int .u8 0, .int .u8 0, .int .u8 0, .int .u8 0, .int .u8 0, .int .u8 0, .int .u8 0, .int .u8 0, .int .u8 0, .int .u8 0, .int .u8 0, .int .u8 0, .int .u8 0, .int .u8 0, .int .u8 0, .int .u8 0, .int .u8 0, .int .u8 0, .int .u8 0, .int .u8 0, .int .u8 0, .int .u8 0, .int .u8 0, .int .u8 0, .int .u8 0, .int .u8 0, .int .u8 0, .int .u8 0, .int .u8 0, .int .u8 0, .int .u8 0, .int .u8 0, .int .u8 0, .int .u8 0, .int .u8 0, .int .u8 0, .int .u8 0, .int .u8 0, .int .u8 0, .int .u8 0, .int .u8 0, .int .u8 0, .int .u8 0, .int .u8 0, .int .u8 0, .int .u8 0, .int .u8 0, .int .u8 0, .int .u8 0, .int .u8 0, .int .u8 0, .int .u8 0, .int .u8 0, .int .u8 0, .int .u8 0, .int .u8 0, .int .u8 0, .int .u8 0, .int .u8 0, .int .u8 0] 87)).there q2 0 64) := there_later hb HD.out
    replace HB : Hid (Below w.heap.size w (W1.alloc (.cells #[.int .u8 0, .int .u8 0, .int .u8 0, .int .u8 0, .int .u8 0, .int .u8 0, .int .u8 0, .int .u8 0, .int .u8 0, .int .u8 0, .int .u8 0, .int .u8 0, .int .u8 0, .int .u8 0, .int .u8 0, .int .u8 0, .int .u8 0, .int .u8 0, .int .u8 0, .int .u8 0, .int .u8 0, .int .u8 0, .int .u8 0, .int .u8 0, .int .u8 0, .int .u8 0, .int .u8 0, .int .u8 0, .int .u8 0, .int .u8 0, .int .u8 0, .int .u8 0, .int .u8 0, .int .u8 0, .int .u8 0, .int .u8 0, .int .u8 0, .int .u8 0, .int .u8 0, .int .u8 0, .int .u8 0, .int .u8 0, .int .u8 0, .int .u8 0, .int .u8 0, .int .u8 0, .int .u8 0, .int .u8 0, .int .u8 0, .int .u8 0, .int .u8 0, .int .u8 0, .int .u8 0, .int .u8 0, .int .u8 0, .int .u8 0, .int .u8 0, .int .u8 0, .int .u8 0, .int .u8 0, .int .u8 0, .int .u8 0, .int .u8 0, .int .u8 0] 87))) := HB.out.trans (hb.mono HB.out.size)
    obtain ⟨W2, hW2⟩ : ∃ W, W = W1.alloc (.cells #[.int .u8 0, .int .u8 0, .int .u8 0, .int .u8 0, .int .u8 0, .int .u8 0, .int .u8 0, .int .u8 0, .int .u8 0, .int .u8 0, .int .u8 0, .int .u8 0, .int .u8 0, .int .u8 0, .int .u8 0, .int .u8 0, .int .u8 0, .int .u8 0, .int .u8 0, .int .u8 0, .int .u8 0, .int .u8 0, .int .u8 0, .int .u8 0, .int .u8 0, .int .u8 0, .int .u8 0, .int .u8 0, .int .u8 0, .int .u8 0, .int .u8 0, .int .u8 0, .int .u8 0, .int .u8 0, .int .u8 0, .int .u8 0, .int .u8 0, .int .u8 0, .int .u8 0, .int .u8 0, .int .u8 0, .int .u8 0, .int .u8 0, .int .u8 0, .int .u8 0, .int .u8 0, .int .u8 0, .int .u8 0, .int .u8 0, .int .u8 0, .int .u8 0, .int .u8 0, .int .u8 0, .int .u8 0, .int .u8 0, .int .u8 0, .int .u8 0, .int .u8 0, .int .u8 0, .int .u8 0, .int .u8 0, .int .u8 0, .int .u8 0, .int .u8 0] 87) := ⟨_, rfl⟩
    obtain ⟨gb, hgb⟩ : ∃ q, q = W1.heap.size := ⟨_, rfl⟩
    rw [← hW2] at AD HR2 HD HB ⊢
    rw [← hgb] at AD k1 ⊢
    clear hW2 hgb hb
    go_cut [] from 12 (fun wx => Hid (Ar wx gb 64 (List.map (Value.int .u8) (pad7 l'))) ∧ Hid (ExtB gb W2 wx))
    case first =>
      have hA := AD.out
      have hAC : Ar (W2.setCells gb 0 (List.map (Value.int .u8) l')) gb 64 (List.map (Value.int .u8) (pad7 l')) := by
        have := hA.part 0 (List.map (Value.int .u8) l') (by rw [List.length_map]; omega)
        rw [List.length_map, ← List.map_take, ← List.map_drop, ← List.map_append, ← List.map_append, pad8_copy] at this
        exact this
      rcases a' with _ | ⟨ba, off, sp⟩
      · obtain ⟨hr0, hc0, -⟩ := HR2.out.none_len
        have hC0 : l' = [] := List.eq_nil_of_length_eq_zero (by omega)
        subst hr0 hc0
        have hcp := fun ty => run_copy_none (P := Tryd.prog) W2 35 35 ty 5 (some ⟨gb, 0, none⟩) none 64 64 0 0 Tryd.underlying35 (by kernel_rfl) (by decide)
        go_wp2_with fail
        go_meet
        case rel => exact ⟨by rw [hC0] at hAC ⊢; exact hAC, ExtB.refl _ _⟩
      · have hle := HR2.out.hle
        have hcp := fun ty => copy_c W2 gb 0 64 64 ⟨ba, off, sp⟩ n' c' l' HR2.out n' (by omega) (there_part AD.out.all 0 n' (by omega)) ty
        rw [List.take_of_length_le (by omega)] at hcp
        go_wp2_with fail
        go_meet
        case rel => exact ⟨hAC, extB_setCells _ _ _ (ExtB.refl _ _)⟩
    case rest =>
      obtain ⟨AB, HE⟩ := hcut
      replace HD : Hid (wc.there q2 0 64) := there_extb HE.out (by omega) HD.out
      have hbw : w.heap.size ≤ gb := by have := HQ.out; omega
      replace HB : Hid (Below w.heap.size w wc) := HE.out.below HB.out hbw
      obtain ⟨K, HK⟩ : ∃ K, Hid (K = kp8 l) := ⟨_, rfl⟩
      have hKe : pad7 l' = K := by rw [HL2.out, HK.out]; rfl
      rw [hKe] at AB
      have hKn : Bn 64 K := ⟨by have := AB.out.len; rwa [List.length_map] at this, by rw [HK.out]; exact kp8_byt HB8.out⟩
      clear hKe HL2 AD HR2 HE
      obtain ⟨_, _, hi0⟩ := bn64_cells7 hKn
      have hR : wc.rangeAt gb 0 (List.map (Value.int .u8) K) := AB.out.rng
      obtain ⟨hlen', hone, hi⟩ := bn64_cells7 hKn
      obtain ⟨cs, hcs⟩ : ∃ cs, cs = (List.map (Value.int .u8) K) := ⟨_, rfl⟩
      have HC : Hid (cs = (List.map (Value.int .u8) K)) := hcs
      rw [← hcs] at hlen' hone hi hR
      clear hcs hi0
      have hth := HD.out
      go_wp2_with (first
        | (refine wpList_load_mid rfl 87 (.tmp 4) rfl gb 0 rfl cs _ hR Tryd.underlying87 rfl hi ?_)
        | (refine wpList_store_mid rfl 87 (.tmp 2) (.tmp 15) rfl q2 0 cs.toArray rfl rfl (by simpa [hlen'] using hth) (by simpa using hi) (all_oneCell_toArray hone) ?_))
      have HR2 : Hid ((wc.setCells q2 0 cs).rangeAt q2 0 cs) := World.rangeAt_setCells_same _ _ _ _ (by rw [hlen']; exact hth)
      have hld := run_loadVar_mid (P := Tryd.prog) _ _ 0 87 _ _ HR2.out Tryd.underlying87 rfl hi
      exact bodyPost_ret (v := .agg cs.toArray) (by simp [results, Tryd.results51]; exact hld) rfl ⟨K, by rw [HC.out], HK, below_setCells _ (by have := HQ.out; omega) _ _ _ HB.out⟩
end Go.Proofs.YtmibjgkakolhiaaDoor
