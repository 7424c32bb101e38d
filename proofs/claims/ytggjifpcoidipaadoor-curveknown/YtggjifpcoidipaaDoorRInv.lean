/-
  What the reference's Invert does: the power p - 2. No statement of the seat is proved here.
-/
import Derived.Test.YtggjifpcoidipaaDoorRMul
namespace Go.Proofs.YtggjifpcoidipaaDoor
open Go.RowKit

/-- The bits of p - 2. -/
theorem bits_n : ∀ s, s < 255 → 57896044618658097711785492504343953926634992332820282019728792003956564819947 / 2 ^ s % 2 = if s = 2 ∨ s = 4 then 0 else 1 := by decide +kernel
theorem pow_step (s : Nat) (h : s < 255) : 57896044618658097711785492504343953926634992332820282019728792003956564819947 / 2 ^ s = 2 * (57896044618658097711785492504343953926634992332820282019728792003956564819947 / 2 ^ (s + 1)) + (if s = 2 ∨ s = 4 then 0 else 1) := by
  rw [← bits_n s h, Nat.pow_succ, ← Nat.div_div_eq_div_mul]
  generalize 57896044618658097711785492504343953926634992332820282019728792003956564819947 / 2 ^ s = q
  omega
theorem nv_el {x : Int} (h : El x) : nv (dg 16 x) = x := nv_dg 16 x h.h0 (Int.lt_trans h.h1 (by decide))
theorem one_eq : (.agg #[.int .u64 1, .int .u64 0, .int .u64 0, .int .u64 0, .int .u64 0, .int .u64 0, .int .u64 0, .int .u64 0, .int .u64 0, .int .u64 0, .int .u64 0, .int .u64 0, .int .u64 0, .int .u64 0, .int .u64 0, .int .u64 0] : Value) = .agg (List.map (Value.int .u64) (dg 16 1)).toArray := by kernel_rfl
theorem pw_nought (x : Int) : pw x 0 = 1 := by
  unfold pw
  rw [Int.pow_zero]
  rfl
theorem pw_succ (x : Int) (hx : El x) (n : Nat) : pw x n * x % 57896044618658097711785492504343953926634992332820282019728792003956564819949 = pw x (n + 1) := by
  have := pw_mul x n 1
  rwa [pw_one x hx] at this

/-- A product of two numbers below p. -/
theorem rmul_el (a b : List Int) (x y : Int) (hx : El x) (hy : El y) (HA : Hid (a = dg 16 x)) (HY : Hid (b = dg 16 y)) (w : World) (hg : Gp w) :
    Calls Tryd.prog 13 #[.agg (List.map (Value.int .u64) a).toArray, .agg (List.map (Value.int .u64) b).toArray] w fun e w' => ∃ z, e = .returned (.agg (List.map (Value.int .u64) z).toArray) ∧ Hid (z = dg 16 (x * y % 57896044618658097711785492504343953926634992332820282019728792003956564819949)) ∧ Below w.heap.size w w' := by
  refine (rmul_any a b (by rw [HA.out, dg_length]) (by rw [HY.out, dg_length]) (by rw [HA.out]; exact dg_dg _ _) (by rw [HY.out]; exact dg_dg _ _) w hg).mono ?_
  rintro e w' ⟨z, rfl, HZ, hb⟩
  refine ⟨z, rfl, ?_, hb⟩
  unfold Hid
  rw [HZ.out, HA.out, HY.out, nv_el hx, nv_el hy]

set_option maxHeartbeats 8000000 in
theorem rinvert_any (a : List Int) (x : Int) (hx : El x) (HA : Hid (a = dg 16 x)) (w : World) (hg : Gp w) :
    Calls Tryd.prog 15 #[.agg (List.map (Value.int .u64) a).toArray] w fun e w' => ∃ z, e = .returned (.agg (List.map (Value.int .u64) z).toArray) ∧ Hid (z = dg 16 (pw x 57896044618658097711785492504343953926634992332820282019728792003956564819947)) ∧ Below w.heap.size w w' := by
  have ha : a.length = 16 := by rw [HA.out, dg_length]
  go_enter Tryd.func15, Tryd.ntmps15
  go_wp2
  have HL : Hid (Wrd (((w.alloc (.cells (List.map (Value.int .u64) a).toArray 31)).alloc (.cells #[.int .u64 0, .int .u64 0, .int .u64 0, .int .u64 0, .int .u64 0, .int .u64 0, .int .u64 0, .int .u64 0, .int .u64 0, .int .u64 0, .int .u64 0, .int .u64 0, .int .u64 0, .int .u64 0, .int .u64 0, .int .u64 0] 31)).alloc (.cells #[.int .u64 1, .int .u64 0, .int .u64 0, .int .u64 0, .int .u64 0, .int .u64 0, .int .u64 0, .int .u64 0, .int .u64 0, .int .u64 0, .int .u64 0, .int .u64 0, .int .u64 0, .int .u64 0, .int .u64 0, .int .u64 0] 31)) (w.heap.size) a) := ((wrd_box w a ha _).later (bel1 _ (.cells #[.int .u64 0, .int .u64 0, .int .u64 0, .int .u64 0, .int .u64 0, .int .u64 0, .int .u64 0, .int .u64 0, .int .u64 0, .int .u64 0, .int .u64 0, .int .u64 0, .int .u64 0, .int .u64 0, .int .u64 0, .int .u64 0] 31))).later (bel1 _ (.cells #[.int .u64 1, .int .u64 0, .int .u64 0, .int .u64 0, .int .u64 0, .int .u64 0, .int .u64 0, .int .u64 0, .int .u64 0, .int .u64 0, .int .u64 0, .int .u64 0, .int .u64 0, .int .u64 0, .int .u64 0, .int .u64 0] 31))
  have HD : Hid ((((w.alloc (.cells (List.map (Value.int .u64) a).toArray 31)).alloc (.cells #[.int .u64 0, .int .u64 0, .int .u64 0, .int .u64 0, .int .u64 0, .int .u64 0, .int .u64 0, .int .u64 0, .int .u64 0, .int .u64 0, .int .u64 0, .int .u64 0, .int .u64 0, .int .u64 0, .int .u64 0, .int .u64 0] 31)).alloc (.cells #[.int .u64 1, .int .u64 0, .int .u64 0, .int .u64 0, .int .u64 0, .int .u64 0, .int .u64 0, .int .u64 0, .int .u64 0, .int .u64 0, .int .u64 0, .int .u64 0, .int .u64 0, .int .u64 0, .int .u64 0, .int .u64 0] 31)).there (w.heap.size + 1) 0 16) := by have := there_later (bel1 _ (.cells #[.int .u64 1, .int .u64 0, .int .u64 0, .int .u64 0, .int .u64 0, .int .u64 0, .int .u64 0, .int .u64 0, .int .u64 0, .int .u64 0, .int .u64 0, .int .u64 0, .int .u64 0, .int .u64 0, .int .u64 0, .int .u64 0] 31)) (there_new (w.alloc (.cells (List.map (Value.int .u64) a).toArray 31)) 16 #[.int .u64 0, .int .u64 0, .int .u64 0, .int .u64 0, .int .u64 0, .int .u64 0, .int .u64 0, .int .u64 0, .int .u64 0, .int .u64 0, .int .u64 0, .int .u64 0, .int .u64 0, .int .u64 0, .int .u64 0, .int .u64 0] rfl 31); simpa [Hid] using this
  have HO : Hid (Wrd (((w.alloc (.cells (List.map (Value.int .u64) a).toArray 31)).alloc (.cells #[.int .u64 0, .int .u64 0, .int .u64 0, .int .u64 0, .int .u64 0, .int .u64 0, .int .u64 0, .int .u64 0, .int .u64 0, .int .u64 0, .int .u64 0, .int .u64 0, .int .u64 0, .int .u64 0, .int .u64 0, .int .u64 0] 31)).alloc (.cells #[.int .u64 1, .int .u64 0, .int .u64 0, .int .u64 0, .int .u64 0, .int .u64 0, .int .u64 0, .int .u64 0, .int .u64 0, .int .u64 0, .int .u64 0, .int .u64 0, .int .u64 0, .int .u64 0, .int .u64 0, .int .u64 0] 31)) (w.heap.size + 1 + 1) (dg 16 1)) := by have := wrd_box ((w.alloc (.cells (List.map (Value.int .u64) a).toArray 31)).alloc (.cells #[.int .u64 0, .int .u64 0, .int .u64 0, .int .u64 0, .int .u64 0, .int .u64 0, .int .u64 0, .int .u64 0, .int .u64 0, .int .u64 0, .int .u64 0, .int .u64 0, .int .u64 0, .int .u64 0, .int .u64 0, .int .u64 0] 31)) (dg 16 1) (dg_length _ _) 31; simpa [Hid, dg] using this
  have HG : Hid (Gp (((w.alloc (.cells (List.map (Value.int .u64) a).toArray 31)).alloc (.cells #[.int .u64 0, .int .u64 0, .int .u64 0, .int .u64 0, .int .u64 0, .int .u64 0, .int .u64 0, .int .u64 0, .int .u64 0, .int .u64 0, .int .u64 0, .int .u64 0, .int .u64 0, .int .u64 0, .int .u64 0, .int .u64 0] 31)).alloc (.cells #[.int .u64 1, .int .u64 0, .int .u64 0, .int .u64 0, .int .u64 0, .int .u64 0, .int .u64 0, .int .u64 0, .int .u64 0, .int .u64 0, .int .u64 0, .int .u64 0, .int .u64 0, .int .u64 0, .int .u64 0, .int .u64 0] 31))) := ((hg.later (bel1 _ _)).later (bel1 _ _)).later (bel1 _ _)
  have HB : Hid (Below w.heap.size w (((w.alloc (.cells (List.map (Value.int .u64) a).toArray 31)).alloc (.cells #[.int .u64 0, .int .u64 0, .int .u64 0, .int .u64 0, .int .u64 0, .int .u64 0, .int .u64 0, .int .u64 0, .int .u64 0, .int .u64 0, .int .u64 0, .int .u64 0, .int .u64 0, .int .u64 0, .int .u64 0, .int .u64 0] 31)).alloc (.cells #[.int .u64 1, .int .u64 0, .int .u64 0, .int .u64 0, .int .u64 0, .int .u64 0, .int .u64 0, .int .u64 0, .int .u64 0, .int .u64 0, .int .u64 0, .int .u64 0, .int .u64 0, .int .u64 0, .int .u64 0, .int .u64 0] 31))) := bel3 _ _ _ _
  have hpos : 0 < w.heap.size := hg.pos
  generalize ((w.alloc (.cells (List.map (Value.int .u64) a).toArray 31)).alloc (.cells #[.int .u64 0, .int .u64 0, .int .u64 0, .int .u64 0, .int .u64 0, .int .u64 0, .int .u64 0, .int .u64 0, .int .u64 0, .int .u64 0, .int .u64 0, .int .u64 0, .int .u64 0, .int .u64 0, .int .u64 0, .int .u64 0] 31)).alloc (.cells #[.int .u64 1, .int .u64 0, .int .u64 0, .int .u64 0, .int .u64 0, .int .u64 0, .int .u64 0, .int .u64 0, .int .u64 0, .int .u64 0, .int .u64 0, .int .u64 0, .int .u64 0, .int .u64 0, .int .u64 0, .int .u64 0] 31) = W0 at *
  have k1 : w.heap.size < w.heap.size + 1 := by omega
  have k2 : w.heap.size + 1 < w.heap.size + 1 + 1 := by omega
  generalize w.heap.size + 1 + 1 = b2 at *
  generalize w.heap.size + 1 = b1 at *
  go_loopw [4] (fun i wl => ∃ (j : Int) (t : Nat) (l : List Int), i = .int .i64 j ∧ t ≤ 255 ∧ j + 1 = t ∧ Hid (l = dg 16 (pw x (57896044618658097711785492504343953926634992332820282019728792003956564819947 / 2 ^ t))) ∧ Hid (Wrd wl b2 l) ∧ Hid (Wrd wl (w.heap.size) a) ∧ Hid (wl.there b1 0 16) ∧ Hid (Gp wl) ∧ Hid (Below w.heap.size w wl)) (fun i _ => (intOf i + 1).toNat)
  case atStart => exact ⟨254, 255, dg 16 1, rfl, by decide, by decide, by unfold Hid; rw [show 57896044618658097711785492504343953926634992332820282019728792003956564819947 / 2 ^ 255 = 0 from by decide +kernel, pw_nought], HO, HL, HD, HG, HB⟩
  case round =>
    clear HL HO HD HG HB
    obtain ⟨j, t, l, rfl, ht, hjt, HE, HO, HL, HD, HG, HB⟩ := hrel
    by_cases hj : 0 ≤ j
    · obtain ⟨s, rfl⟩ := Int.eq_ofNat_of_zero_le hj
      have et : t = s + 1 := by omega
      subst et
      have hs : s < 255 := by omega
      have hll : l.length = 16 := by rw [HE.out, dg_length]
      have HP : Hid (57896044618658097711785492504343953926634992332820282019728792003956564819947 / 2 ^ s = 2 * (57896044618658097711785492504343953926634992332820282019728792003956564819947 / 2 ^ (s + 1)) + (if s = 2 ∨ s = 4 then 0 else 1)) := pow_step s hs
      generalize 57896044618658097711785492504343953926634992332820282019728792003956564819947 / 2 ^ (s + 1) = ex at *
      obtain ⟨_, _, hi⟩ := no_cells hll
      go_wp2_with (refine wpList_load_mid rfl 31 (.tmp 3) rfl b2 0 rfl (List.map (Value.int .u64) l) _ HO.out.rng Tryd.underlying31 rfl hi ?_)
      refine (rmul_el l l _ _ (pw_el x ex) (pw_el x ex) HE HE _ HG.out).mono ?_
      rintro e w1 ⟨z, rfl, HZ, hb⟩
      have HZ1 : Hid (z = dg 16 (pw x (2 * ex))) := by unfold Hid; rw [HZ.out, pw_mul]; congr 2; omega
      have hzl : z.length = 16 := by rw [HZ.out, dg_length]
      replace HO : Hid (Wrd w1 b2 l) := HO.out.later hb
      replace HL : Hid (Wrd w1 (w.heap.size) a) := HL.out.later hb
      replace HD : Hid (w1.there b1 0 16) := there_later hb HD.out
      replace HG : Hid (Gp w1) := HG.out.later hb
      replace HB : Hid (Below w.heap.size w w1) := HB.out.trans (hb.mono HB.out.size)
      clear hb HZ hi
      obtain ⟨hlenS, honeS, hiS⟩ := no_cells hzl
      have HW : Hid (Wrd (w1.setCells b2 0 (List.map (Value.int .u64) z)) b2 z) := wrd_store HO.out.all z hzl
      have HL2 : Hid (Wrd (w1.setCells b2 0 (List.map (Value.int .u64) z)) (w.heap.size) a) := ⟨World.rangeAt_setCells_apart HL.out.rng _ _ _ (.inl (by omega)), World.there_setCells HL.out.all _ _ _⟩
      have HD2 : Hid ((w1.setCells b2 0 (List.map (Value.int .u64) z)).there b1 0 16) := World.there_setCells HD.out _ _ _
      have HG2 : Hid (Gp (w1.setCells b2 0 (List.map (Value.int .u64) z))) := World.rangeAt_setCells_apart HG.out _ _ _ (.inl (by omega))
      have HB2 : Hid (Below w.heap.size w (w1.setCells b2 0 (List.map (Value.int .u64) z))) := below_setCells _ (by omega) _ _ _ HB.out
      generalize hcs : (List.map (Value.int .u64) z) = cs at *
      go_upto_region 6 with (refine wpList_store_mid rfl 31 (.tmp 3) (.tmp 12) rfl b2 0 cs.toArray rfl rfl (by simpa [hlenS] using HO.out.all) (by simpa using hiS) (all_oneCell_toArray honeS) ?_)
      generalize w1.setCells b2 0 cs = y1 at *
      clear HO HL HD HG HB hlenS honeS
      by_cases h24 : s = 2 ∨ s = 4
      · have HF : Hid (z = dg 16 (pw x (57896044618658097711785492504343953926634992332820282019728792003956564819947 / 2 ^ s))) := by
          unfold Hid
          rw [HP.out, if_pos h24, Nat.add_zero]
          exact HZ1.out
        have hcase : (s : Int) = 2 ∨ (s : Int) = 4 := by omega
        clear hcs
        rcases hcase with hc | hc
        all_goals
          have hs2 : s = 2 ∨ s = 4 := h24
          rw [hc]
          go_wp2
          go_roundw
          case rel => exact ⟨(s : Int) - 1, s, z, by rw [hc]; rfl, by omega, by omega, HF, HW, HL2, HD2, HG2, HB2⟩
          case measure => rw [hc]; simp [intOf]
      · have HF : Hid (57896044618658097711785492504343953926634992332820282019728792003956564819947 / 2 ^ s = 2 * ex + 1) := by
          unfold Hid
          rw [HP.out, if_neg h24]
        have n2 : ((s : Int) == 2) = false := by simp; omega
        have n4 : ((s : Int) == 4) = false := by simp; omega
        have m2 : ((s : Int) != 2) = true := by simp; omega
        have m4 : ((s : Int) != 4) = true := by simp; omega
        obtain ⟨_, _, hia⟩ := no_cells ha
        have hrg : y1.rangeAt b2 0 cs := by rw [← hcs]; exact HW.out.rng
        have HRG : Hid (y1.rangeAt b2 0 cs) := hrg
        clear hrg
        go_wp2_with (first
          | (refine wpList_load_mid rfl 31 (.tmp 3) rfl b2 0 rfl cs _ HRG.out Tryd.underlying31 rfl hiS ?_)
          | (refine wpList_load_mid rfl 31 (.tmp 1) rfl (w.heap.size) 0 rfl (List.map (Value.int .u64) a) _ HL2.out.rng Tryd.underlying31 rfl hia ?_))
        subst hcs
        refine (rmul_el z a _ _ (pw_el x (2 * ex)) hx HZ1 HA _ HG2.out).mono ?_
        rintro e w2 ⟨z2, rfl, HZ2, hb⟩
        have HZ3 : Hid (z2 = dg 16 (pw x (57896044618658097711785492504343953926634992332820282019728792003956564819947 / 2 ^ s))) := by unfold Hid; rw [HZ2.out, pw_succ x hx, HF.out]
        have hzl2 : z2.length = 16 := by rw [HZ2.out, dg_length]
        replace HW : Hid (Wrd w2 b2 z) := HW.out.later hb
        replace HL2 : Hid (Wrd w2 (w.heap.size) a) := HL2.out.later hb
        replace HD2 : Hid (w2.there b1 0 16) := there_later hb HD2.out
        replace HG2 : Hid (Gp w2) := HG2.out.later hb
        replace HB2 : Hid (Below w.heap.size w w2) := HB2.out.trans (hb.mono HB2.out.size)
        clear hb HZ2 HRG hiS hia
        obtain ⟨hlenT, honeT, hiT⟩ := no_cells hzl2
        have HW3 : Hid (Wrd (w2.setCells b2 0 (List.map (Value.int .u64) z2)) b2 z2) := wrd_store HW.out.all z2 hzl2
        have HL3 : Hid (Wrd (w2.setCells b2 0 (List.map (Value.int .u64) z2)) (w.heap.size) a) := ⟨World.rangeAt_setCells_apart HL2.out.rng _ _ _ (.inl (by omega)), World.there_setCells HL2.out.all _ _ _⟩
        have HD3 : Hid ((w2.setCells b2 0 (List.map (Value.int .u64) z2)).there b1 0 16) := World.there_setCells HD2.out _ _ _
        have HG3 : Hid (Gp (w2.setCells b2 0 (List.map (Value.int .u64) z2))) := World.rangeAt_setCells_apart HG2.out _ _ _ (.inl (by omega))
        have HB3 : Hid (Below w.heap.size w (w2.setCells b2 0 (List.map (Value.int .u64) z2))) := below_setCells _ (by omega) _ _ _ HB2.out
        generalize (List.map (Value.int .u64) z2) = ct at *
        go_wp2_with (refine wpList_store_mid rfl 31 (.tmp 3) (.tmp 21) rfl b2 0 ct.toArray rfl rfl (by simpa [hlenT] using HW.out.all) (by simpa using hiT) (all_oneCell_toArray honeT) ?_)
        go_roundw
        case rel => exact ⟨(s : Int) - 1, s, z2, rfl, by omega, by omega, HZ3, HW3, HL3, HD3, HG3, HB3⟩
        case measure => simp [intOf]
    · have et : t = 0 := by omega
      subst et
      have HF : Hid (l = dg 16 (pw x 57896044618658097711785492504343953926634992332820282019728792003956564819947)) := by unfold Hid; rw [HE.out, Nat.pow_zero, Nat.div_one]
      have hll : l.length = 16 := by rw [HE.out, dg_length]
      obtain ⟨hlenS, honeS, hiS⟩ := no_cells hll
      have HR : Hid (wr.rangeAt b2 0 (List.map (Value.int .u64) l)) := HO.out.rng
      generalize hcs : (List.map (Value.int .u64) l) = cs at *
      have HC : Hid ((List.map (Value.int .u64) l) = cs) := hcs
      clear hcs
      go_wp2_with (first
        | (refine wpList_load_mid rfl 31 (.tmp 3) rfl b2 0 rfl cs _ HR.out Tryd.underlying31 rfl hiS ?_)
        | (refine wpList_store_mid rfl 31 (.tmp 2) (.tmp 22) rfl b1 0 cs.toArray rfl rfl (by simpa [hlenS] using HD.out) (by simpa using hiS) (all_oneCell_toArray honeS) ?_))
      have HR2 : Hid ((wr.setCells b1 0 cs).rangeAt b1 0 cs) := World.rangeAt_setCells_same _ _ _ _ (by rw [hlenS]; exact HD.out)
      have hld := run_loadVar_mid (P := Tryd.prog) _ _ 0 31 _ _ HR2.out Tryd.underlying31 rfl hiS
      exact bodyPost_ret (v := .agg cs.toArray) (by simp [results, Tryd.results15]; exact hld) rfl ⟨l, by rw [HC.out], HF, below_setCells _ (by omega) _ _ _ HB.out⟩
end Go.Proofs.YtggjifpcoidipaaDoor
