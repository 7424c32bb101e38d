/-
  Several texts of one's own, laid together. No statement of the seat is proved here.
-/
import Derived.Test.YtlnbjehimabaiaaGreatDoorPk25
import Derived.Deep.QuietTactic
import Derived.BigQuiet
import Derived.Test.YtlnbjehimabaiaaGreatDoorPk1
import Derived.Test.YtlnbjehimabaiaaGreatDoorCX
import Derived.Test.YtlnbjehimabaiaaGreatDoorPk28
/-
 What octet's Same does, for whatever two slices of bytes. No statement of the seat is proved here.
-/
namespace Go.Proofs.YtlnbjehimabaiaaGreatDoor.Fc
open Go.RowKit
set_option maxRecDepth 8000

theorem xor8 (x y : Int) (hx : 0 ≤ x ∧ x ≤ 255) (hy : 0 ≤ y ∧ y ≤ 255) : 0 ≤ bits .xor .u8 x y ∧ bits .xor .u8 x y ≤ 255 ∧ (bits .xor .u8 x y = 0 ↔ x = y) := by
 rw [u8_xor x y (by omega) (by omega) (by omega) (by omega)]
 have h : x.toNat ^^^ y.toNat < 2 ^ 8 := Nat.xor_lt_two_pow (by omega) (by omega)
 refine ⟨by omega, by omega, ?_⟩
 constructor
 ·intro h0
  have h1 : x.toNat ^^^ y.toNat = 0 := by omega
  have h2 : x.toNat = y.toNat := by
   have h3 : x.toNat ^^^ y.toNat ^^^ y.toNat = x.toNat := by rw [Nat.xor_assoc, Nat.xor_self, Nat.xor_zero]
   rw [h1, Nat.zero_xor] at h3
   exact h3.symm
  omega
 ·rintro rfl
  simp
theorem or8 (x y : Int) (hx : 0 ≤ x ∧ x ≤ 255) (hy : 0 ≤ y ∧ y ≤ 255) : 0 ≤ bits .or .u8 x y ∧ bits .or .u8 x y ≤ 255 ∧ (bits .or .u8 x y = 0 ↔ x = 0 ∧ y = 0) := by
 rw [u8_or x y (by omega) (by omega) (by omega) (by omega)]
 have h : x.toNat ||| y.toNat < 2 ^ 8 := Nat.or_lt_two_pow (by omega) (by omega)
 refine ⟨by omega, by omega, ?_⟩
 constructor
 ·intro h0
  have h1 : x.toNat ||| y.toNat = 0 := by omega
  have h2 := Nat.or_eq_zero_iff.1 h1
  omega
 ·rintro ⟨rfl, rfl⟩
  simp
/-- One byte more is looked at. -/
theorem same_step {a b : List Int} {k : Nat} (ha : k < a.length) (hb : k < b.length) (p : Int) (hp : p = 0 ↔ a.take k = b.take k) (q : Int) (hq : q = 0 ↔ p = 0 ∧ a[k]?.getD 0 = b[k]?.getD 0) : q = 0 ↔ a.take (k + 1) = b.take (k + 1) := by
 rw [hq, hp, List.take_succ_eq_append_getElem ha, List.take_succ_eq_append_getElem hb, List.getElem?_eq_getElem ha, List.getElem?_eq_getElem hb]
 have e : (a.take k).length = (b.take k).length := by simp; omega
 constructor
 ·rintro ⟨h1, h2⟩
  rw [h1]; simp at h2; rw [h2]
 ·intro h
  have := List.append_inj h e
  exact ⟨this.1, by simpa using this.2⟩

theorem same_end {x y : List Int} {la lb k : Nat} (hx : x.length = la) (hy : y.length = lb) (hk : k = min la lb) {q : Int} (hq : q = 0 ↔ x.take k = y.take k) :
  (q = 0 → ((la : Int) == (lb : Int)) = decide (x = y)) ∧ (¬ q = 0 → false = decide (x = y)) := by
 subst hx hy hk
 by_cases e : x = y
 ·subst e
  simp at hq
  simp [hq]
 ·have e2 : decide (x = y) = false := by simp [e]
  rw [e2]
  refine ⟨fun h => ?_, fun _ => rfl⟩
  have h' := hq.1 h
  rw [beq_eq_false_iff_ne]
  intro hl
  apply e
  have hl' : x.length = y.length := by omega
  rwa [hl', Nat.min_self, ← hl', List.take_length, hl', List.take_length] at h'

set_option maxHeartbeats 1000000 in
theorem same_any (a : Option Addr) (la ca : Nat) (x : List Int) (b : Option Addr) (lb cb : Nat) (y : List Int) (w : World) (ha : Rd w a la ca x) (hb : Rd w b lb cb y) (ma : la ≤ 281474976710656) (mb : lb ≤ 281474976710656) :
  Calls Tryz.prog 87 #[.slice a la ca, .slice b lb cb] w fun e w' => e = .returned (.bool (decide (x = y))) ∧ Below w.heap.size w w' := by
 have HX : Hid (x.length = la) := ha.hlen
 have HY : Hid (y.length = lb) := hb.hlen
 have HA : Hid (Rd w a la ca x) := ha
 have HB : Hid (Rd w b lb cb y) := hb
 clear ha hb
 by_cases h0 : 0 < la ∧ 0 < lb
 ·obtain ⟨ba, oa, rfl, hca⟩ := HA.out.cell h0.1
  obtain ⟨bb, ob, rfl, hcb⟩ := HB.out.cell h0.2
  have HCA : Hid _ := hca
  have HCB : Hid _ := hcb
  clear hca hcb
  by_cases hmin : lb < la
  all_goals
   go_enter Tryz.func87, Tryz.ntmps87
   go_wp2
   go_loopw [5, 12] (fun p i wr => ∃ (k : Nat) (q : Int), k ≤ min la lb ∧ i = .int .i64 k ∧ p = .int .u8 q ∧ 0 ≤ q ∧ q ≤ 255 ∧ Hid (q = 0 ↔ x.take k = y.take k) ∧ Below w.heap.size w wr) (fun _ i _ => min la lb - (intOf i).toNat)
   case atStart => exact ⟨0, 0, Nat.zero_le _, rfl, rfl, by omega, by omega, by simp [Hid], Below.refl _ _⟩
   case round =>
    obtain ⟨k, q, hk, rfl, rfl, hq0, hq1, HQ, hbel⟩ := hrel
    by_cases hlt : k < min la lb
    ·have c1 := cell_later hbel (HCA.out k (by omega))
     have c2 := cell_later hbel (HCB.out k (by omega))
     have b1 := HA.out.byt.at k
     have b2 := HB.out.byt.at k
     have HB' : Hid _ := hbel
     clear hbel
     have g1 : (k : Int) < la := by omega
     have g2 : (k : Int) < lb := by omega
     go_wp2
     go_quiet (fail)
     go_wp2
     have X := xor8 _ _ b1 b2
     have O := or8 q _ ⟨hq0, hq1⟩ ⟨X.1, X.2.1⟩
     go_roundw
     case rel => exact ⟨k + 1, _, by omega, by go_num, rfl, O.1, O.2.1, same_step (by rw [HX.out]; omega) (by rw [HY.out]; omega) q HQ.out _ (by rw [O.2.2, X.2.2]), below_drewN HB'.out _⟩
     case measure => simp [intOf]; omega
    ·have HE : Hid _ := same_end HX.out HY.out (show k = min la lb by omega) HQ.out
     by_cases hq : q = 0
     ·subst hq
      go_wp2
      go_ret
      exact ⟨ret_bool (HE.out.1 (by simp)), hbel⟩
     ·go_wp2
      go_ret
      exact ⟨ret_bool (HE.out.2 hq), hbel⟩
 ·rcases (show la = 0 ∨ lb = 0 by omega) with h | h
  ·subst h
   have HE : Hid _ := same_end HX.out HY.out (show 0 = min 0 lb by omega) (q := 0) (by simp)
   go_enter Tryz.func87, Tryz.ntmps87
   go_wp2
   refine wp_loop_rounds 1 ?_
   rw [rounds_succ]; go_wp2
   go_ret
   exact ⟨ret_bool (HE.out.1 (by simp)), Below.refl _ _⟩
  ·subst h
   have HE : Hid _ := same_end HX.out HY.out (show 0 = min la 0 by omega) (q := 0) (by simp)
   by_cases hl : 0 < la
   ·go_enter Tryz.func87, Tryz.ntmps87
    go_wp2
    refine wp_loop_rounds 1 ?_
    rw [rounds_succ]; go_wp2
    go_ret
    exact ⟨ret_bool (HE.out.1 (by simp)), Below.refl _ _⟩
   ·have h1 : la = 0 := by omega
    subst h1
    go_enter Tryz.func87, Tryz.ntmps87
    go_wp2
    refine wp_loop_rounds 1 ?_
    rw [rounds_succ]; go_wp2
    go_ret
    exact ⟨ret_bool (HE.out.1 (by simp)), Below.refl _ _⟩
end Go.Proofs.YtlnbjehimabaiaaGreatDoor.Fc
/-
 What curve's Public does. No statement of the seat is proved here.
-/
namespace Go.Proofs.YtlnbjehimabaiaaGreatDoor.Fc
open Go.RowKit
set_option maxRecDepth 8000

/-- A byte, and noughts. -/
def bz (n : Int) : List Int := n :: List.replicate 31 0
theorem bz_by (n : Int) (h0 : 0 ≤ n) (h1 : n ≤ 255) : By (bz n) := by_one n h0 h1
theorem bz_arr (n : Int) : (.agg #[.int .u8 n, .int .u8 0, .int .u8 0, .int .u8 0, .int .u8 0, .int .u8 0, .int .u8 0, .int .u8 0, .int .u8 0, .int .u8 0, .int .u8 0, .int .u8 0, .int .u8 0, .int .u8 0, .int .u8 0, .int .u8 0, .int .u8 0, .int .u8 0, .int .u8 0, .int .u8 0, .int .u8 0, .int .u8 0, .int .u8 0, .int .u8 0, .int .u8 0, .int .u8 0, .int .u8 0, .int .u8 0, .int .u8 0, .int .u8 0, .int .u8 0, .int .u8 0] : Value) = (.agg (List.map (Value.int .u8) (bz n)).toArray) := rfl
theorem leN_nought : ∀ k, leN (List.replicate k (0 : Int)) = 0
 | 0 => rfl
 | k + 1 => by rw [List.replicate_succ, leN, leN_nought k]; rfl
theorem num_bz (n : Int) (h0 : 0 ≤ n) (h1 : n ≤ 255) : num (bz n) = n := by
 unfold num bz
 rw [leN, leN_nought]
 omega
theorem rd_of {u : World} {b : Nat} {l : List Int} (h : Arr u b (List.map (Value.int .u8) l)) (hl : By l) : Rd u (some ⟨b, 0, none⟩) 32 32 l :=
 ⟨hl.len, Nat.le_refl _, (by intro e; cases e), hl.byt, fun _ => ⟨b, 0, rfl, fun i hi => by
  have h1 : i < l.length := by rw [hl.len]; exact hi
  rw [(h.rng i (.int .u8 l[i]) (by rw [List.getElem?_map, List.getElem?_eq_getElem h1]; rfl)), List.getElem?_eq_getElem h1]
  rfl⟩⟩

set_option maxHeartbeats 2000000 in
theorem public_c (l : List Int) (hl : By l) (w : World) :
  Calls Tryz.prog 15 #[(.agg (List.map (Value.int .u8) l).toArray)] w fun e w' => e = .returned (.agg (List.map (Value.int .u8) (lay 32 (xn (leN (cl l)) 9))).toArray) ∧ Below w.heap.size w w' := by
 have HNU : Hid (num (bz 9) = 9) := num_bz 9 (by decide) (by decide)
 go_enter Tryz.func15, Tryz.ntmps15
 go_upto_region 1 with fail
 have HL : Hid (Arr ((w.alloc (.cells (List.map (Value.int .u8) l).toArray 30)).alloc (.cells zb32 30)) (w.heap.size) (List.map (Value.int .u8) l)) := (arr_box w l hl).later (bel1 _ _)
 have HD : Hid (((w.alloc (.cells (List.map (Value.int .u8) l).toArray 30)).alloc (.cells zb32 30)).there (w.heap.size + 1) 0 32) := by have := there_new (w.alloc (.cells (List.map (Value.int .u8) l).toArray 30)) 32 zb32 rfl 30; simpa [Hid] using this
 have HB : Hid (Below w.heap.size w ((w.alloc (.cells (List.map (Value.int .u8) l).toArray 30)).alloc (.cells zb32 30))) := bel2 _ _ _
 generalize (w.alloc (.cells (List.map (Value.int .u8) l).toArray 30)).alloc (.cells zb32 30) = W0 at *
 have k1 : w.heap.size < w.heap.size + 1 := by omega
 generalize w.heap.size + 1 = b1 at *
 obtain ⟨_, _, hi⟩ := by_cells hl
 go_wp2_with (refine wpList_load_mid rfl 30 (.tmp 1) rfl (w.heap.size) 0 rfl (List.map (Value.int .u8) l) _ HL.out.rng Tryz.underlying30 rfl hi ?_)
 rw [bz_arr 9]
 refine (x_c l (bz 9) hl (bz_by 9 (by decide) (by decide)) _).mono ?_
 rintro e w1 ⟨rfl, hb⟩
 rw [HNU.out]
 replace HD : Hid (w1.there b1 0 32) := there_later hb HD.out
 replace HB := hidp (HB.out.trans (hb.mono HB.out.size))
 clear hb hi HL HNU
 obtain ⟨hlen, hone, hi⟩ := by_cells (lay_by (xn (leN (cl l)) 9))
 generalize hcs : (List.map (Value.int .u8) (lay 32 (xn (leN (cl l)) 9))) = cs at *
 have HE : Hid ((List.map (Value.int .u8) (lay 32 (xn (leN (cl l)) 9))) = cs) := hcs
 clear hcs
 go_wp2_with (refine wpList_store_mid rfl 30 (.tmp 2) (.tmp 5) rfl b1 0 cs.toArray rfl rfl (by simpa [hlen] using HD.out) (by simpa using hi) (all_oneCell_toArray hone) ?_)
 have HR2 : Hid ((w1.setCells b1 0 cs).rangeAt b1 0 cs) := World.rangeAt_setCells_same _ _ _ _ (by rw [hlen]; exact HD.out)
 have hld := run_loadVar_mid (P := Tryz.prog) _ _ 0 30 _ _ HR2.out Tryz.underlying30 rfl hi
 exact bodyPost_ret (v := .agg cs.toArray) (by simp [results, Tryz.results15]; exact hld) rfl ⟨by rw [HE.out], below_setCells _ (by omega) _ _ _ HB.out⟩
end Go.Proofs.YtlnbjehimabaiaaGreatDoor.Fc
/-
 What curve's Shared does. No statement of the seat is proved here.
-/
namespace Go.Proofs.YtlnbjehimabaiaaGreatDoor.Fc
open Go.RowKit
set_option maxRecDepth 8000

set_option maxHeartbeats 4000000 in
theorem shared_c (k l : List Int) (hk : By k) (hl : By l) (w : World) :
  Calls Tryz.prog 128 #[(.agg (List.map (Value.int .u8) k).toArray), (.agg (List.map (Value.int .u8) l).toArray)] w fun e w' => ((lay 32 (xn (leN (cl k)) (num l)) = bz 0 ∧ e = .returned (.tuple #[(.agg (List.map (Value.int .u8) (bz 0)).toArray), .int .i64 10])) ∨ (lay 32 (xn (leN (cl k)) (num l)) ≠ bz 0 ∧ e = .returned (.tuple #[(.agg (List.map (Value.int .u8) (lay 32 (xn (leN (cl k)) (num l)))).toArray), .int .i64 0]))) ∧ Below w.heap.size w w' := by
 go_enter Tryz.func128, Tryz.ntmps128
 go_upto_region 1 with fail
 have A2 : Hid (Arr (((w.alloc (.cells (List.map (Value.int .u8) k).toArray 30)).alloc (.cells (List.map (Value.int .u8) l).toArray 30)).alloc (.cells zb32 30)) (w.heap.size) (List.map (Value.int .u8) k)) := ((arr_box w k hk).later (bel1 _ _)).later (bel1 _ _)
 have A3 : Hid (Arr (((w.alloc (.cells (List.map (Value.int .u8) k).toArray 30)).alloc (.cells (List.map (Value.int .u8) l).toArray 30)).alloc (.cells zb32 30)) (w.heap.size + 1) (List.map (Value.int .u8) l)) := by
  have := (arr_box (w.alloc (.cells (List.map (Value.int .u8) k).toArray 30)) l hl).later (bel1 _ (.cells zb32 30))
  simpa [Hid] using this
 have A4 : Hid (Arr (((w.alloc (.cells (List.map (Value.int .u8) k).toArray 30)).alloc (.cells (List.map (Value.int .u8) l).toArray 30)).alloc (.cells zb32 30)) (w.heap.size + 1 + 1) (List.map (Value.int .u8) (bz 0))) := by
  have := arr_box ((w.alloc (.cells (List.map (Value.int .u8) k).toArray 30)).alloc (.cells (List.map (Value.int .u8) l).toArray 30)) (bz 0) (bz_by 0 (by decide) (by decide))
  have e : (List.map (Value.int .u8) (bz 0)).toArray = zb32 := rfl
  rw [e] at this
  simpa [Hid] using this
 have HB : Hid (Below w.heap.size w (((w.alloc (.cells (List.map (Value.int .u8) k).toArray 30)).alloc (.cells (List.map (Value.int .u8) l).toArray 30)).alloc (.cells zb32 30))) := bel3 _ _ _ _
 generalize ((w.alloc (.cells (List.map (Value.int .u8) k).toArray 30)).alloc (.cells (List.map (Value.int .u8) l).toArray 30)).alloc (.cells zb32 30) = W0 at *
 have hq1 : w.heap.size < w.heap.size + 1 := by omega
 have hq2 : w.heap.size + 1 < w.heap.size + 1 + 1 := by omega
 generalize w.heap.size + 1 + 1 = q2 at *
 generalize w.heap.size + 1 = q1 at *
 go_wp2_with (first | (refine wpList_load_mid rfl 30 (.tmp 2) rfl (w.heap.size) 0 rfl (List.map (Value.int .u8) k) _ A2.out.rng Tryz.underlying30 rfl (by_cells hk).2.2 ?_) | (refine wpList_load_mid rfl 30 (.tmp 3) rfl q1 0 rfl (List.map (Value.int .u8) l) _ A3.out.rng Tryz.underlying30 rfl (by_cells hl).2.2 ?_))
 refine (x_c k l hk hl _).mono ?_
 rintro e u1_0 ⟨rfl, hb1_0⟩
 have hc1_1 : Hid (Below W0.heap.size W0 u1_0) := hb1_0
 clear hb1_0
 have hby6 := (lay_by (xn (leN (cl k)) (num l)))
 generalize hcs : (List.map (Value.int .u8) (lay 32 (xn (leN (cl k)) (num l)))) = cs6 at *
 have HC6 : Hid ((List.map (Value.int .u8) (lay 32 (xn (leN (cl k)) (num l)))) = cs6) := hcs
 clear hcs
 obtain ⟨hlen6, hone6, hi6⟩ := by_cells' hby6 HC6
 have hth := there_new u1_0 32 zb32 rfl 30
 have A6 := arr_new u1_0 zb32 rfl cs6 hlen6
 have N6 := bel_new u1_0 zb32 cs6
 have hX : Hid (Below W0.heap.size W0 ((u1_0.alloc (.cells zb32 30)).setCells u1_0.heap.size 0 cs6)) := hc1_1.out.trans (N6.mono hc1_1.out.size)
 have hge6 : w.heap.size ≤ u1_0.heap.size := Nat.le_trans HB.out.size hc1_1.out.size
 have lt6_A2 : (w.heap.size) < u1_0.heap.size := (A2.out.later hc1_1.out).lt
 have lt6_A3 : q1 < u1_0.heap.size := (A3.out.later hc1_1.out).lt
 have lt6_A4 : q2 < u1_0.heap.size := (A4.out.later hc1_1.out).lt
 go_upto_region 2 with (refine wpList_store_mid rfl 30 (.tmp 6) (.tmp 10) rfl (u1_0.heap.size) 0 cs6.toArray rfl rfl (by simpa [hlen6] using hth) (by simpa using hi6) (all_oneCell_toArray hone6) ?_)
 clear hth
 generalize (u1_0.alloc (.cells zb32 30)).setCells u1_0.heap.size 0 cs6 = W6 at *
 generalize u1_0.heap.size = b6 at *
 replace A2 := hidp (A2.out.later hX.out)
 replace A3 := hidp (A3.out.later hX.out)
 replace A4 := hidp (A4.out.later hX.out)
 replace HB := hidp (HB.out.trans (Below.mono hX.out HB.out.size))
 clear hX hc1_1 N6
 have HC := HC6.out
 subst HC
 have A6' : Hid (Arr W6 b6 (List.map (Value.int .u8) (lay 32 (xn (leN (cl k)) (num l))))) := A6
 clear A6 HC6 hlen6 hone6 hi6
 have A6 := A6'
 clear A6'
 obtain ⟨hlen0, hone0, hi0⟩ := by_cells (bz_by 0 (by decide) (by decide))
 have hth := there_new W6 32 zb32 rfl 30
 have A7 : Hid (Arr ((W6.alloc (.cells zb32 30)).setCells W6.heap.size 0 (List.map (Value.int .u8) (bz 0))) W6.heap.size (List.map (Value.int .u8) (bz 0))) := arr_new W6 zb32 rfl (List.map (Value.int .u8) (bz 0)) hlen0
 have hX : Hid (Below W6.heap.size W6 ((W6.alloc (.cells zb32 30)).setCells W6.heap.size 0 (List.map (Value.int .u8) (bz 0)))) := bel_new W6 zb32 (List.map (Value.int .u8) (bz 0))
 have l67 : b6 < W6.heap.size := A6.out.lt
 go_upto_region 3 with (refine wpList_store_mid rfl 30 (.tmp 7) (.tmp 11) rfl (W6.heap.size) 0 (List.map (Value.int .u8) (bz 0)).toArray rfl rfl (by simpa [hlen0] using hth) (by simpa using hi0) (all_oneCell_toArray hone0) ?_)
 clear hth hlen0 hone0 hi0
 generalize (W6.alloc (.cells zb32 30)).setCells W6.heap.size 0 (List.map (Value.int .u8) (bz 0)) = W7 at *
 obtain ⟨b7, hs7⟩ : ∃ b, b = W6.heap.size := ⟨_, rfl⟩
 replace A2 := hidp (A2.out.later hX.out)
 replace A3 := hidp (A3.out.later hX.out)
 replace A4 := hidp (A4.out.later hX.out)
 replace A6 := hidp (A6.out.later hX.out)
 replace HB := hidp (HB.out.trans (Below.mono hX.out HB.out.size))
 clear hX
 rw [← hs7] at A7 l67 ⊢
 clear hs7
 refine wp_region_noPanic ?_
 refine wp_region_held_drew (S := Ext W7) (by kernel_rfl) (Ext.refl _).drew (fun hH => ?_)
 change wpAnyH _ _ _ _ _ _ #[false, false, false] _ _
 refine tn 0 ?_
 refine tn 1 ?_
 refine rdy 2 (fun K hK => ?_)
 go_simp
 refine (same_any _ 32 32 (lay 32 (xn (leN (cl k)) (num l))) _ 32 32 (bz 0) _ (rd_of (A6.out.later hH) (lay_by _)) (rd_of (A7.out.later hH) (bz_by 0 (by decide) (by decide))) (by decide) (by decide)).mono ?_
 rintro e w8 ⟨rfl, hb⟩
 refine ko hK (hH.trans hb) fun hH => ?_; clear hK K
 refine wpAnyH_done (by kernel_rfl) ?_ _
 refine NoPanic.normal ?_
 clear hb
 replace A2 := hidp (A2.out.later hH)
 replace A3 := hidp (A3.out.later hH)
 replace A4 := hidp (A4.out.later hH)
 replace A6 := hidp (A6.out.later hH)
 replace A7 := hidp (A7.out.later hH)
 replace HB := hidp (HB.out.trans (Below.mono hH HB.out.size))
 clear hH
 by_cases hz : (lay 32 (xn (leN (cl k)) (num l))) = bz 0
 ·have hd : decide ((lay 32 (xn (leN (cl k)) (num l))) = bz 0) = true := by rw [decide_eq_true_iff]; exact hz
  rw [hd]
  have HZ : Hid ((lay 32 (xn (leN (cl k)) (num l))) = bz 0) := hz
  clear hz hd A2 A3 A6
  obtain ⟨hlen, hone, hi⟩ := by_cells (bz_by 0 (by decide) (by decide))
  generalize hcs : (List.map (Value.int .u8) (bz 0)) = cs at *
  have HE : Hid ((List.map (Value.int .u8) (bz 0)) = cs) := hcs
  clear hcs
  have HRr := A7.out.rng
  have HRr' : Hid (w8.rangeAt b7 0 cs) := HRr
  clear HRr
  go_wp2_with (first
   | (refine wpList_load_mid rfl 30 (.tmp 7) rfl b7 0 rfl cs _ HRr'.out Tryz.underlying30 rfl hi ?_)
   | (refine wpList_store_mid rfl 30 (.tmp 4) (.tmp 15) rfl q2 0 cs.toArray rfl rfl (by simpa [hlen] using A4.out.all) (by simpa using hi) (all_oneCell_toArray hone) ?_))
  have HR2 : Hid ((w8.setCells q2 0 cs).rangeAt q2 0 cs) := World.rangeAt_setCells_same _ _ _ _ (by rw [hlen]; exact A4.out.all)
  have hld := run_loadVar_mid (P := Tryz.prog) _ _ 0 30 _ _ HR2.out Tryz.underlying30 rfl hi
  exact bodyPost_ret (v := .tuple #[.agg cs.toArray, .int .i64 10]) (by simp [results, Tryz.results128, Sem.run_bind]; show (Sem.run _ (loadVar 30 ⟨q2, 0, none⟩) _).andThen _ = _; rw [hld]; rfl) rfl ⟨.inl ⟨HZ.out, by rw [HE.out]⟩, below_setCells _ (by omega) _ _ _ HB.out⟩
 ·have hd : decide ((lay 32 (xn (leN (cl k)) (num l))) = bz 0) = false := by rw [decide_eq_false_iff_not]; exact hz
  rw [hd]
  have HZ : Hid ((lay 32 (xn (leN (cl k)) (num l))) ≠ bz 0) := hz
  clear hz hd A2 A3 A7
  obtain ⟨hlen, hone, hi⟩ := by_cells (lay_by _)
  generalize hcs : (List.map (Value.int .u8) (lay 32 (xn (leN (cl k)) (num l)))) = cs at *
  have HE : Hid ((List.map (Value.int .u8) (lay 32 (xn (leN (cl k)) (num l)))) = cs) := hcs
  clear hcs
  have HRr := A6.out.rng
  have HRr' : Hid (w8.rangeAt b6 0 cs) := HRr
  clear HRr
  go_wp2_with (first
   | (refine wpList_load_mid rfl 30 (.tmp 6) rfl b6 0 rfl cs _ HRr'.out Tryz.underlying30 rfl hi ?_)
   | (refine wpList_store_mid rfl 30 (.tmp 4) (.tmp 16) rfl q2 0 cs.toArray rfl rfl (by simpa [hlen] using A4.out.all) (by simpa using hi) (all_oneCell_toArray hone) ?_))
  have HR2 : Hid ((w8.setCells q2 0 cs).rangeAt q2 0 cs) := World.rangeAt_setCells_same _ _ _ _ (by rw [hlen]; exact A4.out.all)
  have hld := run_loadVar_mid (P := Tryz.prog) _ _ 0 30 _ _ HR2.out Tryz.underlying30 rfl hi
  exact bodyPost_ret (v := .tuple #[.agg cs.toArray, .int .i64 0]) (by simp [results, Tryz.results128, Sem.run_bind]; show (Sem.run _ (loadVar 30 ⟨q2, 0, none⟩) _).andThen _ = _; rw [hld]; rfl) rfl ⟨.inr ⟨HZ.out, by rw [HE.out]⟩, below_setCells _ (by omega) _ _ _ HB.out⟩
end Go.Proofs.YtlnbjehimabaiaaGreatDoor.Fc
/-
 What portholehand's Secret does: thirty-two bytes of a number. No statement of the seat is proved here.
-/
namespace Go.Proofs.YtlnbjehimabaiaaGreatDoor.Fc
open Go.RowKit
set_option maxRecDepth 8000

/-- The next number, and the bytes of those behind it. -/
def lcg (x : Int) : Int := (x * 6364136223846793005 + 1442695040888963407) % 18446744073709551616
def sst (x : Int) : Nat → Int
 | 0 => x
 | k + 1 => lcg (sst x k)
def sby (x : Int) : Nat → List Int
 | 0 => []
 | k + 1 => sby x k ++ [sst x (k + 1) / 1099511627776 % 256]
def sec (n : Int) : List Int := sby (lcg (n % 18446744073709551616)) 32
theorem sby_len (x : Int) : ∀ k, (sby x k).length = k
 | 0 => rfl
 | k + 1 => by rw [sby, List.length_append, sby_len x k]; rfl
theorem sby_byt (x : Int) : ∀ k, Byt (sby x k)
 | 0 => fun _ h => by simp [sby] at h
 | k + 1 => fun y h => by
  rw [sby, List.mem_append] at h
  rcases h with h | h
  ·exact sby_byt x k y h
  ·rw [List.mem_singleton.1 h]
   omega
theorem sec_by (n : Int) : By (sec n) := ⟨sby_len _ _, sby_byt _ _⟩
theorem lcg_wd (x : Int) : Wd (lcg x) := ⟨by unfold lcg; omega, by unfold lcg; omega⟩

set_option maxHeartbeats 2000000 in
theorem secret_c (n : Int) (w : World) :
  Calls Tryz.prog 16 #[.int .i64 n] w fun e w' => e = .returned (.agg (List.map (Value.int .u8) (sec n)).toArray) ∧ Below w.heap.size w w' := by
 obtain ⟨x0, hx0⟩ : ∃ x0, x0 = lcg (n % 18446744073709551616) := ⟨_, rfl⟩
 have hw0 : IntKind.u64.wrap (IntKind.u64.wrap (IntKind.u64.wrap n * 6364136223846793005) + 1442695040888963407) = x0 := by
  rw [IntKind.wrap_u64, IntKind.wrap_u64, IntKind.wrap_u64, hx0]
  unfold lcg
  omega
 have hx1 : Wd x0 := by rw [hx0]; exact lcg_wd _
 have HX : Hid (sec n = sby x0 32) := by unfold Hid sec; rw [hx0]
 clear hx0
 go_enter Tryz.func16, Tryz.ntmps16
 go_wp2
 clear hw0
 have HD : Hid (((w.alloc (.cells zb32 30)).alloc (.cells zb32 30)).there (w.heap.size) 0 32) := there_later (bel1 _ _) (there_new w 32 zb32 rfl 30)
 have HK : Hid (((w.alloc (.cells zb32 30)).alloc (.cells zb32 30)).there (w.heap.size + 1) 0 32) := by have := there_new (w.alloc (.cells zb32 30)) 32 zb32 rfl 30; simpa [Hid] using this
 have HB : Hid (Below w.heap.size w ((w.alloc (.cells zb32 30)).alloc (.cells zb32 30))) := bel2 _ _ _
 generalize (w.alloc (.cells zb32 30)).alloc (.cells zb32 30) = W0 at *
 have k1 : w.heap.size < w.heap.size + 1 := by omega
 generalize w.heap.size + 1 = b1 at *
 go_loopw [4, 5] (fun p i wl => ∃ (k : Nat) (v : Int), k ≤ 32 ∧ i = .int .i64 k ∧ p = .int .u64 v ∧ 0 ≤ v ∧ v < 18446744073709551616 ∧ Hid (v = sst x0 k) ∧ Hid (wl.there (w.heap.size) 0 32) ∧ Hid (wl.there b1 0 32) ∧ Hid (wl.rangeAt b1 0 (List.map (Value.int .u8) (sby x0 k))) ∧ Hid (Below w.heap.size w wl)) (fun _ i _ => 32 - (intOf i).toNat)
 case atStart => exact ⟨0, x0, by decide, rfl, rfl, hx1.1, hx1.2, rfl, HD, HK, fun j v hv => by simp [sby] at hv, HB⟩
 case round =>
  clear HD HK HB
  obtain ⟨k, v, hk, rfl, rfl, v0, v1, HV, HD, HK, HR, HB⟩ := hrel
  by_cases hlt : k < 32
  ·obtain ⟨c, hc, hf⟩ := there_cell HK.out k hlt
   have g1 : (k : Int) < 32 := by omega
   obtain ⟨v', hv'⟩ : ∃ v', v' = lcg v := ⟨_, rfl⟩
   have hw1 : IntKind.u64.wrap (IntKind.u64.wrap (v * 6364136223846793005) + 1442695040888963407) = v' := by
    rw [IntKind.wrap_u64, IntKind.wrap_u64, hv']
    unfold lcg
    omega
   have hwd : Wd v' := by rw [hv']; exact lcg_wd _
   have HV' : Hid (v' = sst x0 (k + 1)) := by unfold Hid; rw [sst, ← HV.out, hv']
   obtain ⟨bb, hbb⟩ : ∃ bb, bb = v' / 1099511627776 % 256 := ⟨_, rfl⟩
   have hw8 : IntKind.u8.wrap (v' / 1099511627776) = bb := by
    rw [IntKind.wrap_u8, hbb]
   have HBB : Hid (bb = sst x0 (k + 1) / 1099511627776 % 256) := by unfold Hid; rw [hbb, ← HV'.out]
   clear hv' hbb
   obtain ⟨hwd0, hwd1⟩ := hwd
   go_wp2
   clear hw1 hw8
   go_roundw
   case rel => exact ⟨k + 1, v', by omega, by go_num, rfl, hwd0, hwd1, HV', there_set HD.out _ _ _, there_set HK.out _ _ _, by
    unfold Hid
    rw [sby, List.map_append, ← HBB.out]
    exact range_snoc HR.out (k := k) (by rw [List.length_map, sby_len]) HK.out hlt (.int .u8 bb), HB.out.setCell (p := ⟨b1, k, none⟩) (by dsimp only; omega) _⟩
   case measure => simp [intOf]; omega
  ·have e : k = 32 := by omega
   subst e
   have HY : Hid (By (sec n)) := sec_by n
   obtain ⟨hlen, hone, hi⟩ := by_cells HY.out
   have HR' : Hid (wr.rangeAt b1 0 (List.map (Value.int .u8) (sec n))) := by unfold Hid; rw [HX.out]; exact HR.out
   clear HR
   generalize hcs : (List.map (Value.int .u8) (sec n)) = cs at *
   have HE : Hid ((List.map (Value.int .u8) (sec n)) = cs) := hcs
   clear hcs
   go_wp2_with (first
    | (refine wpList_load_mid rfl 30 (.tmp 3) rfl b1 0 rfl cs _ HR'.out Tryz.underlying30 rfl hi ?_)
    | (refine wpList_store_mid rfl 30 (.tmp 2) (.tmp 22) rfl (w.heap.size) 0 cs.toArray rfl rfl (by simpa [hlen] using HD.out) (by simpa using hi) (all_oneCell_toArray hone) ?_))
   have HR2 : Hid ((wr.setCells (w.heap.size) 0 cs).rangeAt (w.heap.size) 0 cs) := World.rangeAt_setCells_same _ _ _ _ (by rw [hlen]; exact HD.out)
   have hld := run_loadVar_mid (P := Tryz.prog) _ _ 0 30 _ _ HR2.out Tryz.underlying30 rfl hi
   exact bodyPost_ret (v := .agg cs.toArray) (by simp [results, Tryz.results16]; exact hld) rfl ⟨by rw [HE.out], below_setCells _ (by omega) _ _ _ HB.out⟩
end Go.Proofs.YtlnbjehimabaiaaGreatDoor.Fc
