/-
  What octet's Same does: for whatever bytes. No statement of the seat is proved here.
-/
import Derived.Test.YtjmdgmbkkkoamaaKGen
namespace Go.Proofs.Ytjmdgmbkkkoamaa
open Go.RowKit

theorem or8 (x y : Int) (hx : 0 ≤ x ∧ x ≤ 255) (hy : 0 ≤ y ∧ y ≤ 255) : 0 ≤ bits .or .u8 x y ∧ bits .or .u8 x y ≤ 255 ∧ (bits .or .u8 x y = 0 ↔ x = 0 ∧ y = 0) := by
  rw [u8_or x y (by omega) (by omega) (by omega) (by omega)]
  have h : x.toNat ||| y.toNat < 2 ^ 8 := Nat.or_lt_two_pow (by omega) (by omega)
  refine ⟨by omega, by omega, ?_⟩
  constructor
  · intro h0
    have h1 : x.toNat ||| y.toNat = 0 := by omega
    have h2 := Nat.or_eq_zero_iff.1 h1
    omega
  · rintro ⟨rfl, rfl⟩
    simp
/-- One byte more is looked at. -/
theorem same_step {a b : List Int} {k : Nat} (ha : k < a.length) (hb : k < b.length) (p : Int) (hp : p = 0 ↔ a.take k = b.take k) (q : Int) (hq : q = 0 ↔ p = 0 ∧ a[k]?.getD 0 = b[k]?.getD 0) : q = 0 ↔ a.take (k + 1) = b.take (k + 1) := by
  rw [hq, hp, List.take_succ_eq_append_getElem ha, List.take_succ_eq_append_getElem hb, List.getElem?_eq_getElem ha, List.getElem?_eq_getElem hb]
  have e : (a.take k).length = (b.take k).length := by simp; omega
  constructor
  · rintro ⟨h1, h2⟩
    rw [h1]; simp at h2; rw [h2]
  · intro h
    have := List.append_inj h e
    exact ⟨this.1, by simpa using this.2⟩
theorem same_end {x y : List Int} {la lb k : Nat} (hx : x.length = la) (hy : y.length = lb) (hk : k = min la lb) {q : Int} (hq : q = 0 ↔ x.take k = y.take k) :
    (q = 0 → ((la : Int) == (lb : Int)) = decide (x = y)) ∧ (¬ q = 0 → false = decide (x = y)) := by
  subst hx hy hk
  by_cases e : x = y
  · subst e
    simp at hq
    simp [hq]
  · have e2 : decide (x = y) = false := by simp [e]
    rw [e2]
    refine ⟨fun h => ?_, fun _ => rfl⟩
    have h' := hq.1 h
    rw [beq_eq_false_iff_ne]
    intro hl
    apply e
    have hl' : x.length = y.length := by omega
    rwa [hl', Nat.min_self, ← hl', List.take_length, hl', List.take_length] at h'

set_option maxHeartbeats 1000000 in
theorem same_any (a : Option Addr) (la ca : Nat) (x : List Int) (b : Option Addr) (lb cb : Nat) (y : List Int) (w : World) (ha : Rd w a la ca x) (hb : Rd w b lb cb y) (ma : la ≤ 281474976710656) (mb : lb ≤ 281474976710656) :
    Calls Try.prog 29 #[.slice a la ca, .slice b lb cb] w fun e w' => e = .returned (.bool (decide (x = y))) ∧ Below w.heap.size w w' := by
  have HX : Hid (x.length = la) := ha.hlen
  have HY : Hid (y.length = lb) := hb.hlen
  have HA : Hid (Rd w a la ca x) := ha
  have HB : Hid (Rd w b lb cb y) := hb
  clear ha hb
  by_cases h0 : 0 < la ∧ 0 < lb
  · obtain ⟨ba, oa, rfl, hca⟩ := HA.out.cell h0.1
    obtain ⟨bb, ob, rfl, hcb⟩ := HB.out.cell h0.2
    have HCA : Hid _ := hca
    have HCB : Hid _ := hcb
    clear hca hcb
    by_cases hmin : lb < la
    all_goals
      go_enter Try.func29, Try.ntmps29
      go_wp2
      go_loopw [5, 12] (fun p i wr => ∃ (k : Nat) (q : Int), k ≤ min la lb ∧ i = .int .i64 k ∧ p = .int .u8 q ∧ 0 ≤ q ∧ q ≤ 255 ∧ Hid (q = 0 ↔ x.take k = y.take k) ∧ Below w.heap.size w wr) (fun _ i _ => min la lb - (intOf i).toNat)
      case atStart => exact ⟨0, 0, Nat.zero_le _, rfl, rfl, by omega, by omega, by simp [Hid], Below.refl _ _⟩
      case round =>
        obtain ⟨k, q, hk, rfl, rfl, hq0, hq1, HQ, hbel⟩ := hrel
        by_cases hlt : k < min la lb
        · have c1 := cell_later hbel (HCA.out k (by omega))
          have c2 := cell_later hbel (HCB.out k (by omega))
          have b1 := HA.out.byt.at k
          have b2 := HB.out.byt.at k
          have HB' : Hid _ := hbel
          clear hbel
          have g1 : (k : Int) < la := by omega
          have g2 : (k : Int) < lb := by omega
          go_wp2
          go_quiet (fail)
          go_wp2
          have X := xor8 _ _ b1 b2
          have O := or8 q _ ⟨hq0, hq1⟩ ⟨X.1, X.2.1⟩
          go_roundw
          case rel => exact ⟨k + 1, _, by omega, by go_num, rfl, O.1, O.2.1, same_step (by rw [HX.out]; omega) (by rw [HY.out]; omega) q HQ.out _ (by rw [O.2.2, X.2.2]), below_drewN HB'.out _⟩
          case measure => simp [intOf]; omega
        · have HE : Hid _ := same_end HX.out HY.out (show k = min la lb by omega) HQ.out
          by_cases hq : q = 0
          · subst hq
            go_wp2
            go_ret
            exact ⟨ret_bool (HE.out.1 (by simp)), hbel⟩
          · go_wp2
            go_ret
            exact ⟨ret_bool (HE.out.2 hq), hbel⟩
  · rcases (show la = 0 ∨ lb = 0 by omega) with h | h
    · subst h
      have HE : Hid _ := same_end HX.out HY.out (show 0 = min 0 lb by omega) (q := 0) (by simp)
      go_enter Try.func29, Try.ntmps29
      go_wp2
      refine wp_loop_rounds 1 ?_
      rw [rounds_succ]; go_wp2
      go_ret
      exact ⟨ret_bool (HE.out.1 (by simp)), Below.refl _ _⟩
    · subst h
      have HE : Hid _ := same_end HX.out HY.out (show 0 = min la 0 by omega) (q := 0) (by simp)
      by_cases hl : 0 < la
      · go_enter Try.func29, Try.ntmps29
        go_wp2
        refine wp_loop_rounds 1 ?_
        rw [rounds_succ]; go_wp2
        go_ret
        exact ⟨ret_bool (HE.out.1 (by simp)), Below.refl _ _⟩
      · have h1 : la = 0 := by omega
        subst h1
        go_enter Try.func29, Try.ntmps29
        go_wp2
        refine wp_loop_rounds 1 ?_
        rw [rounds_succ]; go_wp2
        go_ret
        exact ⟨ret_bool (HE.out.1 (by simp)), Below.refl _ _⟩
end Go.Proofs.Ytjmdgmbkkkoamaa
