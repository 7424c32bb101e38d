/-
  What octet.Same and octet.Xor and the reference's Xor do, each by its walk: for whatever two slices of bytes. No statement of the seat is proved here.
-/
import Derived.Test.YtdndgjacpnjjaaaRefs
namespace Go.Proofs.Ytdndgjacpnjjaaa
open Go.RowKit

theorem xor8 (x y : Int) (hx : 0 ≤ x ∧ x ≤ 255) (hy : 0 ≤ y ∧ y ≤ 255) : 0 ≤ bits .xor .u8 x y ∧ bits .xor .u8 x y ≤ 255 ∧ (bits .xor .u8 x y = 0 ↔ x = y) := by
  rw [u8_xor x y (by omega) (by omega) (by omega) (by omega)]
  have h : x.toNat ^^^ y.toNat < 2 ^ 8 := Nat.xor_lt_two_pow (by omega) (by omega)
  refine ⟨by omega, by omega, ?_⟩
  constructor
  · intro h0
    have h1 : x.toNat ^^^ y.toNat = 0 := by omega
    have h2 : x.toNat = y.toNat := by
      have h3 : x.toNat ^^^ y.toNat ^^^ y.toNat = x.toNat := by rw [Nat.xor_assoc, Nat.xor_self, Nat.xor_zero]
      rw [h1, Nat.zero_xor] at h3
      exact h3.symm
    omega
  · rintro rfl
    simp
theorem or8 (x y : Int) (hx : 0 ≤ x ∧ x ≤ 255) (hy : 0 ≤ y ∧ y ≤ 255) : 0 ≤ bits .or .u8 x y ∧ bits .or .u8 x y ≤ 255 ∧ (bits .or .u8 x y = 0 ↔ x = 0 ∧ y = 0) := by
  rw [u8_or x y (by omega) (by omega) (by omega) (by omega)]
  have h : x.toNat ||| y.toNat < 2 ^ 8 := Nat.or_lt_two_pow (by omega) (by omega)
  refine ⟨by omega, by omega, ?_⟩
  constructor
  · intro h0
    have h1 : x.toNat ||| y.toNat = 0 := by omega
    have h2 := Nat.or_eq_zero_iff.1 h1
    omega
  · rintro ⟨rfl, rfl⟩
    simp
/-- One byte more is looked at. -/
theorem same_step {a b : List Int} {k : Nat} (ha : k < a.length) (hb : k < b.length) (p : Int) (hp : p = 0 ↔ a.take k = b.take k) (q : Int) (hq : q = 0 ↔ p = 0 ∧ a[k]?.getD 0 = b[k]?.getD 0) : q = 0 ↔ a.take (k + 1) = b.take (k + 1) := by
  rw [hq, hp, List.take_succ_eq_append_getElem ha, List.take_succ_eq_append_getElem hb, List.getElem?_eq_getElem ha, List.getElem?_eq_getElem hb]
  have e : (a.take k).length = (b.take k).length := by simp; omega
  constructor
  · rintro ⟨h1, h2⟩
    rw [h1]; simp at h2; rw [h2]
  · intro h
    have := List.append_inj h e
    exact ⟨this.1, by simpa using this.2⟩

theorem ret_bool {x y : Bool} (h : x = y) : Ending.returned (.bool x) = .returned (.bool y) := by rw [h]
theorem same_end {x y : List Int} {la lb k : Nat} (hx : x.length = la) (hy : y.length = lb) (hk : k = min la lb) {q : Int} (hq : q = 0 ↔ x.take k = y.take k) :
    (q = 0 → ((la : Int) == (lb : Int)) = decide (x = y)) ∧ (¬ q = 0 → false = decide (x = y)) := by
  subst hx hy hk
  by_cases e : x = y
  · subst e
    simp at hq
    simp [hq]
  · have e2 : decide (x = y) = false := by simp [e]
    rw [e2]
    refine ⟨fun h => ?_, fun _ => rfl⟩
    have h' := hq.1 h
    rw [beq_eq_false_iff_ne]
    intro hl
    apply e
    have hl' : x.length = y.length := by omega
    rwa [hl', Nat.min_self, ← hl', List.take_length, hl', List.take_length] at h'

set_option maxHeartbeats 1000000 in
theorem same_any (a : Option Addr) (la ca : Nat) (x : List Int) (b : Option Addr) (lb cb : Nat) (y : List Int) (w : World) (ha : Rd w a la ca x) (hb : Rd w b lb cb y) (ma : la ≤ 281474976710656) (mb : lb ≤ 281474976710656) :
    Calls Try.prog 9 #[.slice a la ca, .slice b lb cb] w fun e w' => e = .returned (.bool (decide (x = y))) ∧ Below w.heap.size w w' := by
  have HX : Hid (x.length = la) := ha.hlen
  have HY : Hid (y.length = lb) := hb.hlen
  have HA : Hid (Rd w a la ca x) := ha
  have HB : Hid (Rd w b lb cb y) := hb
  clear ha hb
  by_cases h0 : 0 < la ∧ 0 < lb
  · obtain ⟨ba, oa, rfl, hca⟩ := HA.out.cell h0.1
    obtain ⟨bb, ob, rfl, hcb⟩ := HB.out.cell h0.2
    have HCA : Hid _ := hca
    have HCB : Hid _ := hcb
    clear hca hcb
    by_cases hmin : lb < la
    all_goals
      go_enter Try.func9, Try.ntmps9
      go_wp2
      go_loopw [5, 12] (fun p i wr => ∃ (k : Nat) (q : Int), k ≤ min la lb ∧ i = .int .i64 k ∧ p = .int .u8 q ∧ 0 ≤ q ∧ q ≤ 255 ∧ Hid (q = 0 ↔ x.take k = y.take k) ∧ Below w.heap.size w wr) (fun _ i _ => min la lb - (intOf i).toNat)
      case atStart => exact ⟨0, 0, Nat.zero_le _, rfl, rfl, by omega, by omega, by simp [Hid], Below.refl _ _⟩
      case round =>
        obtain ⟨k, q, hk, rfl, rfl, hq0, hq1, HQ, hbel⟩ := hrel
        by_cases hlt : k < min la lb
        · have c1 := cell_later hbel (HCA.out k (by omega))
          have c2 := cell_later hbel (HCB.out k (by omega))
          have b1 := HA.out.byt.at k
          have b2 := HB.out.byt.at k
          have HB' : Hid _ := hbel
          clear hbel
          have g1 : (k : Int) < la := by omega
          have g2 : (k : Int) < lb := by omega
          go_wp2
          go_quiet (fail)
          go_wp2
          have X := xor8 _ _ b1 b2
          have O := or8 q _ ⟨hq0, hq1⟩ ⟨X.1, X.2.1⟩
          go_roundw
          case rel => exact ⟨k + 1, _, by omega, by go_num, rfl, O.1, O.2.1, same_step (by rw [HX.out]; omega) (by rw [HY.out]; omega) q HQ.out _ (by rw [O.2.2, X.2.2]), below_drewN HB'.out _⟩
          case measure => simp [intOf]; omega
        · have HE : Hid _ := same_end HX.out HY.out (show k = min la lb by omega) HQ.out
          by_cases hq : q = 0
          · subst hq
            go_wp2
            go_ret
            exact ⟨ret_bool (HE.out.1 (by simp)), hbel⟩
          · go_wp2
            go_ret
            exact ⟨ret_bool (HE.out.2 hq), hbel⟩
  · rcases (show la = 0 ∨ lb = 0 by omega) with h | h
    · subst h
      have HE : Hid _ := same_end HX.out HY.out (show 0 = min 0 lb by omega) (q := 0) (by simp)
      go_enter Try.func9, Try.ntmps9
      go_wp2
      refine wp_loop_rounds 1 ?_
      rw [rounds_succ]; go_wp2
      go_ret
      exact ⟨ret_bool (HE.out.1 (by simp)), Below.refl _ _⟩
    · subst h
      have HE : Hid _ := same_end HX.out HY.out (show 0 = min la 0 by omega) (q := 0) (by simp)
      by_cases hl : 0 < la
      · go_enter Try.func9, Try.ntmps9
        go_wp2
        refine wp_loop_rounds 1 ?_
        rw [rounds_succ]; go_wp2
        go_ret
        exact ⟨ret_bool (HE.out.1 (by simp)), Below.refl _ _⟩
      · have h1 : la = 0 := by omega
        subst h1
        go_enter Try.func9, Try.ntmps9
        go_wp2
        refine wp_loop_rounds 1 ?_
        rw [rounds_succ]; go_wp2
        go_ret
        exact ⟨ret_bool (HE.out.1 (by simp)), Below.refl _ _⟩

/-! ### Xor -/
/-- The exclusive or of two lists, as long as the shorter one. -/
def xorL (x y : List Int) : List Int := List.zipWith (bits .xor .u8) x y
theorem xorL_length (x y : List Int) : (xorL x y).length = min x.length y.length := by simp [xorL]
theorem xorL_byt {x y : List Int} (hx : Byt x) (hy : Byt y) : Byt (xorL x y) := by
  intro z hz
  obtain ⟨i, hi, rfl⟩ := List.mem_iff_getElem.1 hz
  rw [xorL_length] at hi
  simp only [xorL, List.getElem_zipWith]
  have := xor8 _ _ (hx _ (List.getElem_mem (show i < x.length by omega))) (hy _ (List.getElem_mem (show i < y.length by omega)))
  exact ⟨this.1, this.2.1⟩
theorem xorL_at {x y : List Int} {k : Nat} (hx : k < x.length) (hy : k < y.length) : (xorL x y)[k]? = some (bits .xor .u8 (x[k]?.getD 0) (y[k]?.getD 0)) := by
  rw [List.getElem?_eq_getElem (by rw [xorL_length]; omega)]
  simp [xorL, List.getElem?_eq_getElem hx, List.getElem?_eq_getElem hy]
/-- What the row holds when k bytes have been written: the first k of the answer, then noughts. -/
def half (z : List Int) (k : Nat) : List Int := z.take k ++ List.replicate (z.length - k) 0
theorem half_zero (z : List Int) : half z 0 = List.replicate z.length 0 := by simp [half]
theorem half_length (z : List Int) (k : Nat) (h : k ≤ z.length) : (half z k).length = z.length := by simp [half]; omega
theorem half_all (z : List Int) : half z z.length = z := by simp [half]
theorem half_set (z : List Int) (k : Nat) (h : k < z.length) (v : Int) (hv : z[k]? = some v) : (half z k).set k v = half z (k + 1) := by
  have e1 : (z.take k).length = k := by simp; omega
  have e2 : z.length - k = (z.length - (k + 1)) + 1 := by omega
  have e3 : z.take (k + 1) = z.take k ++ [v] := by
    rw [List.take_succ_eq_append_getElem h]
    rw [List.getElem?_eq_getElem h] at hv
    cases hv; rfl
  unfold half
  rw [e2, List.replicate_succ, e3, List.set_append_right _ _ (by omega), e1]
  simp

theorem half_map_set (z : List Int) (k : Nat) (h : k < z.length) (v : Int) (hv : z[k]? = some v) : ((half z k).map (Value.int .u8)).set k (.int .u8 v) = (half z (k + 1)).map (Value.int .u8) := by
  rw [← half_set z k h v hv, List.map_set]

set_option maxHeartbeats 1000000 in
theorem xor_some (ba oa la ca : Nat) (x : List Int) (bb ob lb cb : Nat) (y : List Int) (m : Nat) (w : World) (HX : Hid (x.length = la)) (HY : Hid (y.length = lb)) (HBX : Hid (Byt x)) (HBY : Hid (Byt y))
    (HCA : Hid (∀ i, i < la → w.cell? ⟨ba, oa + i, none⟩ = some (.int .u8 (x[i]?.getD 0)))) (HCB : Hid (∀ i, i < lb → w.cell? ⟨bb, ob + i, none⟩ = some (.int .u8 (y[i]?.getD 0)))) (hma : m ≤ la) (hmb : m ≤ lb) (hm : la ≤ m ∨ lb ≤ m) (ma : la ≤ 281474976710656) (mb : lb ≤ 281474976710656) :
    Calls Try.prog 18 #[.slice (some ⟨ba, oa, none⟩) la ca, .slice (some ⟨bb, ob, none⟩) lb cb] w fun e w' => e = .returned (.slice (some ⟨w.heap.size, 0, none⟩) m m) ∧
      w'.ownsRow w.heap.size 5 1 (.slice (some ⟨w.heap.size, 0, none⟩) m m) m ((xorL x y).map (Value.int .u8)) ∧ Below w.heap.size w w' := by
  obtain ⟨i0, hi, hz0, hz1, hz2⟩ := info_parts info5
  have HZ : Hid ((xorL x y).length = m) := by
    have h1 := HX.out
    have h2 := HY.out
    unfold Hid
    rw [xorL_length]
    omega
  have HM : Hid (la ≤ m ∨ lb ≤ m) := hm
  clear hm
  by_cases hmin : lb < la
  all_goals
    have HM' : Hid _ := HM.out
    go_enter Try.func18, Try.ntmps18
    go_wp2_with (at_make; refine wpList_make_full _ rfl _ _ 25 rfl w.heap.size 5 i0 (.int .u8 0) 1 Try.underlying25 hi hz0 hz1 _ _ _ _ m rfl rfl (by have := HM.out; omega) (by have := HM.out; omega) (by rw [hz2]; omega) (by unfold maxLen; omega) (Nat.le_refl _) ?_)
    intro w0 hown0 hgrow0
    have HO : Hid (w0.ownsRow w.heap.size 5 1 (.slice (some ⟨w.heap.size, 0, none⟩) m m) m ((half (xorL x y) 0).map (Value.int .u8))) := by
      unfold Hid
      rw [half_zero, HZ.out, List.map_replicate]
      have := toList_madeCells_one (.int .u8 0) m
      rw [← this]
      simpa [Value.cells] using hown0
    have HB : Hid (Below w.heap.size w w0) := (Below.refl _ _).grown hgrow0 (Nat.le_refl _) (fun k h => by cases h)
    clear hown0 hgrow0
    go_wp2
    go_loopw [15] (fun i wr => ∃ k : Nat, k ≤ m ∧ i = .int .i64 k ∧ Hid (wr.ownsRow w.heap.size 5 1 (.slice (some ⟨w.heap.size, 0, none⟩) m m) m ((half (xorL x y) k).map (Value.int .u8))) ∧ Hid (Below w.heap.size w wr)) (fun i _ => m - (intOf i).toNat)
    case atStart => exact ⟨0, Nat.zero_le _, rfl, HO, HB⟩
    case round =>
      obtain ⟨k, hk, rfl, HO', HB'⟩ := hrel
      by_cases hlt : k < m
      · have c1 := cell_later HB'.out (HCA.out k (by omega))
        have c2 := cell_later HB'.out (HCB.out k (by omega))
        have b1 := HBX.out.at k
        have b2 := HBY.out.at k
        have c3 : ∃ v, wr.cell? ⟨w.heap.size, k, none⟩ = some v := by
          rw [World.ownsRow.cellAt HO'.out k (by omega), List.getElem?_eq_getElem (by rw [List.length_map, half_length _ _ (by rw [HZ.out]; omega), HZ.out]; omega)]
          exact ⟨_, rfl⟩
        obtain ⟨v0, c3⟩ := c3
        have c4 := World.ownsRow.frozenAt HO'.out k
        have g1 : (k : Int) < la := by omega
        have g2 : (k : Int) < lb := by omega
        have g3 : (k : Int) < m := by omega
        go_wp2
        go_region
        all_goals go_wp2
        all_goals
          go_roundw
          case rel => exact ⟨k + 1, by omega, by go_num, by
            unfold Hid
            rw [← half_map_set (xorL x y) k (by rw [HZ.out]; omega) _ (xorL_at (by rw [HX.out]; omega) (by rw [HY.out]; omega))]
            exact (HO'.out.stored k _).1.drew, (HB'.out.setCell (by exact Nat.le_refl _) _).drew⟩
          case measure => simp [intOf]; omega
      · have e : k = m := by omega
        subst e
        go_wp2
        go_ret
        refine ⟨rfl, ?_, HB'.out⟩
        have := HO'.out
        rwa [← HZ.out, half_all, HZ.out] at this

set_option maxHeartbeats 1000000 in
theorem xor_zero (a : Option Addr) (la ca : Nat) (b : Option Addr) (lb cb : Nat) (w : World) (h : la = 0 ∨ lb = 0) (ma : la ≤ 281474976710656) (mb : lb ≤ 281474976710656) :
    Calls Try.prog 18 #[.slice a la ca, .slice b lb cb] w fun e w' => e = .returned (.slice (some ⟨w.heap.size, 0, none⟩) 0 0) ∧
      w'.ownsRow w.heap.size 5 1 (.slice (some ⟨w.heap.size, 0, none⟩) 0 0) 0 [] ∧ Below w.heap.size w w' := by
  obtain ⟨i0, hi, hz0, hz1, hz2⟩ := info_parts info5
  have HM : Hid (la = 0 ∨ lb = 0) := h
  clear h
  by_cases hmin : lb < la
  all_goals
    have HM' : Hid _ := HM.out
    go_enter Try.func18, Try.ntmps18
    go_wp2_with (at_make; refine wpList_make_full _ rfl _ _ 25 rfl w.heap.size 5 i0 (.int .u8 0) 1 Try.underlying25 hi hz0 hz1 _ _ _ _ 0 rfl rfl (by have := HM.out; omega) (by have := HM.out; omega) (by rw [hz2]; omega) (by unfold maxLen; omega) (Nat.le_refl _) ?_)
    intro w0 hown0 hgrow0
    have HO : Hid (w0.ownsRow w.heap.size 5 1 (.slice (some ⟨w.heap.size, 0, none⟩) 0 0) 0 []) := by
      have e : (madeCells (Value.int .u8 0).cells (0 * 1)).toList = [] := by simp [madeCells]
      unfold Hid
      first | (rw [e] at hown0; exact hown0) | simpa [madeCells] using hown0
    have HB : Hid (Below w.heap.size w w0) := (Below.refl _ _).grown hgrow0 (Nat.le_refl _) (fun k h => by cases h)
    clear hown0 hgrow0
    go_wp2
    refine wp_loop_rounds 1 ?_
    rw [rounds_succ]; go_wp2
    go_ret
    exact ⟨rfl, HO.out, HB.out⟩

theorem xor_any (a : Option Addr) (la ca : Nat) (x : List Int) (b : Option Addr) (lb cb : Nat) (y : List Int) (w : World) (ha : Rd w a la ca x) (hb : Rd w b lb cb y) (ma : la ≤ 281474976710656) (mb : lb ≤ 281474976710656) :
    Calls Try.prog 18 #[.slice a la ca, .slice b lb cb] w fun e w' => e = .returned (.slice (some ⟨w.heap.size, 0, none⟩) (min la lb) (min la lb)) ∧
      w'.ownsRow w.heap.size 5 1 (.slice (some ⟨w.heap.size, 0, none⟩) (min la lb) (min la lb)) (min la lb) ((xorL x y).map (Value.int .u8)) ∧ Below w.heap.size w w' := by
  by_cases h0 : 0 < la ∧ 0 < lb
  · obtain ⟨ba, oa, rfl, hca⟩ := ha.cell h0.1
    obtain ⟨bb, ob, rfl, hcb⟩ := hb.cell h0.2
    exact xor_some ba oa la ca x bb ob lb cb y (min la lb) w ha.hlen hb.hlen ha.byt hb.byt hca hcb (by omega) (by omega) (by omega) ma mb
  · have e : min la lb = 0 := by omega
    have ez : xorL x y = [] := List.eq_nil_of_length_eq_zero (by rw [xorL_length, ha.hlen, hb.hlen]; exact e)
    rw [e, ez]
    exact xor_zero a la ca b lb cb w (by omega) ma mb
end Go.Proofs.Ytdndgjacpnjjaaa
