/-
  What the reference's Xor does, by its walk: for whatever two slices of bytes. No statement of the seat is proved here.
-/
import Derived.Test.YtdndgjacpnjjaaaLists
import Derived.Deep.RegionHeld3
import Derived.Deep.RegionLaw
import Derived.Deep.AppendLies
namespace Go.Proofs.Ytdndgjacpnjjaaa
open Go.RowKit

theorem xorL_take_succ {x y : List Int} {k : Nat} (hx : k < x.length) (hy : k < y.length) : ((xorL x y).take (k + 1)).map (Value.int .u8) = ((xorL x y).take k).map (Value.int .u8) ++ [.int .u8 (bits .xor .u8 (x[k]?.getD 0) (y[k]?.getD 0))] := by
  have h : k < (xorL x y).length := by rw [xorL_length]; omega
  have e := xorL_at hx hy
  rw [List.getElem?_eq_getElem h] at e
  rw [List.take_succ_eq_append_getElem h, List.map_append, Option.some.inj e]
  rfl
theorem cell_laid (w : World) (v : Value) (t : TypeId) : ∀ j u, [v][j]? = some u → (w.alloc (.cells #[v] t)).cell? ((⟨w.heap.size, 0, none⟩ : Addr).add j) = some u := by
  intro j u hj
  match j, hj with
  | 0, hj => simp at hj; subst hj; simp [Addr.add]

set_option maxHeartbeats 1000000 in
theorem refxor_some (ba oa la ca : Nat) (x : List Int) (bb ob lb cb : Nat) (y : List Int) (m : Nat) (w : World) (HX : Hid (x.length = la)) (HY : Hid (y.length = lb)) (HBX : Hid (Byt x)) (HBY : Hid (Byt y))
    (HCA : Hid (∀ i, i < la → w.cell? ⟨ba, oa + i, none⟩ = some (.int .u8 (x[i]?.getD 0)))) (HCB : Hid (∀ i, i < lb → w.cell? ⟨bb, ob + i, none⟩ = some (.int .u8 (y[i]?.getD 0)))) (hma : m ≤ la) (hmb : m ≤ lb) (hm : la ≤ m ∨ lb ≤ m) (ma : la ≤ 140737488351232) (_mb : lb ≤ 140737488351232) :
    Calls Try.prog 20 #[.slice (some ⟨ba, oa, none⟩) la ca, .slice (some ⟨bb, ob, none⟩) lb cb] w fun e w' => ∃ v, e = .returned v ∧ w'.ownsRow w.heap.size 5 1 v m ((xorL x y).map (Value.int .u8)) ∧ Below w.heap.size w w' := by
  obtain ⟨i0, hi, hz0, hz1, hz2⟩ := info_parts info5
  have HZ : Hid ((xorL x y).length = m) := by
    have h1 := HX.out
    have h2 := HY.out
    unfold Hid
    rw [xorL_length]
    omega
  have HM : Hid (la ≤ m ∨ lb ≤ m) := hm
  clear hm
  go_enter Try.func20, Try.ntmps20
  go_wp2
  go_loopw [5, 6] (fun v i wr => ∃ k : Nat, k ≤ m ∧ i = .int .i64 k ∧ Hid (wr.ownsRow w.heap.size 5 1 v k (((xorL x y).take k).map (Value.int .u8))) ∧ Hid (Below w.heap.size w wr)) (fun _ i _ => m - (intOf i).toNat)
  case atStart => exact ⟨0, Nat.zero_le _, rfl, World.ownsRow_nil _ _ _ _, Below.refl _ _⟩
  case round =>
    obtain ⟨k, hk, rfl, HO', HB'⟩ := hrel
    by_cases hlt : k < m
    · have c1 := cell_later HB'.out (HCA.out k (by omega))
      have c2 := cell_later HB'.out (HCB.out k (by omega))
      have b1 := HBX.out.at k
      have b2 := HBY.out.at k
      have hsz := HB'.out.size
      have g1 : (k : Int) < la := by omega
      have g2 : (k : Int) < lb := by omega
      go_wp2
      go_region_law (refine step_append_lies _ rfl (.tmp 19) (.tmp 29) 25 rfl w.heap.size 5 i0 (.int .u8 0) 1 1 Try.underlying25 hi hz0 hz1 hz2 rfl (by decide) _ k _ rfl (HO'.out.alloc _).drew ⟨wr.heap.size, 0, none⟩ 1 1 [.int .u8 (bits .xor .u8 (x[k]?.getD 0) (y[k]?.getD 0))] rfl rfl (cell_laid _ _ _) (bytes_oneCell [_]) (by decide) (by unfold maxLen; omega) (by omega) (by simp; omega) _ rfl ?_; intro g cap w1 hown hgrow hat hlt1)
      all_goals go_wp2
      all_goals
        go_roundw
        case rel => exact ⟨k + 1, by omega, by go_num, by
          unfold Hid
          rw [xorL_take_succ (by rw [HX.out]; omega) (by rw [HY.out]; omega)]
          exact hown, ((HB'.out.alloc hsz _).drew).grown hgrow (by simp; omega) (fun j hj => (HO'.out.lt j hj).1)⟩
        case measure => simp [intOf]; omega
    · have e : k = m := by omega
      subst e
      have hfin : Hid ((xorL x y).take k = xorL x y) := List.take_of_length_le (by rw [HZ.out]; omega)
      rcases HM.out with h | h
      · have e2 : la = k := by omega
        subst e2
        go_wp2
        go_ret
        refine ⟨_, rfl, ?_, HB'.out⟩
        have := HO'.out
        rwa [hfin.out] at this
      · have e2 : lb = k := by omega
        subst e2
        by_cases h2 : lb < la
        · go_wp2
          go_ret
          refine ⟨_, rfl, ?_, HB'.out⟩
          have := HO'.out
          rwa [hfin.out] at this
        · go_wp2
          go_ret
          refine ⟨_, rfl, ?_, HB'.out⟩
          have := HO'.out
          rwa [hfin.out] at this

set_option maxHeartbeats 1000000 in
theorem refxor_zero (a : Option Addr) (la ca : Nat) (b : Option Addr) (lb cb : Nat) (w : World) (h : la = 0 ∨ lb = 0) :
    Calls Try.prog 20 #[.slice a la ca, .slice b lb cb] w fun e w' => e = .returned (.slice none 0 0) ∧ w' = w := by
  rcases h with rfl | rfl
  · go_enter Try.func20, Try.ntmps20
    go_wp2
    refine wp_loop_rounds 1 ?_
    rw [rounds_succ]; go_wp2
    go_ret
    exact ⟨rfl, rfl⟩
  · by_cases h : 0 < la
    · go_enter Try.func20, Try.ntmps20
      go_wp2
      refine wp_loop_rounds 1 ?_
      rw [rounds_succ]; go_wp2
      go_ret
      exact ⟨rfl, rfl⟩
    · go_enter Try.func20, Try.ntmps20
      go_wp2
      refine wp_loop_rounds 1 ?_
      rw [rounds_succ]; go_wp2
      go_ret
      exact ⟨rfl, rfl⟩

/-- The reference's Xor. -/
theorem refxor_any (a : Option Addr) (la ca : Nat) (x : List Int) (b : Option Addr) (lb cb : Nat) (y : List Int) (w : World) (ha : Rd w a la ca x) (hb : Rd w b lb cb y) (ma : la ≤ 140737488351232) (mb : lb ≤ 140737488351232) :
    Calls Try.prog 20 #[.slice a la ca, .slice b lb cb] w fun e w' => ∃ a' c', e = .returned (.slice a' (min la lb) c') ∧ Rd w' a' (min la lb) c' (xorL x y) ∧ Below w.heap.size w w' := by
  by_cases h0 : 0 < la ∧ 0 < lb
  · obtain ⟨ba, oa, rfl, hca⟩ := ha.cell h0.1
    obtain ⟨bb, ob, rfl, hcb⟩ := hb.cell h0.2
    refine (refxor_some ba oa la ca x bb ob lb cb y (min la lb) w ha.hlen hb.hlen ha.byt hb.byt hca hcb (by omega) (by omega) (by omega) ma mb).mono ?_
    rintro e w' ⟨v, rfl, ho, hbel⟩
    obtain ⟨a', c', rfl⟩ := owns_shape ho
    exact ⟨a', c', rfl, Rd.owns (xorL_byt ha.byt hb.byt) ho, hbel⟩
  · have e : min la lb = 0 := by omega
    have ez : xorL x y = [] := List.eq_nil_of_length_eq_zero (by rw [xorL_length, ha.hlen, hb.hlen]; exact e)
    rw [e, ez]
    refine (refxor_zero a la ca b lb cb w (by omega)).mono ?_
    rintro e w' ⟨rfl, rfl⟩
    exact ⟨none, 0, rfl, Rd.nil _ _ _ (fun _ => rfl), Below.refl _ _⟩
end Go.Proofs.Ytdndgjacpnjjaaa
