/-
  What the reference's atLeast and freeze do, for whatever digits below 2^32. No statement of the seat is proved here.
-/
import Derived.Test.YtggjifpcoidipaaDoorRNum
namespace Go.Proofs.YtggjifpcoidipaaDoor
open Go.RowKit

/-- The reference's variable 'prime' lies there. -/
def Gp (w : World) : Prop := w.rangeAt 0 0 (List.map (Value.int .u64) pd)
theorem Gp.later {u u' : World} (h : Gp u) (hb : Below u.heap.size u u') : Gp u' := range_later hb h
theorem Gp.set {u : World} (h : Gp u) (p : Addr) (hp : p.block ≠ 0) (v : Value) : Gp (u.setCell p v) := fun j x hx => by
  rw [World.cell?_setCell_other _ _ _ _ (fun e => hp (by rw [e]))]
  exact h j x hx
theorem Gp.cell {u : World} (h : Gp u) (i : Nat) (hi : i < pd.length) : u.cell? ⟨0, i, none⟩ = some (.int .u64 pd[i]) := by
  have := h i (.int .u64 pd[i]) (by rw [List.getElem?_map, List.getElem?_eq_getElem hi]; rfl)
  rwa [Nat.zero_add] at this
theorem Gp.pos {u : World} (h : Gp u) : 0 < u.heap.size := World.block_lt_of_cell? u _ (h.cell 0 (by decide))
/-- Of two numbers whose digits are alike above a place, the greater one has the greater digit there. -/
theorem top_digit (a b : List Int) (t : Nat) (ha : t < a.length) (hb : t < b.length) (hl : a.length = b.length) (ba : Dg a) (bb : Dg b) (h : ∀ k, t < k → k < a.length → a[k]? = b[k]?) : (a[t] < b[t] → nv a < nv b) := by
  intro hlt
  have hd : a.drop (t + 1) = b.drop (t + 1) := List.ext_getElem? fun k => by
    rw [List.getElem?_drop, List.getElem?_drop]
    by_cases hk : t + 1 + k < a.length
    · exact h _ (by omega) hk
    · rw [List.getElem?_eq_none (by omega), List.getElem?_eq_none (by omega)]
  have ea : a = a.take t ++ a[t] :: a.drop (t + 1) := by rw [List.getElem_cons_drop, List.take_append_drop]
  have eb : b = b.take t ++ b[t] :: b.drop (t + 1) := by rw [List.getElem_cons_drop, List.take_append_drop]
  have la : (a.take t).length = t := by rw [List.length_take]; omega
  have lb : (b.take t).length = t := by rw [List.length_take]; omega
  have na : nv a = nv (a.take t) + 65536 ^ t * (a[t] + 65536 * nv (a.drop (t + 1))) := by
    have := nv_app (a.take t) (a[t] :: a.drop (t + 1))
    rw [← ea, la, nv] at this
    exact this
  have nb : nv b = nv (b.take t) + 65536 ^ t * (b[t] + 65536 * nv (b.drop (t + 1))) := by
    have := nv_app (b.take t) (b[t] :: b.drop (t + 1))
    rw [← eb, lb, nv] at this
    exact this
  have ba' := nv_bound (a.take t) (fun x hx => ba x (List.mem_of_mem_take hx))
  have bb' := nv_bound (b.take t) (fun x hx => bb x (List.mem_of_mem_take hx))
  rw [la] at ba'
  rw [lb] at bb'
  rw [hd] at na
  rw [na, nb, Int.mul_add, Int.mul_add]
  have h1 : a[t] + 1 ≤ b[t] := by omega
  have h2 : 65536 ^ t * (a[t] + 1) ≤ 65536 ^ t * b[t] := Int.mul_le_mul_of_nonneg_left h1 (Int.le_of_lt (Int.pow_pos (by decide)))
  rw [Int.mul_add, Int.mul_one] at h2
  omega
/-- Is it the prime, or more? -/
def atl (l : List Int) : Bool := decide (57896044618658097711785492504343953926634992332820282019728792003956564819949 ≤ nv l)

set_option maxHeartbeats 4000000 in
theorem atLeast_any (l : List Int) (hl : l.length = 16) (hd : Dg l) (w : World) (hg : Gp w) :
    Calls Tryd.prog 45 #[.agg (List.map (Value.int .u64) l).toArray] w fun e w' => e = .returned (.bool (atl l)) ∧ Below w.heap.size w w' := by
  go_enter Tryd.func45, Tryd.ntmps45
  go_wp2
  have HL : Hid (Wrd (w.alloc (.cells (List.map (Value.int .u64) l).toArray 31)) w.heap.size l) := wrd_box w l hl _
  have HG : Hid (Gp (w.alloc (.cells (List.map (Value.int .u64) l).toArray 31))) := hg.later (bel1 _ _)
  have HB : Hid (Below w.heap.size w (w.alloc (.cells (List.map (Value.int .u64) l).toArray 31))) := bel1 _ _
  generalize w.alloc (.cells (List.map (Value.int .u64) l).toArray 31) = W0 at *
  go_loopw [3] (fun i wl => ∃ j : Int, -1 ≤ j ∧ j ≤ 15 ∧ i = .int .i64 j ∧ Hid (∀ k : Nat, j < k → k < 16 → l[k]? = pd[k]?) ∧ Hid (Wrd wl w.heap.size l) ∧ Hid (Gp wl) ∧ Hid (Below w.heap.size w wl)) (fun i _ => (intOf i + 1).toNat)
  case atStart => exact ⟨15, by decide, by decide, rfl, fun k h1 h2 => by omega, HL, HG, HB⟩
  case round =>
    clear HL HG HB
    obtain ⟨j, j0, j1, rfl, HJ, HL, HG, HB⟩ := hrel
    by_cases hj : 0 ≤ j
    · obtain ⟨t, rfl⟩ := Int.eq_ofNat_of_zero_le hj
      have ht : t < l.length := by omega
      have hp : t < pd.length := by rw [pd_len]; omega
      have c1 := (HL.out.cell t ht hl).1
      have c2 := HG.out.cell t hp
      have g1 : (t : Int) < 16 := by omega
      have g0 : (0 : Int) ≤ t := by omega
      by_cases he : l[t] = pd[t]
      · have HE : Hid (l[t]? = pd[t]?) := by unfold Hid; rw [List.getElem?_eq_getElem ht, List.getElem?_eq_getElem hp, he]
        generalize l[t] = p at *
        generalize pd[t] = q at *
        subst he
        go_wp2
        go_region
        all_goals
          go_wp2
          go_roundw
          case rel => exact ⟨(t : Int) - 1, by omega, by omega, rfl, fun k h1 h2 => by
            by_cases hk : k = t
            · rw [hk]; exact HE.out
            · exact HJ.out k (by omega) h2, HL.out.drew, range_later (Below.refl _ _).drew HG.out, HB.out.drew⟩
          case measure => simp [intOf]
      · have HA : Hid (atl l = decide (pd[t] < l[t])) := by
          unfold Hid atl
          have hj' : ∀ k, t < k → k < l.length → l[k]? = pd[k]? := fun k h1 h2 => HJ.out k (by omega) (by omega)
          have hj2 : ∀ k, t < k → k < pd.length → pd[k]? = l[k]? := fun k h1 h2 => (HJ.out k (by omega) (by rw [pd_len] at h2; exact h2)).symm
          have k1 := top_digit l pd t ht hp (by rw [hl, pd_len]) hd pd_dg hj'
          have k2 := top_digit pd l t hp ht (by rw [hl, pd_len]) pd_dg hd hj2
          rw [nv_pd] at k1 k2
          rw [decide_eq_decide]
          constructor
          · intro h
            apply Int.lt_of_not_ge
            intro h2
            have := k1 (by omega)
            omega
          · intro h
            have := k2 h
            omega
        generalize l[t] = p at *
        generalize pd[t] = q at *
        have hd1 : (p == q) = false := by simpa using he
        go_wp2
        go_region
        all_goals
          go_wp2
          go_region
          all_goals
            go_wp2
            go_ret
            exact ⟨by rw [HA.out]; rfl, HB.out.drew.drew⟩
    · have HA : Hid (atl l = true) := by
        have e : l = pd := List.ext_getElem? fun k => by
          by_cases hk : k < 16
          · exact HJ.out k (by omega) hk
          · rw [List.getElem?_eq_none (by omega), List.getElem?_eq_none (by rw [pd_len]; omega)]
        unfold Hid atl
        rw [e, nv_pd]
        decide
      go_wp2
      go_ret
      exact ⟨by rw [HA.out]; rfl, HB.out⟩
end Go.Proofs.YtggjifpcoidipaaDoor
