/-
  The walk of FieldBytes: true for whatever bytes and numbers. No statement of the seat is proved here.
-/
import Derived.Test.YtgnfbnjhmiggbaaFLawM
namespace Go.Proofs.Ytgnfbnjhmiggbaa
open Go.RowKit

theorem arr_drew {u : World} {b : Nat} {cs : List Value} (h : Arr u b cs) : Arr u.drew b cs := h.later (Below.refl _ _).drew
theorem var_drew {u : World} {b : Nat} {v : Int} (h : Var u b v) : Var u.drew b v := h.later (Below.refl _ _).drew
theorem num_lay (x : Int) (hx : El x) : num (lay 32 x) = x := by
  unfold num
  have h1 := hx.h0
  have h2 := hx.h1
  rw [leN_lay, Int.emod_eq_of_lt h1 (Int.lt_trans h2 (by decide)), Int.emod_eq_of_lt h1 (Int.lt_trans h2 (by decide)), hx.em]
/-- Of two lists that are alike above a place, the lesser one has the lesser byte there. -/
theorem top_lt (a b : List Int) (t : Nat) (ha : t < a.length) (hb : t < b.length) (hl : a.length = b.length) (ba : Byt a) (bb : Byt b) (h : ∀ k, t < k → k < a.length → a[k]? = b[k]?) (hlt : leN a < leN b) (hne : a[t] ≠ b[t]) : a[t] < b[t] := by
  have hd : a.drop (t + 1) = b.drop (t + 1) := List.ext_getElem? fun k => by
    rw [List.getElem?_drop, List.getElem?_drop]
    by_cases hk : t + 1 + k < a.length
    · exact h _ (by omega) hk
    · rw [List.getElem?_eq_none (by omega), List.getElem?_eq_none (by omega)]
  have ea : a = a.take t ++ a[t] :: a.drop (t + 1) := by rw [List.getElem_cons_drop, List.take_append_drop]
  have eb : b = b.take t ++ b[t] :: b.drop (t + 1) := by rw [List.getElem_cons_drop, List.take_append_drop]
  have la : (a.take t).length = t := by rw [List.length_take]; omega
  have lb : (b.take t).length = t := by rw [List.length_take]; omega
  have na : leN a = leN (a.take t) + 256 ^ t * (a[t] + 256 * leN (a.drop (t + 1))) := by
    have := leN_app (a.take t) (a[t] :: a.drop (t + 1))
    rw [← ea, la, leN] at this
    exact this
  have nb : leN b = leN (b.take t) + 256 ^ t * (b[t] + 256 * leN (b.drop (t + 1))) := by
    have := leN_app (b.take t) (b[t] :: b.drop (t + 1))
    rw [← eb, lb, leN] at this
    exact this
  have ba' := leN_bound (a.take t) (ba.take t)
  have bb' := leN_bound (b.take t) (bb.take t)
  rw [la] at ba'
  rw [lb] at bb'
  rw [hd] at na
  rw [na, nb, Int.mul_add, Int.mul_add] at hlt
  apply Int.lt_of_not_ge
  intro hge
  have h1 : b[t] + 1 ≤ a[t] := by omega
  have h2 : 256 ^ t * (b[t] + 1) ≤ 256 ^ t * a[t] := Int.mul_le_mul_of_nonneg_left h1 (Int.le_of_lt (Int.pow_pos (by decide)))
  rw [Int.mul_add, Int.mul_one] at h2
  omega

set_option maxHeartbeats 8000000 in
theorem fieldBytes_walk (a : List Int) (n : Int) (ha : By a) (hn : -9223372036854775808 ≤ n ∧ n ≤ 9223372036854775807) (w : World) :
    Calls Try.prog 6 #[(.agg (List.map (Value.int .u8) a).toArray), .int .i64 n] w fun e w' => e = .returned (.bool true) ∧ Below w.heap.size w w' := by
  go_enter Try.func6, Try.ntmps6
  go_upto_region 1 with fail
  have HB : Hid (Below w.heap.size w (w.alloc (.cells (List.map (Value.int .u8) a).toArray 22))) := bel1 _ _
  have A2 : Hid (Arr (w.alloc (.cells (List.map (Value.int .u8) a).toArray 22)) (w.heap.size) (List.map (Value.int .u8) a)) := by
    have := arr_box w a ha
    simpa [Hid] using this
  generalize w.alloc (.cells (List.map (Value.int .u8) a).toArray 22) = W0 at *
  go_wp2_with (first | (refine wpList_load_mid rfl 22 (.tmp 2) rfl (w.heap.size) 0 rfl (List.map (Value.int .u8) a) _ A2.out.rng Try.underlying22 rfl (by_cells ha).2.2 ?_))
  refine (edge_any a ha n hn _).mono ?_
  rintro e u1_0 ⟨l12, rfl, hl12, hb1_0⟩
  have hc1_1 : Hid (Below W0.heap.size W0 u1_0) := hb1_0
  clear hb1_0
  go_wp2_with fail
  refine (from_e l12 hl12 _).mono ?_
  rintro e u1_1 ⟨z13, rfl, hz13, Hz13, hb1_1⟩
  have hc1_2 : Hid (Below W0.heap.size W0 u1_1) := hc1_1.out.trans ((hb1_1).mono hc1_1.out.size)
  clear hb1_1 hc1_1
  go_upto_region 2 with fail
  have hX : Hid (Below W0.heap.size W0 (u1_1.alloc (.cells #[.int .u64 (e0 z13), .int .u64 (e1 z13), .int .u64 (e2 z13), .int .u64 (e3 z13)] 28))) := hc1_2.out.trans ((bel1 u1_1 _).mono hc1_2.out.size)
  have V5 : Hid (Var (u1_1.alloc (.cells #[.int .u64 (e0 z13), .int .u64 (e1 z13), .int .u64 (e2 z13), .int .u64 (e3 z13)] 28)) (u1_1.heap.size) z13) := var_new u1_1 z13 _
  have hge5 : w.heap.size ≤ u1_1.heap.size := Nat.le_trans HB.out.size hc1_2.out.size
  generalize u1_1.alloc (.cells #[.int .u64 (e0 z13), .int .u64 (e1 z13), .int .u64 (e2 z13), .int .u64 (e3 z13)] 28) = W5 at *
  generalize u1_1.heap.size = b5 at *
  replace A2 : Hid (Arr W5 (w.heap.size) (List.map (Value.int .u8) a)) := A2.out.later hX.out
  replace HB : Hid (Below w.heap.size w W5) := HB.out.trans (Below.mono hX.out HB.out.size)
  clear hX hc1_2
  obtain ⟨V5c0, V5c1, V5c2, V5c3⟩ := V5.out
  go_wp2_with fail
  refine (bytes_e z13 hz13 _).mono ?_
  rintro e u2_0 ⟨rfl, hb2_0⟩
  have hc2_1 : Hid (Below W5.heap.size W5 u2_0) := hb2_0
  clear hb2_0
  try clear V5c0 V5c1 V5c2 V5c3
  have hby6 := (lay_by z13)
  generalize hcs : (List.map (Value.int .u8) (lay 32 z13)) = cs6 at *
  have HC6 : Hid ((List.map (Value.int .u8) (lay 32 z13)) = cs6) := hcs
  clear hcs
  obtain ⟨hlen6, hone6, hi6⟩ := by_cells' hby6 HC6
  have hth := there_new u2_0 32 #[.int .u8 0, .int .u8 0, .int .u8 0, .int .u8 0, .int .u8 0, .int .u8 0, .int .u8 0, .int .u8 0, .int .u8 0, .int .u8 0, .int .u8 0, .int .u8 0, .int .u8 0, .int .u8 0, .int .u8 0, .int .u8 0, .int .u8 0, .int .u8 0, .int .u8 0, .int .u8 0, .int .u8 0, .int .u8 0, .int .u8 0, .int .u8 0, .int .u8 0, .int .u8 0, .int .u8 0, .int .u8 0, .int .u8 0, .int .u8 0, .int .u8 0, .int .u8 0] rfl 22
  have A6 := arr_new u2_0 #[.int .u8 0, .int .u8 0, .int .u8 0, .int .u8 0, .int .u8 0, .int .u8 0, .int .u8 0, .int .u8 0, .int .u8 0, .int .u8 0, .int .u8 0, .int .u8 0, .int .u8 0, .int .u8 0, .int .u8 0, .int .u8 0, .int .u8 0, .int .u8 0, .int .u8 0, .int .u8 0, .int .u8 0, .int .u8 0, .int .u8 0, .int .u8 0, .int .u8 0, .int .u8 0, .int .u8 0, .int .u8 0, .int .u8 0, .int .u8 0, .int .u8 0, .int .u8 0] rfl cs6 hlen6
  have N6 := bel_new u2_0 #[.int .u8 0, .int .u8 0, .int .u8 0, .int .u8 0, .int .u8 0, .int .u8 0, .int .u8 0, .int .u8 0, .int .u8 0, .int .u8 0, .int .u8 0, .int .u8 0, .int .u8 0, .int .u8 0, .int .u8 0, .int .u8 0, .int .u8 0, .int .u8 0, .int .u8 0, .int .u8 0, .int .u8 0, .int .u8 0, .int .u8 0, .int .u8 0, .int .u8 0, .int .u8 0, .int .u8 0, .int .u8 0, .int .u8 0, .int .u8 0, .int .u8 0, .int .u8 0] cs6
  have hX : Hid (Below W5.heap.size W5 ((u2_0.alloc (.cells #[.int .u8 0, .int .u8 0, .int .u8 0, .int .u8 0, .int .u8 0, .int .u8 0, .int .u8 0, .int .u8 0, .int .u8 0, .int .u8 0, .int .u8 0, .int .u8 0, .int .u8 0, .int .u8 0, .int .u8 0, .int .u8 0, .int .u8 0, .int .u8 0, .int .u8 0, .int .u8 0, .int .u8 0, .int .u8 0, .int .u8 0, .int .u8 0, .int .u8 0, .int .u8 0, .int .u8 0, .int .u8 0, .int .u8 0, .int .u8 0, .int .u8 0, .int .u8 0] 22)).setCells u2_0.heap.size 0 cs6)) := hc2_1.out.trans (N6.mono hc2_1.out.size)
  have hge6 : w.heap.size ≤ u2_0.heap.size := Nat.le_trans HB.out.size hc2_1.out.size
  have lt6_V5 : b5 < u2_0.heap.size := (V5.out.later hc2_1.out).lt
  have lt6_A2 : (w.heap.size) < u2_0.heap.size := (A2.out.later hc2_1.out).lt
  go_upto_region 3 with (refine wpList_store_mid rfl 22 (.tmp 6) (.tmp 15) rfl (u2_0.heap.size) 0 cs6.toArray rfl rfl (by simpa [hlen6] using hth) (by simpa using hi6) (all_oneCell_toArray hone6) ?_)
  clear hth
  generalize (u2_0.alloc (.cells #[.int .u8 0, .int .u8 0, .int .u8 0, .int .u8 0, .int .u8 0, .int .u8 0, .int .u8 0, .int .u8 0, .int .u8 0, .int .u8 0, .int .u8 0, .int .u8 0, .int .u8 0, .int .u8 0, .int .u8 0, .int .u8 0, .int .u8 0, .int .u8 0, .int .u8 0, .int .u8 0, .int .u8 0, .int .u8 0, .int .u8 0, .int .u8 0, .int .u8 0, .int .u8 0, .int .u8 0, .int .u8 0, .int .u8 0, .int .u8 0, .int .u8 0, .int .u8 0] 22)).setCells u2_0.heap.size 0 cs6 = W6 at *
  generalize u2_0.heap.size = b6 at *
  replace V5 : Hid (Var W6 b5 z13) := V5.out.later hX.out
  replace A2 : Hid (Arr W6 (w.heap.size) (List.map (Value.int .u8) a)) := A2.out.later hX.out
  replace HB : Hid (Below w.heap.size w W6) := HB.out.trans (Below.mono hX.out HB.out.size)
  clear hX hc2_1 N6
  have HC := HC6.out
  subst HC
  have A6' : Hid (Arr W6 b6 (List.map (Value.int .u8) (lay 32 z13))) := A6
  clear A6 HC6 hlen6 hone6 hi6
  have A6 := A6'
  clear A6'
  go_wp2_with fail
  refine (prime_any 0 (by decide) _).mono ?_
  rintro e u3_0 ⟨l16, rfl, hl16, Hl16, hb3_0⟩
  have hc3_1 : Hid (Below W6.heap.size W6 u3_0) := hb3_0
  clear hb3_0
  try clear V5c0 V5c1 V5c2 V5c3
  have hby7 := hl16
  generalize hcs : (List.map (Value.int .u8) l16) = cs7 at *
  have HC7 : Hid ((List.map (Value.int .u8) l16) = cs7) := hcs
  clear hcs
  obtain ⟨hlen7, hone7, hi7⟩ := by_cells' hby7 HC7
  have hth := there_new u3_0 32 #[.int .u8 0, .int .u8 0, .int .u8 0, .int .u8 0, .int .u8 0, .int .u8 0, .int .u8 0, .int .u8 0, .int .u8 0, .int .u8 0, .int .u8 0, .int .u8 0, .int .u8 0, .int .u8 0, .int .u8 0, .int .u8 0, .int .u8 0, .int .u8 0, .int .u8 0, .int .u8 0, .int .u8 0, .int .u8 0, .int .u8 0, .int .u8 0, .int .u8 0, .int .u8 0, .int .u8 0, .int .u8 0, .int .u8 0, .int .u8 0, .int .u8 0, .int .u8 0] rfl 22
  have A7 := arr_new u3_0 #[.int .u8 0, .int .u8 0, .int .u8 0, .int .u8 0, .int .u8 0, .int .u8 0, .int .u8 0, .int .u8 0, .int .u8 0, .int .u8 0, .int .u8 0, .int .u8 0, .int .u8 0, .int .u8 0, .int .u8 0, .int .u8 0, .int .u8 0, .int .u8 0, .int .u8 0, .int .u8 0, .int .u8 0, .int .u8 0, .int .u8 0, .int .u8 0, .int .u8 0, .int .u8 0, .int .u8 0, .int .u8 0, .int .u8 0, .int .u8 0, .int .u8 0, .int .u8 0] rfl cs7 hlen7
  have N7 := bel_new u3_0 #[.int .u8 0, .int .u8 0, .int .u8 0, .int .u8 0, .int .u8 0, .int .u8 0, .int .u8 0, .int .u8 0, .int .u8 0, .int .u8 0, .int .u8 0, .int .u8 0, .int .u8 0, .int .u8 0, .int .u8 0, .int .u8 0, .int .u8 0, .int .u8 0, .int .u8 0, .int .u8 0, .int .u8 0, .int .u8 0, .int .u8 0, .int .u8 0, .int .u8 0, .int .u8 0, .int .u8 0, .int .u8 0, .int .u8 0, .int .u8 0, .int .u8 0, .int .u8 0] cs7
  have hX : Hid (Below W6.heap.size W6 ((u3_0.alloc (.cells #[.int .u8 0, .int .u8 0, .int .u8 0, .int .u8 0, .int .u8 0, .int .u8 0, .int .u8 0, .int .u8 0, .int .u8 0, .int .u8 0, .int .u8 0, .int .u8 0, .int .u8 0, .int .u8 0, .int .u8 0, .int .u8 0, .int .u8 0, .int .u8 0, .int .u8 0, .int .u8 0, .int .u8 0, .int .u8 0, .int .u8 0, .int .u8 0, .int .u8 0, .int .u8 0, .int .u8 0, .int .u8 0, .int .u8 0, .int .u8 0, .int .u8 0, .int .u8 0] 22)).setCells u3_0.heap.size 0 cs7)) := hc3_1.out.trans (N7.mono hc3_1.out.size)
  have hge7 : w.heap.size ≤ u3_0.heap.size := Nat.le_trans HB.out.size hc3_1.out.size
  have lt7_V5 : b5 < u3_0.heap.size := (V5.out.later hc3_1.out).lt
  have lt7_A2 : (w.heap.size) < u3_0.heap.size := (A2.out.later hc3_1.out).lt
  have lt7_A6 : b6 < u3_0.heap.size := (A6.out.later hc3_1.out).lt
  go_upto_region 4 with (refine wpList_store_mid rfl 22 (.tmp 7) (.tmp 16) rfl (u3_0.heap.size) 0 cs7.toArray rfl rfl (by simpa [hlen7] using hth) (by simpa using hi7) (all_oneCell_toArray hone7) ?_)
  clear hth
  generalize (u3_0.alloc (.cells #[.int .u8 0, .int .u8 0, .int .u8 0, .int .u8 0, .int .u8 0, .int .u8 0, .int .u8 0, .int .u8 0, .int .u8 0, .int .u8 0, .int .u8 0, .int .u8 0, .int .u8 0, .int .u8 0, .int .u8 0, .int .u8 0, .int .u8 0, .int .u8 0, .int .u8 0, .int .u8 0, .int .u8 0, .int .u8 0, .int .u8 0, .int .u8 0, .int .u8 0, .int .u8 0, .int .u8 0, .int .u8 0, .int .u8 0, .int .u8 0, .int .u8 0, .int .u8 0] 22)).setCells u3_0.heap.size 0 cs7 = W7 at *
  generalize u3_0.heap.size = b7 at *
  replace V5 : Hid (Var W7 b5 z13) := V5.out.later hX.out
  replace A2 : Hid (Arr W7 (w.heap.size) (List.map (Value.int .u8) a)) := A2.out.later hX.out
  replace A6 : Hid (Arr W7 b6 (List.map (Value.int .u8) (lay 32 z13))) := A6.out.later hX.out
  replace HB : Hid (Below w.heap.size w W7) := HB.out.trans (Below.mono hX.out HB.out.size)
  clear hX hc3_1 N7
  have HC := HC7.out
  subst HC
  have A7' : Hid (Arr W7 b7 (List.map (Value.int .u8) l16)) := A7
  clear A7 HC7 hlen7 hone7 hi7
  have A7 := A7'
  clear A7'
  have HP : Hid (l16 = pl 237) := by unfold Hid; rw [Hl16.out]; rfl
  go_wp2
  go_loopw [8, 9] (fun l i wl => ∃ j : Int, -1 ≤ j ∧ j ≤ 31 ∧ i = .int .i64 j ∧ l = .bool false ∧ Hid (∀ k : Nat, j < k → k < 32 → (lay 32 z13)[k]? = l16[k]?) ∧ Hid (Arr wl b6 (List.map (Value.int .u8) (lay 32 z13))) ∧ Hid (Arr wl b7 (List.map (Value.int .u8) l16)) ∧ Hid (Var wl b5 z13) ∧ Hid (Arr wl (w.heap.size) (List.map (Value.int .u8) a)) ∧ Hid (Below w.heap.size w wl)) (fun _ i _ => (intOf i + 1).toNat)
  case atStart => exact ⟨31, by decide, by decide, rfl, rfl, fun k h1 h2 => by omega, A6, A7, V5, A2, HB⟩
  case round =>
    clear A6 A7 V5 A2 HB
    obtain ⟨j, j0, j1, rfl, rfl, HJ, A6, A7, V5, A2, HB⟩ := hrel
    by_cases hj : 0 ≤ j
    · obtain ⟨t, rfl⟩ := Int.eq_ofNat_of_zero_le hj
      have ht : t < 32 := by omega
      have hlb : t < (lay 32 z13).length := by rw [lay_length]; exact ht
      have hlp : t < l16.length := by rw [hl16.len]; exact ht
      have c6 := A6.out.rng t (.int .u8 ((lay 32 z13)[t])) (by rw [List.getElem?_map, List.getElem?_eq_getElem hlb]; rfl)
      have c7 := A7.out.rng t (.int .u8 (l16[t])) (by rw [List.getElem?_map, List.getElem?_eq_getElem hlp]; rfl)
      rw [Nat.zero_add] at c6 c7
      have g1 : (t : Int) < 32 := by omega
      have g0 : (0 : Int) ≤ t := by omega
      by_cases he : (lay 32 z13)[t] = l16[t]
      · have HE : Hid ((lay 32 z13)[t]? = l16[t]?) := by unfold Hid; rw [List.getElem?_eq_getElem hlb, List.getElem?_eq_getElem hlp, he]
        generalize (lay 32 z13)[t] = p at *
        generalize l16[t] = q at *
        subst he
        go_wp2
        go_region
        all_goals
          go_wp2
          go_roundw
          case rel => exact ⟨(t : Int) - 1, by omega, by omega, rfl, rfl, fun k h1 h2 => by
            by_cases hk : k = t
            · rw [hk]; exact HE.out
            · exact HJ.out k (by omega) h2, arr_drew A6.out, arr_drew A7.out, var_drew V5.out, arr_drew A2.out, HB.out.drew⟩
          case measure => simp [intOf]
      · have hltv : (lay 32 z13)[t] < l16[t] := by
          have hx : leN (lay 32 z13) < leN l16 := by
            rw [leN_lay, HP.out, leN_pl]
            have h1 := hz13.h0
            have h2 := hz13.h1
            have e : z13 % 256 ^ 32 = z13 := Int.emod_eq_of_lt h1 (Int.lt_trans h2 (by decide))
            rw [e]
            omega
          exact top_lt (lay 32 z13) l16 t hlb hlp (by rw [lay_length, hl16.len]) (lay_byt _ _) hl16.byt (fun k h1 h2 => HJ.out k (by omega) (by rw [lay_length] at h2; omega)) hx he
        generalize (lay 32 z13)[t] = p at *
        generalize l16[t] = q at *
        have hd1 : (p == q) = false := by simpa using he
        have hd2 : decide (p < q) = true := by simpa using hltv
        go_wp2
        go_region
        all_goals
          go_wp2
          go_region
          go_upto_region 10 with fail
          have A6' := arr_drew (arr_drew A6.out)
          have A7' := arr_drew (arr_drew A7.out)
          have V5' := var_drew (var_drew V5.out)
          have HB' := HB.out.drew.drew
          clear A6 A7 V5 A2 HB c6 c7
          generalize wr.drew.drew = Y at *
          have A6 : Hid (Arr Y b6 (List.map (Value.int .u8) (lay 32 z13))) := A6'
          have A7 : Hid (Arr Y b7 (List.map (Value.int .u8) l16)) := A7'
          have V5 : Hid (Var Y b5 z13) := V5'
          have HB : Hid (Below w.heap.size w Y) := HB'
          clear A6' A7' V5' HB'
          obtain ⟨V5c0, V5c1, V5c2, V5c3⟩ := V5.out
          have V5u0 : ∀ u, Ext Y u → u.cell? ⟨b5, 0, none⟩ = some (.int .u64 (e0 z13)) := fun u hu => hu.cell V5c0
          have V5u1 : ∀ u, Ext Y u → u.cell? ⟨b5, 1, none⟩ = some (.int .u64 (e1 z13)) := fun u hu => hu.cell V5c1
          have V5u2 : ∀ u, Ext Y u → u.cell? ⟨b5, 2, none⟩ = some (.int .u64 (e2 z13)) := fun u hu => hu.cell V5c2
          have V5u3 : ∀ u, Ext Y u → u.cell? ⟨b5, 3, none⟩ = some (.int .u64 (e3 z13)) := fun u hu => hu.cell V5c3
          clear V5c0 V5c1 V5c2 V5c3
          refine wp_region_noPanic ?_
          refine wp_region_held_drew (S := Ext Y) (by kernel_rfl) (Ext.refl _).drew (fun hH => ?_)
          change wpAnyH _ _ _ _ _ _ #[false, false, false, false, false, false, false, false, false, false, false, false, false, false, false, false, false, false] _ _
          refine wpAnyH_ready (rs := [0]) (by kernel_rfl) (by simp) ?_
          refine AllReadyH.cons (o := ?o0r10) ?h0r10 (fun K hK => ?_) AllReadyH.nil
          case h0r10 => simp only [List.getElem?_toArray]; rfl
          go_simp
          refine (known_any _).mono ?_
          rintro e c10_0 ⟨rfl, hb10_0⟩
          refine hK.out _ _ (hH.trans hb10_0) (fun hH' => ?_)
          clear hK K hH
          have hH := hH'
          clear hH'
          try simp only [List.setIfInBounds_toArray, List.set]
          clear hb10_0
          refine wpAnyH_take (i := 1) (oi := ?o1r10) (v := ?v1r10) ?h1r10 (by kernel_rfl) ?f1r10 ?r1r10 (fun _ _ _ h => h) (Or.inl ⟨?w1r10, ?y1r10⟩) (by assumption) ?t1r10
          case h1r10 => simp only [List.getElem?_toArray]; rfl
          case f1r10 => kernel_rfl
          case r1r10 => kernel_rfl
          case w1r10 => rfl
          case y1r10 => (intro u hu; (go_simp) <;> with_reducible rfl)
          try simp only [Act.put, List.setIfInBounds_toArray, List.set_cons_zero, List.set_cons_succ]
          refine wpAnyH_take (i := 2) (oi := ?o2r10) (v := ?v2r10) ?h2r10 (by kernel_rfl) ?f2r10 ?r2r10 (fun _ _ _ h => h) (Or.inl ⟨?w2r10, ?y2r10⟩) (by assumption) ?t2r10
          case h2r10 => simp only [List.getElem?_toArray]; rfl
          case f2r10 => kernel_rfl
          case r2r10 => kernel_rfl
          case w2r10 => rfl
          case y2r10 => (intro u hu; (go_simp) <;> with_reducible rfl)
          try simp only [Act.put, List.setIfInBounds_toArray, List.set_cons_zero, List.set_cons_succ]
          refine wpAnyH_take (i := 3) (oi := ?o3r10) (v := ?v3r10) ?h3r10 (by kernel_rfl) ?f3r10 ?r3r10 (fun _ _ _ h => h) (Or.inl ⟨?w3r10, ?y3r10⟩) (by assumption) ?t3r10
          case h3r10 => simp only [List.getElem?_toArray]; rfl
          case f3r10 => kernel_rfl
          case r3r10 => kernel_rfl
          case w3r10 => rfl
          case y3r10 => (intro u hu; (go_simp) <;> with_reducible rfl)
          try simp only [Act.put, List.setIfInBounds_toArray, List.set_cons_zero, List.set_cons_succ]
          refine wpAnyH_take (i := 4) (oi := ?o4r10) (v := ?v4r10) ?h4r10 (by kernel_rfl) ?f4r10 ?r4r10 (fun _ _ _ h => h) (Or.inl ⟨?w4r10, ?y4r10⟩) (by assumption) ?t4r10
          case h4r10 => simp only [List.getElem?_toArray]; rfl
          case f4r10 => kernel_rfl
          case r4r10 => kernel_rfl
          case w4r10 => rfl
          case y4r10 => (intro u hu; (go_simp) <;> with_reducible rfl)
          try simp only [Act.put, List.setIfInBounds_toArray, List.set_cons_zero, List.set_cons_succ]
          refine wpAnyH_take (i := 5) (oi := ?o5r10) (v := .agg (List.map (Value.int .u8) (lay 32 z13)).toArray) ?h5r10 (by kernel_rfl) ?f5r10 ?r5r10 (fun _ _ _ h => h) ?y5r10 (by assumption) ?t5r10
          case h5r10 => simp only [List.getElem?_toArray]; rfl
          case f5r10 => kernel_rfl
          case r5r10 => kernel_rfl
          case y5r10 => exact yieldsIf_load_mid (by rfl) 22 (.tmp 6) rfl b6 0 rfl (List.map (Value.int .u8) (lay 32 z13)) _ (fun u hu => range_later hu A6.out.rng) Try.underlying22 rfl (by_cells hby6).2.2
          try simp only [Act.put, List.setIfInBounds_toArray, List.set_cons_zero, List.set_cons_succ]
          refine wpAnyH_take (i := 8) (oi := ?o8r10) (v := .agg (List.map (Value.int .u8) (lay 32 z13)).toArray) ?h8r10 (by kernel_rfl) ?f8r10 ?r8r10 (fun _ _ _ h => h) ?y8r10 (by assumption) ?t8r10
          case h8r10 => simp only [List.getElem?_toArray]; rfl
          case f8r10 => kernel_rfl
          case r8r10 => kernel_rfl
          case y8r10 => exact yieldsIf_load_mid (by rfl) 22 (.tmp 6) rfl b6 0 rfl (List.map (Value.int .u8) (lay 32 z13)) _ (fun u hu => range_later hu A6.out.rng) Try.underlying22 rfl (by_cells hby6).2.2
          try simp only [Act.put, List.setIfInBounds_toArray, List.set_cons_zero, List.set_cons_succ]
          refine wpAnyH_ready (rs := [6]) (by kernel_rfl) (by simp) ?_
          refine AllReadyH.cons (o := ?o6r10) ?h6r10 (fun K hK => ?_) AllReadyH.nil
          case h6r10 => simp only [List.getElem?_toArray]; rfl
          go_simp
          refine (from_e (lay 32 z13) hby6 _).mono ?_
          rintro e c10_6 ⟨z41, rfl, hz41, Hz41, hb10_6⟩
          refine hK.out _ _ (hH.trans hb10_6) (fun hH' => ?_)
          clear hK K hH
          have hH := hH'
          clear hH'
          try simp only [List.setIfInBounds_toArray, List.set]
          clear hb10_6
          refine wpAnyH_ready (rs := [7]) (by kernel_rfl) (by simp) ?_
          refine AllReadyH.cons (o := ?o7r10) ?h7r10 (fun K hK => ?_) AllReadyH.nil
          case h7r10 => simp only [List.getElem?_toArray]; rfl
          go_simp
          refine (bytes_e z41 hz41 _).mono ?_
          rintro e c10_7 ⟨rfl, hb10_7⟩
          refine hK.out _ _ (hH.trans hb10_7) (fun hH' => ?_)
          clear hK K hH
          have hH := hH'
          clear hH'
          try simp only [List.setIfInBounds_toArray, List.set]
          clear hb10_7
          have hq44 : ∀ u, Sem.run Try.prog (binOp .eql 22 (.agg (List.map (Value.int .u8) (lay 32 z41)).toArray) (.agg (List.map (Value.int .u8) (lay 32 z13)).toArray)) u = .ok (.bool true) u := fun u => eql_same _ _ (lay_by _) (lay_by _) (by rw [show z41 = z13 from (by rw [Hz41.out, num_lay _ hz13])]) u
          refine wpAnyH_take (i := 9) (oi := ?o9r10) (v := ?v9r10) ?h9r10 (by kernel_rfl) ?f9r10 ?r9r10 (fun _ _ _ h => h) (Or.inl ⟨?w9r10, ?y9r10⟩) (by assumption) ?t9r10
          case h9r10 => simp only [List.getElem?_toArray]; rfl
          case f9r10 => kernel_rfl
          case r9r10 => kernel_rfl
          case w9r10 => rfl
          case y9r10 => (intro u hu; (go_simp) <;> with_reducible rfl)
          try simp only [Act.put, List.setIfInBounds_toArray, List.set_cons_zero, List.set_cons_succ]
          refine wpAnyH_take (i := 10) (oi := ?o10r10) (v := ?v10r10) ?h10r10 (by kernel_rfl) ?f10r10 ?r10r10 (fun _ _ _ h => h) (Or.inl ⟨?w10r10, ?y10r10⟩) (by assumption) ?t10r10
          case h10r10 => simp only [List.getElem?_toArray]; rfl
          case f10r10 => kernel_rfl
          case r10r10 => kernel_rfl
          case w10r10 => rfl
          case y10r10 => (intro u hu; (go_simp) <;> with_reducible rfl)
          try simp only [Act.put, List.setIfInBounds_toArray, List.set_cons_zero, List.set_cons_succ]
          refine wpAnyH_take (i := 11) (oi := ?o11r10) (v := ?v11r10) ?h11r10 (by kernel_rfl) ?f11r10 ?r11r10 (fun _ _ _ h => h) (Or.inl ⟨?w11r10, ?y11r10⟩) (by assumption) ?t11r10
          case h11r10 => simp only [List.getElem?_toArray]; rfl
          case f11r10 => kernel_rfl
          case r11r10 => kernel_rfl
          case w11r10 => rfl
          case y11r10 => (intro u hu; (go_simp) <;> with_reducible rfl)
          try simp only [Act.put, List.setIfInBounds_toArray, List.set_cons_zero, List.set_cons_succ]
          refine wpAnyH_take (i := 12) (oi := ?o12r10) (v := .agg (List.map (Value.int .u8) (lay 32 z13)).toArray) ?h12r10 (by kernel_rfl) ?f12r10 ?r12r10 (fun _ _ _ h => h) ?y12r10 (by assumption) ?t12r10
          case h12r10 => simp only [List.getElem?_toArray]; rfl
          case f12r10 => kernel_rfl
          case r12r10 => kernel_rfl
          case y12r10 => exact yieldsIf_load_mid (by rfl) 22 (.tmp 6) rfl b6 0 rfl (List.map (Value.int .u8) (lay 32 z13)) _ (fun u hu => range_later hu A6.out.rng) Try.underlying22 rfl (by_cells hby6).2.2
          try simp only [Act.put, List.setIfInBounds_toArray, List.set_cons_zero, List.set_cons_succ]
          refine wpAnyH_take (i := 14) (oi := ?o14r10) (v := ?v14r10) ?h14r10 (by kernel_rfl) ?f14r10 ?r14r10 (fun _ _ _ h => h) (Or.inl ⟨?w14r10, ?y14r10⟩) (by assumption) ?t14r10
          case h14r10 => simp only [List.getElem?_toArray]; rfl
          case f14r10 => kernel_rfl
          case r14r10 => kernel_rfl
          case w14r10 => rfl
          case y14r10 => (intro u hu; (go_simp) <;> with_reducible rfl)
          try simp only [Act.put, List.setIfInBounds_toArray, List.set_cons_zero, List.set_cons_succ]
          refine wpAnyH_ready (rs := [13]) (by kernel_rfl) (by simp) ?_
          refine AllReadyH.cons (o := ?o13r10) ?h13r10 (fun K hK => ?_) AllReadyH.nil
          case h13r10 => simp only [List.getElem?_toArray]; rfl
          go_simp
          refine (from_e (lay 32 z13) hby6 _).mono ?_
          rintro e c10_13 ⟨z48, rfl, hz48, Hz48, hb10_13⟩
          refine hK.out _ _ (hH.trans hb10_13) (fun hH' => ?_)
          clear hK K hH
          have hH := hH'
          clear hH'
          try simp only [List.setIfInBounds_toArray, List.set]
          clear hb10_13
          refine wpAnyH_ready (rs := [15]) (by kernel_rfl) (by simp) ?_
          refine AllReadyH.cons (o := ?o15r10) ?h15r10 (fun K hK => ?_) AllReadyH.nil
          case h15r10 => simp only [List.getElem?_toArray]; rfl
          go_simp
          refine (equal_e z48 z13 hz48 hz13 _).mono ?_
          rintro e c10_15 ⟨rfl, hb10_15⟩
          rw [show same z48 z13 = true from same_t (by rw [Hz48.out, num_lay _ hz13])]
          refine hK.out _ _ (hH.trans hb10_15) (fun hH' => ?_)
          clear hK K hH
          have hH := hH'
          clear hH'
          try simp only [List.setIfInBounds_toArray, List.set]
          clear hb10_15
          refine wpAnyH_take (i := 16) (oi := ?o16r10) (v := ?v16r10) ?h16r10 (by kernel_rfl) ?f16r10 ?r16r10 (fun _ _ _ h => h) (Or.inl ⟨?w16r10, ?y16r10⟩) (by assumption) ?t16r10
          case h16r10 => simp only [List.getElem?_toArray]; rfl
          case f16r10 => kernel_rfl
          case r16r10 => kernel_rfl
          case w16r10 => rfl
          case y16r10 => (intro u hu; (go_simp) <;> with_reducible rfl)
          try simp only [Act.put, List.setIfInBounds_toArray, List.set_cons_zero, List.set_cons_succ]
          refine wpAnyH_take (i := 17) (oi := ?o17r10) (v := ?v17r10) ?h17r10 (by kernel_rfl) ?f17r10 ?r17r10 (fun _ _ _ h => h) (Or.inl ⟨?w17r10, ?y17r10⟩) (by assumption) ?t17r10
          case h17r10 => simp only [List.getElem?_toArray]; rfl
          case f17r10 => kernel_rfl
          case r17r10 => kernel_rfl
          case w17r10 => rfl
          case y17r10 => (intro u hu; (go_simp) <;> with_reducible rfl)
          try simp only [Act.put, List.setIfInBounds_toArray, List.set_cons_zero, List.set_cons_succ]
          refine wpAnyH_done (by kernel_rfl) ?_ _
          refine NoPanic.normal ?_
          go_wp2
          go_ret
          exact ⟨rfl, HB.out.trans (Below.mono hH HB.out.size)⟩
    · exfalso
      have e : (lay 32 z13) = l16 := List.ext_getElem? fun k => by
        by_cases hk : k < 32
        · exact HJ.out k (by omega) hk
        · rw [List.getElem?_eq_none (by rw [lay_length]; omega), List.getElem?_eq_none (by rw [hl16.len]; omega)]
      have hx : leN (lay 32 z13) = leN l16 := by rw [e]
      rw [leN_lay, HP.out, leN_pl] at hx
      have h1 := hz13.h0
      have h2 := hz13.h1
      have e2 : z13 % 256 ^ 32 = z13 := Int.emod_eq_of_lt h1 (Int.lt_trans h2 (by decide))
      rw [e2] at hx
      omega
end Go.Proofs.Ytgnfbnjhmiggbaa
