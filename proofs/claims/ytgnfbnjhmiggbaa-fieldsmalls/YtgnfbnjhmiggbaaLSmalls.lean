/-
  The walk of FieldSmalls: true for whatever bytes and numbers. No statement of the seat is proved here.
-/
import Derived.Test.YtgnfbnjhmiggbaaFLawM
namespace Go.Proofs.Ytgnfbnjhmiggbaa
open Go.RowKit

theorem own_set {u : World} {b : Nat} (h : Own u b) (v0 v1 v2 v3 : Value) : Own ((((u.setCell ⟨b, 0, none⟩ v0).setCell ⟨b, 1, none⟩ v1).setCell ⟨b, 2, none⟩ v2).setCell ⟨b, 3, none⟩ v3) b := by
  obtain ⟨⟨x0, h0⟩, ⟨x1, h1⟩, ⟨x2, h2⟩, ⟨x3, h3⟩, f0, f1, f2, f3⟩ := h
  refine ⟨⟨v0, ?_⟩, ⟨v1, ?_⟩, ⟨v2, ?_⟩, ⟨v3, ?_⟩, ?_, ?_, ?_, ?_⟩
  · simp [go_sem, h0]
  · simp [go_sem, h1]
  · simp [go_sem, h2]
  · simp [go_sem, h3]
  · simp [go_sem, f0]
  · simp [go_sem, f1]
  · simp [go_sem, f2]
  · simp [go_sem, f3]
theorem arr_other {u : World} {b c : Nat} {cs : List Value} (h : Arr u b cs) (hne : b ≠ c) (v0 v1 v2 v3 : Value) : Arr ((((u.setCell ⟨c, 0, none⟩ v0).setCell ⟨c, 1, none⟩ v1).setCell ⟨c, 2, none⟩ v2).setCell ⟨c, 3, none⟩ v3) b cs :=
  ⟨range_else (range_else (range_else (range_else h.rng hne _) hne _) hne _) hne _, there_set (there_set (there_set (there_set h.all _ _ _) _ _ _) _ _ _) _ _ _⟩

set_option maxHeartbeats 8000000 in
theorem fieldSmalls_walk (a : List Int) (h n m : Int) (ha : By a) (hh : -9223372036854775808 ≤ h ∧ h ≤ 9223372036854775807) (hn : 0 ≤ n ∧ n ≤ 4294967295) (hm : 0 ≤ m ∧ m ≤ 4294967295) (w : World) :
    Calls Try.prog 8 #[(.agg (List.map (Value.int .u8) a).toArray), .int .i64 h, .int .u32 n, .int .u32 m] w fun e w' => e = .returned (.bool true) ∧ Below w.heap.size w w' := by
  obtain ⟨n0, n1⟩ := hn
  obtain ⟨m0, m1⟩ := hm
  go_enter Try.func8, Try.ntmps8
  go_upto_region 1 with fail
  have HB : Hid (Below w.heap.size w (w.alloc (.cells (List.map (Value.int .u8) a).toArray 22))) := bel1 _ _
  have A4 : Hid (Arr (w.alloc (.cells (List.map (Value.int .u8) a).toArray 22)) (w.heap.size) (List.map (Value.int .u8) a)) := by
    have := arr_box w a ha
    simpa [Hid] using this
  generalize w.alloc (.cells (List.map (Value.int .u8) a).toArray 22) = W0 at *
  go_wp2_with (first | (refine wpList_load_mid rfl 22 (.tmp 4) rfl (w.heap.size) 0 rfl (List.map (Value.int .u8) a) _ A4.out.rng Try.underlying22 rfl (by_cells ha).2.2 ?_))
  refine (edge_any a ha h hh _).mono ?_
  rintro e u1_0 ⟨l15, rfl, hl15, hb1_0⟩
  have hc1_1 : Hid (Below W0.heap.size W0 u1_0) := hb1_0
  clear hb1_0
  go_wp2_with fail
  refine (from_e l15 hl15 _).mono ?_
  rintro e u1_1 ⟨z16, rfl, hz16, Hz16, hb1_1⟩
  have hc1_2 : Hid (Below W0.heap.size W0 u1_1) := hc1_1.out.trans ((hb1_1).mono hc1_1.out.size)
  clear hb1_1 hc1_1
  go_upto_region 2 with fail
  have hX : Hid (Below W0.heap.size W0 (u1_1.alloc (.cells #[.int .u64 (e0 z16), .int .u64 (e1 z16), .int .u64 (e2 z16), .int .u64 (e3 z16)] 28))) := hc1_2.out.trans ((bel1 u1_1 _).mono hc1_2.out.size)
  have V9 : Hid (Var (u1_1.alloc (.cells #[.int .u64 (e0 z16), .int .u64 (e1 z16), .int .u64 (e2 z16), .int .u64 (e3 z16)] 28)) (u1_1.heap.size) z16) := var_new u1_1 z16 _
  have hge9 : w.heap.size ≤ u1_1.heap.size := Nat.le_trans HB.out.size hc1_2.out.size
  generalize u1_1.alloc (.cells #[.int .u64 (e0 z16), .int .u64 (e1 z16), .int .u64 (e2 z16), .int .u64 (e3 z16)] 28) = W9 at *
  generalize u1_1.heap.size = b9 at *
  replace A4 : Hid (Arr W9 (w.heap.size) (List.map (Value.int .u8) a)) := A4.out.later hX.out
  replace HB : Hid (Below w.heap.size w W9) := HB.out.trans (Below.mono hX.out HB.out.size)
  clear hX hc1_2
  have n2 : 0 ≤ n % 2147483648 ∧ n % 2147483648 < 2147483648 := by omega
  have m2 : 0 ≤ m % 2147483648 ∧ m % 2147483648 < 2147483648 := by omega
  go_wp2_with fail
  generalize n % 2147483648 = n' at *
  generalize m % 2147483648 = m' at *
  obtain ⟨n20, n21⟩ := n2
  obtain ⟨m20, m21⟩ := m2
  refine (pick_any n' 12 (by omega) (by decide) _).mono ?_
  rintro e w' ⟨k, rfl, k0, k1, hw⟩
  rw [hw]; clear hw w'
  go_wp2_with fail
  refine (zero_e _).mono ?_
  rintro e u5 ⟨rfl, hb5⟩
  go_upto_region 6 with fail
  have hc : Hid (Below W9.heap.size W9 u5) := hb5
  clear hb5
  have hX : Hid (Below W9.heap.size W9 (u5.alloc (.cells #[.int .u64 (e0 0), .int .u64 (e1 0), .int .u64 (e2 0), .int .u64 (e3 0)] 28))) := hc.out.trans ((bel1 u5 _).mono hc.out.size)
  have V11 : Hid (Var (u5.alloc (.cells #[.int .u64 (e0 0), .int .u64 (e1 0), .int .u64 (e2 0), .int .u64 (e3 0)] 28)) (u5.heap.size) 0) := var_new u5 0 _
  have O11 : Hid (Own (u5.alloc (.cells #[.int .u64 (e0 0), .int .u64 (e1 0), .int .u64 (e2 0), .int .u64 (e3 0)] 28)) (u5.heap.size)) := own_new u5 _ _ _ _ _
  have lt11 : b9 < u5.heap.size := (V9.out.later hc.out).lt
  have hge11 : w.heap.size ≤ u5.heap.size := Nat.le_trans HB.out.size hc.out.size
  generalize u5.alloc (.cells #[.int .u64 (e0 0), .int .u64 (e1 0), .int .u64 (e2 0), .int .u64 (e3 0)] 28) = W11 at *
  generalize u5.heap.size = b11 at *
  replace V9 : Hid (Var W11 b9 z16) := V9.out.later hX.out
  replace A4 : Hid (Arr W11 (w.heap.size) (List.map (Value.int .u8) a)) := A4.out.later hX.out
  replace HB : Hid (Below w.heap.size w W11) := HB.out.trans (Below.mono hX.out HB.out.size)
  clear hX hc
  go_wp2
  obtain ⟨kn, hkn⟩ := Int.eq_ofNat_of_zero_le k0
  subst hkn
  go_loopw [12] (fun i wl => ∃ (j : Nat) (z : Int), j ≤ kn ∧ i = .int .u32 j ∧ El z ∧ Hid (z = z16 * j % 57896044618658097711785492504343953926634992332820282019728792003956564819949) ∧ Hid (Var wl b11 z) ∧ Hid (Own wl b11) ∧ Hid (Var wl b9 z16) ∧ Hid (Arr wl (w.heap.size) (List.map (Value.int .u8) a)) ∧ Hid (Below w.heap.size w wl)) (fun i _ => kn - (intOf i).toNat)
  case atStart => exact ⟨0, 0, Nat.zero_le _, rfl, El.zero, by unfold Hid; rw [show ((0 : Nat) : Int) = 0 from rfl, Int.mul_zero]; rfl, V11, O11, V9, A4, HB⟩
  case round =>
    clear V11 O11 V9 A4 HB
    obtain ⟨j, z, hj, rfl, hz, HZ, V11, O11, V9, A4, HB⟩ := hrel
    have hjk : (kn : Int) < 12 := k1
    by_cases hlt : j < kn
    · have g1 : (j : Int) < kn := by omega
      obtain ⟨c0, c1, c2, c3⟩ := V11.out
      obtain ⟨d0, d1, d2, d3⟩ := V9.out
      go_wp2_with fail
      refine (add_e z z16 hz hz16 _).mono ?_
      rintro e w1 ⟨v, rfl, hv, HV, hb⟩
      clear c0 c1 c2 c3 d0 d1 d2 d3
      have HV' : Hid (v = z16 * ((j + 1 : Nat) : Int) % 57896044618658097711785492504343953926634992332820282019728792003956564819949) := by
        unfold Hid
        rw [HV.out, HZ.out, em_add_l, Int.natCast_add, Int.mul_add]
        congr 1
        omega
      replace O11 : Hid (Own w1 b11) := O11.out.later hb
      replace V9 : Hid (Var w1 b9 z16) := V9.out.later hb
      replace A4 : Hid (Arr w1 (w.heap.size) (List.map (Value.int .u8) a)) := A4.out.later hb
      replace HB : Hid (Below w.heap.size w w1) := HB.out.trans (hb.mono HB.out.size)
      clear hb V11
      obtain ⟨⟨_, c0⟩, ⟨_, c1⟩, ⟨_, c2⟩, ⟨_, c3⟩, f0, f1, f2, f3⟩ := O11.out
      go_wp2
      go_roundw
      case rel => exact ⟨j + 1, v, by omega, by go_num, hv, HV', var_set w1 b11 v O11.out, own_set O11.out _ _ _ _, var_other V9.out (by omega) _ _ _ _, arr_other A4.out (by omega) _ _ _ _, below_set4 HB.out b11 hge11 _ _ _ _⟩
      case measure => simp [intOf]; omega
    · have e : j = kn := by omega
      subst e
      go_upto_region 10 with fail
      clear O11
      obtain ⟨V9c0, V9c1, V9c2, V9c3⟩ := V9.out
      have V9u0 : ∀ u, Ext wr u → u.cell? ⟨b9, 0, none⟩ = some (.int .u64 (e0 z16)) := fun u hu => hu.cell V9c0
      have V9u1 : ∀ u, Ext wr u → u.cell? ⟨b9, 1, none⟩ = some (.int .u64 (e1 z16)) := fun u hu => hu.cell V9c1
      have V9u2 : ∀ u, Ext wr u → u.cell? ⟨b9, 2, none⟩ = some (.int .u64 (e2 z16)) := fun u hu => hu.cell V9c2
      have V9u3 : ∀ u, Ext wr u → u.cell? ⟨b9, 3, none⟩ = some (.int .u64 (e3 z16)) := fun u hu => hu.cell V9c3
      clear V9c0 V9c1 V9c2 V9c3
      obtain ⟨V11c0, V11c1, V11c2, V11c3⟩ := V11.out
      have V11u0 : ∀ u, Ext wr u → u.cell? ⟨b11, 0, none⟩ = some (.int .u64 (e0 z)) := fun u hu => hu.cell V11c0
      have V11u1 : ∀ u, Ext wr u → u.cell? ⟨b11, 1, none⟩ = some (.int .u64 (e1 z)) := fun u hu => hu.cell V11c1
      have V11u2 : ∀ u, Ext wr u → u.cell? ⟨b11, 2, none⟩ = some (.int .u64 (e2 z)) := fun u hu => hu.cell V11c2
      have V11u3 : ∀ u, Ext wr u → u.cell? ⟨b11, 3, none⟩ = some (.int .u64 (e3 z)) := fun u hu => hu.cell V11c3
      clear V11c0 V11c1 V11c2 V11c3
      refine wp_region_noPanic ?_
      refine wp_region_held_drew (S := Ext wr) (by kernel_rfl) (Ext.refl _).drew (fun hH => ?_)
      change wpAnyH _ _ _ _ _ _ #[false, false, false, false, false, false, false, false, false, false, false, false, false, false, false, false, false, false, false, false, false, false, false, false] _ _
      refine wpAnyH_ready (rs := [0]) (by kernel_rfl) (by simp) ?_
      refine AllReadyH.cons (o := ?o0r10) ?h0r10 (fun K hK => ?_) AllReadyH.nil
      case h0r10 => simp only [List.getElem?_toArray]; rfl
      go_simp
      refine (known_any _).mono ?_
      rintro e c10_0 ⟨rfl, hb10_0⟩
      refine hK.out _ _ (hH.trans hb10_0) (fun hH' => ?_)
      clear hK K hH
      have hH := hH'
      clear hH'
      try simp only [List.setIfInBounds_toArray, List.set]
      clear hb10_0
      refine wpAnyH_take (i := 1) (oi := ?o1r10) (v := ?v1r10) ?h1r10 (by kernel_rfl) ?f1r10 ?r1r10 (fun _ _ _ h => h) (Or.inl ⟨?w1r10, ?y1r10⟩) (by assumption) ?t1r10
      case h1r10 => simp only [List.getElem?_toArray]; rfl
      case f1r10 => kernel_rfl
      case r1r10 => kernel_rfl
      case w1r10 => rfl
      case y1r10 => (intro u hu; (go_simp) <;> with_reducible rfl)
      try simp only [Act.put, List.setIfInBounds_toArray, List.set_cons_zero, List.set_cons_succ]
      refine wpAnyH_take (i := 2) (oi := ?o2r10) (v := ?v2r10) ?h2r10 (by kernel_rfl) ?f2r10 ?r2r10 (fun _ _ _ h => h) (Or.inl ⟨?w2r10, ?y2r10⟩) (by assumption) ?t2r10
      case h2r10 => simp only [List.getElem?_toArray]; rfl
      case f2r10 => kernel_rfl
      case r2r10 => kernel_rfl
      case w2r10 => rfl
      case y2r10 => (intro u hu; (go_simp) <;> with_reducible rfl)
      try simp only [Act.put, List.setIfInBounds_toArray, List.set_cons_zero, List.set_cons_succ]
      refine wpAnyH_take (i := 3) (oi := ?o3r10) (v := ?v3r10) ?h3r10 (by kernel_rfl) ?f3r10 ?r3r10 (fun _ _ _ h => h) (Or.inl ⟨?w3r10, ?y3r10⟩) (by assumption) ?t3r10
      case h3r10 => simp only [List.getElem?_toArray]; rfl
      case f3r10 => kernel_rfl
      case r3r10 => kernel_rfl
      case w3r10 => rfl
      case y3r10 => (intro u hu; (go_simp) <;> with_reducible rfl)
      try simp only [Act.put, List.setIfInBounds_toArray, List.set_cons_zero, List.set_cons_succ]
      refine wpAnyH_take (i := 5) (oi := ?o5r10) (v := ?v5r10) ?h5r10 (by kernel_rfl) ?f5r10 ?r5r10 (fun _ _ _ h => h) (Or.inl ⟨?w5r10, ?y5r10⟩) (by assumption) ?t5r10
      case h5r10 => simp only [List.getElem?_toArray]; rfl
      case f5r10 => kernel_rfl
      case r5r10 => kernel_rfl
      case w5r10 => rfl
      case y5r10 => (intro u hu; (go_simp) <;> with_reducible rfl)
      try simp only [Act.put, List.setIfInBounds_toArray, List.set_cons_zero, List.set_cons_succ]
      refine wpAnyH_take (i := 6) (oi := ?o6r10) (v := ?v6r10) ?h6r10 (by kernel_rfl) ?f6r10 ?r6r10 (fun _ _ _ h => h) (Or.inl ⟨?w6r10, ?y6r10⟩) (by assumption) ?t6r10
      case h6r10 => simp only [List.getElem?_toArray]; rfl
      case f6r10 => kernel_rfl
      case r6r10 => kernel_rfl
      case w6r10 => rfl
      case y6r10 => (intro u hu; (go_simp) <;> with_reducible rfl)
      try simp only [Act.put, List.setIfInBounds_toArray, List.set_cons_zero, List.set_cons_succ]
      refine wpAnyH_take (i := 9) (oi := ?o9r10) (v := ?v9r10) ?h9r10 (by kernel_rfl) ?f9r10 ?r9r10 (fun _ _ _ h => h) (Or.inl ⟨?w9r10, ?y9r10⟩) (by assumption) ?t9r10
      case h9r10 => simp only [List.getElem?_toArray]; rfl
      case f9r10 => kernel_rfl
      case r9r10 => kernel_rfl
      case w9r10 => rfl
      case y9r10 => (intro u hu; (go_simp) <;> with_reducible rfl)
      try simp only [Act.put, List.setIfInBounds_toArray, List.set_cons_zero, List.set_cons_succ]
      refine wpAnyH_take (i := 10) (oi := ?o10r10) (v := ?v10r10) ?h10r10 (by kernel_rfl) ?f10r10 ?r10r10 (fun _ _ _ h => h) (Or.inl ⟨?w10r10, ?y10r10⟩) (by assumption) ?t10r10
      case h10r10 => simp only [List.getElem?_toArray]; rfl
      case f10r10 => kernel_rfl
      case r10r10 => kernel_rfl
      case w10r10 => rfl
      case y10r10 => (intro u hu; (go_simp) <;> with_reducible rfl)
      try simp only [Act.put, List.setIfInBounds_toArray, List.set_cons_zero, List.set_cons_succ]
      refine wpAnyH_take (i := 11) (oi := ?o11r10) (v := ?v11r10) ?h11r10 (by kernel_rfl) ?f11r10 ?r11r10 (fun _ _ _ h => h) (Or.inl ⟨?w11r10, ?y11r10⟩) (by assumption) ?t11r10
      case h11r10 => simp only [List.getElem?_toArray]; rfl
      case f11r10 => kernel_rfl
      case r11r10 => kernel_rfl
      case w11r10 => rfl
      case y11r10 => (intro u hu; (go_simp) <;> with_reducible rfl)
      try simp only [Act.put, List.setIfInBounds_toArray, List.set_cons_zero, List.set_cons_succ]
      have hnm : n' + m' < 4294967296 := by omega
      have hwn : IntKind.u32.wrap (n' + m') = n' + m' := by rw [IntKind.wrap_u32']; omega
      refine wpAnyH_take (i := 12) (oi := ?o12r10) (v := ?v12r10) ?h12r10 (by kernel_rfl) ?f12r10 ?r12r10 (fun _ _ _ h => h) (Or.inl ⟨?w12r10, ?y12r10⟩) (by assumption) ?t12r10
      case h12r10 => simp only [List.getElem?_toArray]; rfl
      case f12r10 => kernel_rfl
      case r12r10 => kernel_rfl
      case w12r10 => rfl
      case y12r10 => (intro u hu; (go_simp) <;> with_reducible rfl)
      try simp only [Act.put, List.setIfInBounds_toArray, List.set_cons_zero, List.set_cons_succ]
      refine wpAnyH_ready (rs := [4]) (by kernel_rfl) (by simp) ?_
      refine AllReadyH.cons (o := ?o4r10) ?h4r10 (fun K hK => ?_) AllReadyH.nil
      case h4r10 => simp only [List.getElem?_toArray]; rfl
      go_simp
      refine (small_e z16 n' hz16 (by omega) _).mono ?_
      rintro e c10_4 ⟨z38, rfl, hz38, Hz38, hb10_4⟩
      refine hK.out _ _ (hH.trans hb10_4) (fun hH' => ?_)
      clear hK K hH
      have hH := hH'
      clear hH'
      try simp only [List.setIfInBounds_toArray, List.set]
      clear hb10_4
      refine wpAnyH_ready (rs := [7]) (by kernel_rfl) (by simp) ?_
      refine AllReadyH.cons (o := ?o7r10) ?h7r10 (fun K hK => ?_) AllReadyH.nil
      case h7r10 => simp only [List.getElem?_toArray]; rfl
      go_simp
      refine (small_e z16 m' hz16 (by omega) _).mono ?_
      rintro e c10_7 ⟨z41, rfl, hz41, Hz41, hb10_7⟩
      refine hK.out _ _ (hH.trans hb10_7) (fun hH' => ?_)
      clear hK K hH
      have hH := hH'
      clear hH'
      try simp only [List.setIfInBounds_toArray, List.set]
      clear hb10_7
      refine wpAnyH_ready (rs := [8]) (by kernel_rfl) (by simp) ?_
      refine AllReadyH.cons (o := ?o8r10) ?h8r10 (fun K hK => ?_) AllReadyH.nil
      case h8r10 => simp only [List.getElem?_toArray]; rfl
      go_simp
      refine (add_e z38 z41 hz38 hz41 _).mono ?_
      rintro e c10_8 ⟨z42, rfl, hz42, Hz42, hb10_8⟩
      refine hK.out _ _ (hH.trans hb10_8) (fun hH' => ?_)
      clear hK K hH
      have hH := hH'
      clear hH'
      try simp only [List.setIfInBounds_toArray, List.set]
      clear hb10_8
      refine wpAnyH_ready (rs := [13]) (by kernel_rfl) (by simp) ?_
      refine AllReadyH.cons (o := ?o13r10) ?h13r10 (fun K hK => ?_) AllReadyH.nil
      case h13r10 => simp only [List.getElem?_toArray]; rfl
      go_simp
      refine (small_e z16 (n' + m') hz16 (by omega) _).mono ?_
      rintro e c10_13 ⟨z47, rfl, hz47, Hz47, hb10_13⟩
      refine hK.out _ _ (hH.trans hb10_13) (fun hH' => ?_)
      clear hK K hH
      have hH := hH'
      clear hH'
      try simp only [List.setIfInBounds_toArray, List.set]
      clear hb10_13
      refine wpAnyH_ready (rs := [14]) (by kernel_rfl) (by simp) ?_
      refine AllReadyH.cons (o := ?o14r10) ?h14r10 (fun K hK => ?_) AllReadyH.nil
      case h14r10 => simp only [List.getElem?_toArray]; rfl
      go_simp
      refine (equal_e z42 z47 hz42 hz47 _).mono ?_
      rintro e c10_14 ⟨rfl, hb10_14⟩
      rw [show same z42 z47 = true from same_t (by rw [Hz42.out, Hz38.out, Hz41.out, Hz47.out, em_add_l, em_add_r, Int.mul_add])]
      refine hK.out _ _ (hH.trans hb10_14) (fun hH' => ?_)
      clear hK K hH
      have hH := hH'
      clear hH'
      try simp only [List.setIfInBounds_toArray, List.set]
      clear hb10_14
      refine wpAnyH_take (i := 15) (oi := ?o15r10) (v := ?v15r10) ?h15r10 (by kernel_rfl) ?f15r10 ?r15r10 (fun _ _ _ h => h) (Or.inl ⟨?w15r10, ?y15r10⟩) (by assumption) ?t15r10
      case h15r10 => simp only [List.getElem?_toArray]; rfl
      case f15r10 => kernel_rfl
      case r15r10 => kernel_rfl
      case w15r10 => rfl
      case y15r10 => (intro u hu; (go_simp) <;> with_reducible rfl)
      try simp only [Act.put, List.setIfInBounds_toArray, List.set_cons_zero, List.set_cons_succ]
      refine wpAnyH_take (i := 16) (oi := ?o16r10) (v := ?v16r10) ?h16r10 (by kernel_rfl) ?f16r10 ?r16r10 (fun _ _ _ h => h) (Or.inl ⟨?w16r10, ?y16r10⟩) (by assumption) ?t16r10
      case h16r10 => simp only [List.getElem?_toArray]; rfl
      case f16r10 => kernel_rfl
      case r16r10 => kernel_rfl
      case w16r10 => rfl
      case y16r10 => (intro u hu; (go_simp) <;> with_reducible rfl)
      try simp only [Act.put, List.setIfInBounds_toArray, List.set_cons_zero, List.set_cons_succ]
      refine wpAnyH_take (i := 17) (oi := ?o17r10) (v := ?v17r10) ?h17r10 (by kernel_rfl) ?f17r10 ?r17r10 (fun _ _ _ h => h) (Or.inl ⟨?w17r10, ?y17r10⟩) (by assumption) ?t17r10
      case h17r10 => simp only [List.getElem?_toArray]; rfl
      case f17r10 => kernel_rfl
      case r17r10 => kernel_rfl
      case w17r10 => rfl
      case y17r10 => (intro u hu; (go_simp) <;> with_reducible rfl)
      try simp only [Act.put, List.setIfInBounds_toArray, List.set_cons_zero, List.set_cons_succ]
      refine wpAnyH_take (i := 18) (oi := ?o18r10) (v := ?v18r10) ?h18r10 (by kernel_rfl) ?f18r10 ?r18r10 (fun _ _ _ h => h) (Or.inl ⟨?w18r10, ?y18r10⟩) (by assumption) ?t18r10
      case h18r10 => simp only [List.getElem?_toArray]; rfl
      case f18r10 => kernel_rfl
      case r18r10 => kernel_rfl
      case w18r10 => rfl
      case y18r10 => (intro u hu; (go_simp) <;> with_reducible rfl)
      try simp only [Act.put, List.setIfInBounds_toArray, List.set_cons_zero, List.set_cons_succ]
      refine wpAnyH_take (i := 20) (oi := ?o20r10) (v := ?v20r10) ?h20r10 (by kernel_rfl) ?f20r10 ?r20r10 (fun _ _ _ h => h) (Or.inl ⟨?w20r10, ?y20r10⟩) (by assumption) ?t20r10
      case h20r10 => simp only [List.getElem?_toArray]; rfl
      case f20r10 => kernel_rfl
      case r20r10 => kernel_rfl
      case w20r10 => rfl
      case y20r10 => (intro u hu; (go_simp) <;> with_reducible rfl)
      try simp only [Act.put, List.setIfInBounds_toArray, List.set_cons_zero, List.set_cons_succ]
      refine wpAnyH_ready (rs := [19]) (by kernel_rfl) (by simp) ?_
      refine AllReadyH.cons (o := ?o19r10) ?h19r10 (fun K hK => ?_) AllReadyH.nil
      case h19r10 => simp only [List.getElem?_toArray]; rfl
      go_simp
      refine (small_e z16 (j : Int) hz16 (by omega) _).mono ?_
      rintro e c10_19 ⟨z53, rfl, hz53, Hz53, hb10_19⟩
      refine hK.out _ _ (hH.trans hb10_19) (fun hH' => ?_)
      clear hK K hH
      have hH := hH'
      clear hH'
      try simp only [List.setIfInBounds_toArray, List.set]
      clear hb10_19
      refine wpAnyH_ready (rs := [21]) (by kernel_rfl) (by simp) ?_
      refine AllReadyH.cons (o := ?o21r10) ?h21r10 (fun K hK => ?_) AllReadyH.nil
      case h21r10 => simp only [List.getElem?_toArray]; rfl
      go_simp
      refine (equal_e z53 z hz53 hz _).mono ?_
      rintro e c10_21 ⟨rfl, hb10_21⟩
      rw [show same z53 z = true from same_t (by rw [Hz53.out, HZ.out])]
      refine hK.out _ _ (hH.trans hb10_21) (fun hH' => ?_)
      clear hK K hH
      have hH := hH'
      clear hH'
      try simp only [List.setIfInBounds_toArray, List.set]
      clear hb10_21
      refine wpAnyH_take (i := 22) (oi := ?o22r10) (v := ?v22r10) ?h22r10 (by kernel_rfl) ?f22r10 ?r22r10 (fun _ _ _ h => h) (Or.inl ⟨?w22r10, ?y22r10⟩) (by assumption) ?t22r10
      case h22r10 => simp only [List.getElem?_toArray]; rfl
      case f22r10 => kernel_rfl
      case r22r10 => kernel_rfl
      case w22r10 => rfl
      case y22r10 => (intro u hu; (go_simp) <;> with_reducible rfl)
      try simp only [Act.put, List.setIfInBounds_toArray, List.set_cons_zero, List.set_cons_succ]
      refine wpAnyH_take (i := 23) (oi := ?o23r10) (v := ?v23r10) ?h23r10 (by kernel_rfl) ?f23r10 ?r23r10 (fun _ _ _ h => h) (Or.inl ⟨?w23r10, ?y23r10⟩) (by assumption) ?t23r10
      case h23r10 => simp only [List.getElem?_toArray]; rfl
      case f23r10 => kernel_rfl
      case r23r10 => kernel_rfl
      case w23r10 => rfl
      case y23r10 => (intro u hu; (go_simp) <;> with_reducible rfl)
      try simp only [Act.put, List.setIfInBounds_toArray, List.set_cons_zero, List.set_cons_succ]
      refine wpAnyH_done (by kernel_rfl) ?_ _
      refine NoPanic.normal ?_
      go_wp2
      go_ret
      exact ⟨rfl, HB.out.trans (Below.mono hH HB.out.size)⟩
end Go.Proofs.Ytgnfbnjhmiggbaa
