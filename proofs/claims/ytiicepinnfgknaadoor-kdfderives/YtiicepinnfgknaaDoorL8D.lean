/-
  KdfDerives' walk. No statement of the seat is proved here.
-/
import Derived.Test.YtiicepinnfgknaaDoorEKn
namespace Go.Proofs.YtiicepinnfgknaaDoor
open Go.RowKit

set_option maxRecDepth 8000 in
set_option maxHeartbeats 8000000 in
theorem kdfDerives_walk (chain : List Int) (a : Option Addr) (len cap : Nat) (input : List Int) (n : Int) (hc : Bn 32 chain) (hlen : len ≤ 140737488351232) (hl : -9223372036854775808 ≤ n ∧ n ≤ 9223372036854775807) (w : World) (hr : Rd w a len cap input) (hg : Gb w ∧ Gq w) :
    Calls Tryd.prog 5 #[(.agg (List.map (Value.int .u8) chain).toArray), .slice a len cap, .int .i64 n] w fun e w' => e = .returned (.bool true) ∧ Below w.heap.size w w' := by
  have HR : Hid (Rd w a len cap input) := hr
  have HG : Hid (Gb w) := hg.1
  have HQ : Hid (Gq w) := hg.2
  have HC : Hid (Bn 32 chain) := hc
  clear hr hg hc
  obtain ⟨_, _, hic⟩ := bn32_cells HC.out
  go_enter Tryd.func5, Tryd.ntmps5
  go_upto_region 1 with fail
  have AC : Hid (Ar (w.alloc (.cells (List.map (Value.int .u8) chain).toArray 25)) w.heap.size 32 (List.map (Value.int .u8) chain)) := ar_box w _ 32 HC.out.map_len _
  have HB : Hid (Below w.heap.size w (w.alloc (.cells (List.map (Value.int .u8) chain).toArray 25))) := bel1 _ _
  obtain ⟨W0, hW0⟩ : ∃ W, W = (w.alloc (.cells (List.map (Value.int .u8) chain).toArray 25)) := ⟨_, rfl⟩
  obtain ⟨bc, hbc⟩ : ∃ q, q = w.heap.size := ⟨_, rfl⟩
  rw [← hW0] at AC HB ⊢
  rw [← hbc] at AC ⊢
  clear hW0 hbc
  replace HR : Hid (Rd W0 a len cap input) := HR.out.below HB.out
  go_wp2_with fail
  refine (pick_any n 6 hl (by decide) _).mono ?_
  rintro e w' ⟨i0, rfl, p0, p1, hw⟩
  rw [hw]
  clear hw w'
  obtain ⟨p, rfl⟩ := Int.eq_ofNat_of_zero_le p0
  clear p0 p1
  go_wp2_with (refine wpList_load_mid rfl 25 (.tmp 3) rfl bc 0 rfl (List.map (Value.int .u8) chain) _ AC.out.rng Tryd.underlying25 rfl hic ?_)
  refine (derive_n chain a len cap input p HC.out _ HR.out (HG.out.later HB.out) (by omega)).mono ?_
  rintro e V1 ⟨q1, m1, c1, L1, rfl, HL1, HA1, hm3, hb⟩
  replace AC : Hid (Ar V1 bc 32 (List.map (Value.int .u8) chain)) := AC.out.later hb
  replace HR : Hid (Rd V1 a len cap input) := HR.out.below hb
  replace HB : Hid (Below w.heap.size w V1) := HB.out.trans (hb.mono HB.out.size)
  clear hb
  go_wp2_with (refine wpList_load_mid rfl 25 (.tmp 3) rfl bc 0 rfl (List.map (Value.int .u8) chain) _ AC.out.rng Tryd.underlying25 rfl hic ?_)
  refine (rderive_n chain a len cap input p HC.out _ HR.out (HQ.out.later HB.out) (by omega)).mono ?_
  rintro e V2 ⟨q2, m2, c2, L2, rfl, HL2, HA2, hb⟩
  replace HA1 : Hid (RdA V2 q1 m1 L1) := HA1.out.later hb
  replace HB : Hid (Below w.heap.size w V2) := HB.out.trans (hb.mono HB.out.size)
  have HLL : Hid (L1 = L2) := by unfold Hid; rw [HL1.out, HL2.out]
  have hmm : m2 = m1 := by rw [← HA1.out.hlen, ← HA2.out.hlen, HLL.out]
  subst hmm
  clear hb AC HR HL1 HL2 hic
  go_wp2_with fail
  refine (known8_any _ (HG.out.later HB.out) (HQ.out.later HB.out)).mono ?_
  rintro e V3 ⟨rfl, hb⟩
  replace HA1 : Hid (RdA V3 q1 m2 L1) := HA1.out.later hb
  replace HA2 : Hid (RdA V3 q2 m2 L2) := HA2.out.later hb
  replace HB : Hid (Below w.heap.size w V3) := HB.out.trans (hb.mono HB.out.size)
  clear hb HG HQ
  go_wp2
  go_loopw [9] (fun i wr => ∃ k : Nat, k ≤ m2 ∧ i = .int .i64 k ∧ Hid (RdA wr q1 m2 L1) ∧ Hid (RdA wr q2 m2 L2) ∧ Hid (Below w.heap.size w wr)) (fun i _ => m2 - (intOf i).toNat)
  case atStart => exact ⟨0, Nat.zero_le _, rfl, HA1, HA2, HB⟩
  case round =>
    clear HA1 HA2 HB
    obtain ⟨k, hk, rfl, HA1, HA2, HB⟩ := hrel
    by_cases hlt : k < m2
    · have c1' : (k : Int) < m2 := by omega
      obtain ⟨g, rfl, -⟩ := HA1.out.ar (by omega)
      obtain ⟨g', rfl, -⟩ := HA2.out.ar (by omega)
      obtain ⟨X, HX⟩ : ∃ X, Hid (X = L1[k]?.getD []) := ⟨_, rfl⟩
      obtain ⟨Y, HY⟩ : ∃ Y, Hid (Y = L2[k]?.getD []) := ⟨_, rfl⟩
      have hkl : k < L1.length := by rw [HA1.out.hlen]; exact hlt
      have HXY : Hid (X = Y) := by unfold Hid; rw [HX.out, HY.out, HLL.out]
      have hXn : Bn 32 X := by rw [HX.out, List.getElem?_eq_getElem hkl]; exact HA1.out.bn _ (List.getElem_mem hkl)
      have RX : Hid (wr.rangeAt g (k * 32) (List.map (Value.int .u8) X)) := by unfold Hid; rw [HX.out, Nat.mul_comm]; exact HA1.out.at k hlt
      have RY : Hid (wr.rangeAt g' (k * 32) (List.map (Value.int .u8) Y)) := by unfold Hid; rw [HY.out, Nat.mul_comm]; exact HA2.out.at k hlt
      have hYn : Bn 32 Y := by rw [← HXY.out]; exact hXn
      obtain ⟨_, _, hiX⟩ := bn32_cells hXn
      obtain ⟨_, _, hiY⟩ := bn32_cells hYn
      have hne : ∀ u, Sem.run Tryd.prog (binOp .neq 25 (.agg (List.map (Value.int .u8) X).toArray) (.agg (List.map (Value.int .u8) Y).toArray)) u = .ok (.bool false) u := fun u => neq32 X Y hXn HXY.out u
      clear hXn hYn HX HY hkl HXY
      go_upto_region 9 with fail
      have HA1' : Hid (RdA wr.drew (some ⟨g, 0, none⟩) m2 L1) := HA1.out.later (Below.refl _ _).drew
      have HA2' : Hid (RdA wr.drew (some ⟨g', 0, none⟩) m2 L2) := HA2.out.later (Below.refl _ _).drew
      have HB' : Hid (Below w.heap.size w wr.drew) := HB.out.drew
      refine wp_region_noPanic ?_
      refine wp_region_held_drew (S := Ext wr) (by kernel_rfl) (Ext.refl _).drew (fun hH => ?_)
      change wpAnyH _ _ _ _ _ _ #[false, false, false, false, false, false, false, false, false] _ _
      refine wpAnyH_take (i := 0) (oi := ?o0r) (v := ?v0r) ?h0r (by kernel_rfl) ?f0r ?r0r (fun _ _ _ h => h) (Or.inl ⟨?w0r, ?y0r⟩) (by assumption) ?t0r
      case h0r => simp only [List.getElem?_toArray]; rfl
      case f0r => kernel_rfl
      case r0r => kernel_rfl
      case w0r => rfl
      case y0r => (intro u hu; (go_simp) <;> with_reducible rfl)
      try simp only [Act.put, List.setIfInBounds_toArray, List.set_cons_zero, List.set_cons_succ]
      refine wpAnyH_take (i := 1) (oi := ?o1r) (v := ?v1r) ?h1r (by kernel_rfl) ?f1r ?r1r (fun _ _ _ h => h) (Or.inl ⟨?w1r, ?y1r⟩) (by assumption) ?t1r
      case h1r => simp only [List.getElem?_toArray]; rfl
      case f1r => kernel_rfl
      case r1r => kernel_rfl
      case w1r => rfl
      case y1r => (intro u hu; (go_simp) <;> with_reducible rfl)
      try simp only [Act.put, List.setIfInBounds_toArray, List.set_cons_zero, List.set_cons_succ]
      refine wpAnyH_take (i := 2) (oi := ?o2r) (v := ?v2r) ?h2r (by kernel_rfl) ?f2r ?r2r (fun _ _ _ h => h) (Or.inl ⟨?w2r, ?y2r⟩) (by assumption) ?t2r
      case h2r => simp only [List.getElem?_toArray]; rfl
      case f2r => kernel_rfl
      case r2r => kernel_rfl
      case w2r => rfl
      case y2r => (intro u hu; (go_simp) <;> with_reducible rfl)
      try simp only [Act.put, List.setIfInBounds_toArray, List.set_cons_zero, List.set_cons_succ]
      refine wpAnyH_take (i := 3) (oi := ?o3r) (v := .agg (List.map (Value.int .u8) X).toArray) ?h3r (by kernel_rfl) ?f3r ?r3r (fun _ _ _ h => h) ?y3r (by assumption) ?t3r
      case h3r => simp only [List.getElem?_toArray]; rfl
      case f3r => kernel_rfl
      case r3r => kernel_rfl
      case y3r => exact yieldsIf_load_mid (by rfl) 25 (.tmp 37) rfl g (k * 32) rfl (List.map (Value.int .u8) X) _ (fun u hu => range_later hu RX.out) Tryd.underlying25 rfl hiX
      try simp only [Act.put, List.setIfInBounds_toArray, List.set_cons_zero, List.set_cons_succ]
      refine wpAnyH_take (i := 4) (oi := ?o4r) (v := ?v4r) ?h4r (by kernel_rfl) ?f4r ?r4r (fun _ _ _ h => h) (Or.inl ⟨?w4r, ?y4r⟩) (by assumption) ?t4r
      case h4r => simp only [List.getElem?_toArray]; rfl
      case f4r => kernel_rfl
      case r4r => kernel_rfl
      case w4r => rfl
      case y4r => (intro u hu; (go_simp) <;> with_reducible rfl)
      try simp only [Act.put, List.setIfInBounds_toArray, List.set_cons_zero, List.set_cons_succ]
      refine wpAnyH_take (i := 5) (oi := ?o5r) (v := ?v5r) ?h5r (by kernel_rfl) ?f5r ?r5r (fun _ _ _ h => h) (Or.inl ⟨?w5r, ?y5r⟩) (by assumption) ?t5r
      case h5r => simp only [List.getElem?_toArray]; rfl
      case f5r => kernel_rfl
      case r5r => kernel_rfl
      case w5r => rfl
      case y5r => (intro u hu; (go_simp) <;> with_reducible rfl)
      try simp only [Act.put, List.setIfInBounds_toArray, List.set_cons_zero, List.set_cons_succ]
      refine wpAnyH_take (i := 6) (oi := ?o6r) (v := ?v6r) ?h6r (by kernel_rfl) ?f6r ?r6r (fun _ _ _ h => h) (Or.inl ⟨?w6r, ?y6r⟩) (by assumption) ?t6r
      case h6r => simp only [List.getElem?_toArray]; rfl
      case f6r => kernel_rfl
      case r6r => kernel_rfl
      case w6r => rfl
      case y6r => (intro u hu; (go_simp) <;> with_reducible rfl)
      try simp only [Act.put, List.setIfInBounds_toArray, List.set_cons_zero, List.set_cons_succ]
      refine wpAnyH_take (i := 7) (oi := ?o7r) (v := .agg (List.map (Value.int .u8) Y).toArray) ?h7r (by kernel_rfl) ?f7r ?r7r (fun _ _ _ h => h) ?y7r (by assumption) ?t7r
      case h7r => simp only [List.getElem?_toArray]; rfl
      case f7r => kernel_rfl
      case r7r => kernel_rfl
      case y7r => exact yieldsIf_load_mid (by rfl) 25 (.tmp 41) rfl g' (k * 32) rfl (List.map (Value.int .u8) Y) _ (fun u hu => range_later hu RY.out) Tryd.underlying25 rfl hiY
      try simp only [Act.put, List.setIfInBounds_toArray, List.set_cons_zero, List.set_cons_succ]
      refine wpAnyH_take (i := 8) (oi := ?o8r) (v := ?v8r) ?h8r (by kernel_rfl) ?f8r ?r8r (fun _ _ _ h => h) (Or.inl ⟨?w8r, ?y8r⟩) (by assumption) ?t8r
      case h8r => simp only [List.getElem?_toArray]; rfl
      case f8r => kernel_rfl
      case r8r => kernel_rfl
      case w8r => rfl
      case y8r => (intro u hu; (go_simp) <;> with_reducible rfl)
      try simp only [Act.put, List.setIfInBounds_toArray, List.set_cons_zero, List.set_cons_succ]
      refine wpAnyH_done (by kernel_rfl) ?_ _
      refine NoPanic.normal ?_
      go_wp2
      go_roundw
      case rel => exact ⟨k + 1, by omega, by go_num, HA1', HA2', HB'⟩
      case measure => simp [intOf]; omega
    · have e : k = m2 := by omega
      subst e
      go_wp2
      go_ret
      exact ⟨rfl, HB.out⟩
end Go.Proofs.YtiicepinnfgknaaDoor
