/-
  BlakePieces' walk. No statement of the seat is proved here.
-/
import Derived.Test.YtgblbhocpafgcaaDoorBKn
import Derived.Test.YtgblbhocpafgcaaDoorKLrow
namespace Go.Proofs.YtgblbhocpafgcaaDoor
open Go.RowKit

theorem Hx.grown {u u' : World} {b : Nat} {T : List Int} {row : Option Nat} (h : Hx u b T) (hg : u.grownBy u' row) (hne : ∀ k, row = some k → k ≠ b) : Hx u' b T := by
  cases row with
  | none => exact h.later ⟨hg.os, hg.tape, hg.output, hg.size, fun k hk => hg.block k hk (by simp)⟩
  | some g => exact h.extb (extb_grown hg) (Ne.symm (hne g rfl))
set_option maxRecDepth 8000 in
set_option maxHeartbeats 8000000 in
theorem blakePieces_walk (n : Int) (ac : Option Addr) (lc cc : Nat) (cuts : List Int) (hn : -9223372036854775808 ≤ n ∧ n ≤ 9223372036854775807) (_hlc : lc ≤ 140737488351232) (w : World) (hri : Ri w ac lc cuts) (hg : Gb w) :
    Calls Tryd.prog 5 #[.int .i64 n, .slice ac lc cc] w fun e w' => e = .returned (.bool true) ∧ Below w.heap.size w w' := by
  have HRI : Hid (Ri w ac lc cuts) := hri
  have HG : Hid (Gb w) := hg
  have g0 := hg.ivlt
  have g1 := hg.sglt
  obtain ⟨i1, hj, hj0, hj1, hj2⟩ := info_parts info28
  clear hri hg
  go_enter Tryd.func5, Tryd.ntmps5
  go_wp2_with fail
  refine (pick_any n 700 hn (by decide) _).mono ?_
  rintro e w' ⟨m, rfl, p0, p1, hw⟩
  rw [hw]
  clear hw w'
  obtain ⟨N, rfl⟩ := Int.eq_ofNat_of_zero_le p0
  have hN : N < 700 := by omega
  clear p0 p1
  go_wp2_with fail
  refine (bytes_c N n (by omega) _).mono ?_
  rintro e W0 ⟨g, B, rfl, HT0, HT1, hb⟩
  have OT : Hid (Ow W0 g N B) := ⟨⟨_, HT1.out⟩, HT0.out⟩
  have HR0 : Hid (Rd W0 (some ⟨g, 0, none⟩) N N B) := OT.out.rd
  have HW0 : Hid (Below w.heap.size w W0) := hb
  have HG0 : Hid (Gb W0) := HG.out.later hb
  have HBN : Hid (B.length = N) := OT.out.len
  have hw0 : w.heap.size ≤ W0.heap.size := hb.size
  clear HT0 HT1 hb OT HG
  go_wp2_with fail
  refine (new_c _ HG0.out).mono ?_
  rintro e V0 ⟨rfl, HX, hb⟩
  obtain ⟨b0, hb0⟩ : ∃ q, q = W0.heap.size := ⟨_, rfl⟩
  rw [← hb0] at HX ⊢
  have HB0 : Hid (b0 = W0.heap.size) := hb0
  have HB : Hid (Below W0.heap.size W0 V0) := hb
  clear hb hb0
  go_wp2_with fail
  refine (known7_any _ (HG0.out.later HB.out)).mono ?_
  rintro e V1 ⟨rfl, hb⟩
  replace HX : Hid (Hx V1 b0 []) := HX.out.later hb
  replace HB : Hid (Below W0.heap.size W0 V1) := HB.out.trans (hb.mono HB.out.size)
  have hq1 : b0 < V1.heap.size := HX.out.lt
  obtain ⟨q, hq⟩ : ∃ q, q = V1.heap.size := ⟨_, rfl⟩
  have hq2 : q ≤ V1.heap.size := by omega
  rw [← hq] at hq1
  have HX0 : Hid (Hx V1 b0 (B.take 0)) := HX.out
  clear hb hq HX
  go_wp2
  go_loopw [7, 8, 9] (fun lv rv iv wr => ∃ (k p r o c' : Nat) (L : List (List Int)), iv = .int .i64 k ∧ k ≤ 30 ∧ rv = .slice (some ⟨g, o, none⟩) r c' ∧ p + r = N ∧ q ≤ wr.heap.size ∧ Hid (Rd W0 (some ⟨g, o, none⟩) r c' (B.drop p)) ∧ Hid (Lrow W0 wr q lv k L) ∧ Hid (L.flatten = B.take p) ∧ Hid (Hx wr b0 (B.take p)) ∧ Hid (Below W0.heap.size W0 wr)) (fun _ _ iv _ => 30 - (intOf iv).toNat)
  case atStart => exact ⟨0, 0, N, 0, N, [], rfl, by decide, rfl, by omega, hq2, HR0, Lrow.nil _ _ _, rfl, HX0, HB⟩
  case round =>
    clear HX0 HB hq2
    obtain ⟨k, p, r, o, c', L, rfl, hk, rfl, hpr, hq2, HR, HL, HLF, HX, HB⟩ := hrel
    by_cases hc : k < lc ∧ k < 30
    · obtain ⟨h1, h2⟩ := hc
      have q1 : (k : Int) < lc := by omega
      have q2 : (k : Int) < 30 := by omega
      obtain ⟨bc, oc, rfl, hcell⟩ := HRI.out.cell (by omega)
      have cx := cell_later (HW0.out.trans (HB.out.mono hw0)) (hcell k h1)
      have hxb := HRI.out.bnd k
      obtain ⟨x, hx⟩ : ∃ x, x = cuts[k]?.getD 0 := ⟨_, rfl⟩
      rw [← hx] at cx hxb
      clear hx hcell
      go_wp2_with fail
      refine (pick_any x 150 hxb (by decide) _).mono ?_
      rintro e w' ⟨k2, rfl, p0, p1, hw⟩
      rw [hw]
      clear hw w' cx
      obtain ⟨k2, rfl⟩ := Int.eq_ofNat_of_zero_le p0
      go_upto_if 41 with fail
      go_cut [10] from 23 to 72 (fun v wx => ∃ kk : Nat, v = .int .i64 kk ∧ kk ≤ r ∧ wx = wr)
      case first =>
        by_cases hgt : r < k2
        · have hgi : (r : Int) < (k2 : Int) := by omega
          go_wp2_with fail
          go_meet
          case rel => exact ⟨r, rfl, Nat.le_refl _, rfl⟩
        · have hgi : ¬ (r : Int) < (k2 : Int) := by omega
          go_wp2_with fail
          go_meet
          case rel => exact ⟨k2, rfl, by omega, rfl⟩
      case rest =>
        obtain ⟨kk, rfl, hkk, hwc⟩ := hcut
        rw [hwc]
        clear hwc
        have hle := HR.out.hle
        have qk0 : 0 ≤ (kk : Int) := by omega
        have qk1 : (kk : Int) ≤ c' := by omega
        have qk2 : (kk : Int) ≤ r := by omega
        obtain ⟨cs0, Hown0, Hcs⟩ := HL.out.own
        have Hown : Hid (wr.ownsRow q 28 1 _ k cs0) := Hown0
        have hcl : cs0.length = k := by have := Hown0.1; rw [this]; omega
        clear Hown0
        go_wp2_with (at_builtin; refine wpList_append_own _ rfl (.tmp 44) (.tmp 48) 36 rfl q 28 i1 (.slice none 0 0) 1 24 Tryd.underlying36 hj hj0 hj1 hj2 rfl (by decide) _ k cs0 rfl (Hown.out.alloc _) ⟨wr.heap.size, 0, none⟩ 1 1 [.slice (some ⟨g, o, none⟩) kk c'] rfl rfl (fun j u hu => one_newsS wr _ _ j u hu) (by intro u hu; simp at hu; rw [hu]; rfl) (by unfold maxLen; omega) (by omega) (by simp; omega) ?_)
        intro v1 w1 hown hgrow _
        have hbr := bel1 wr (.cells #[.slice (some ⟨g, o, none⟩) kk c'] 28)
        have HL1 : Hid (Lrow W0 w1 q v1 (k + 1) (L ++ [(B.drop p).take kk])) := Lrow.more HL.out.len hcl Hcs (HR.out.cut kk hkk) hown
        have HX1 : Hid (Hx w1 b0 (B.take p)) := (HX.out.later hbr).grown hgrow (fun j hj e => by have := (Hown.out.lt j hj).1; omega)
        have HB1 : Hid (Below W0.heap.size W0 w1) := (HB.out.trans (hbr.mono HB.out.size)).grown hgrow (by have := hbr.size; have := HB.out.size; omega) (fun j hj => by have := (Hown.out.lt j hj).1; have := HB0.out; omega)
        have hq3 : q ≤ w1.heap.size := by have := hgrow.size; have := hbr.size; omega
        clear hown hgrow hbr Hown Hcs hcl HL HX HB hq2
        go_wp2_with fail
        refine (write_c b0 _ (some ⟨g, o, none⟩) kk c' ((B.drop p).take kk) _ HX1.out (HG0.out.later HB1.out) (by have := HB0.out; omega) (by have := HB0.out; omega) ((HR.out.cut kk hkk).below HB1.out) (fun h0 j hj => by obtain ⟨b', o', ha, hc⟩ := (HR.out.cut kk hkk).cell h0; cases ha; cases hj; have := World.block_lt_of_cell? W0 _ (hc 0 h0); have := HB0.out; dsimp only at *; omega) (by rw [List.length_take, HBN.out]; omega)).mono ?_
        rintro e V2 ⟨rfl, HX2, hb⟩
        obtain ⟨p2, hp2⟩ : ∃ x, x = p + kk := ⟨_, rfl⟩
        obtain ⟨r2, hr2⟩ : ∃ x, x = r - kk := ⟨_, rfl⟩
        have hpr2 : p2 + r2 = N := by omega
        rw [← List.take_add, ← hp2] at HX2
        have HLF2 : Hid ((L ++ [(B.drop p).take kk]).flatten = B.take p2) := by unfold Hid; rw [List.flatten_append, HLF.out, hp2, List.take_add]; simp
        replace HL1 : Hid (Lrow W0 V2 q v1 (k + 1) (L ++ [(B.drop p).take kk])) := HL1.out.extb hb hq1
        have HB2 : Hid (Below W0.heap.size W0 V2) := hb.below HB1.out (by have := HB0.out; omega)
        have hq4 : q ≤ V2.heap.size := Nat.le_trans hq3 hb.size
        obtain ⟨o2, ho2⟩ : ∃ o2, (if c' = kk then some (⟨g, o, none⟩ : Addr) else some ⟨g, o + kk, none⟩) = some ⟨g, o2, none⟩ := by
          by_cases e : c' = kk
          · exact ⟨o, by rw [if_pos e]⟩
          · exact ⟨o + kk, by rw [if_neg e]⟩
        have hR2 := HR.out.rest kk hkk
        rw [List.drop_drop, ho2, ← hr2, ← hp2] at hR2
        have HR2 : Hid (Rd W0 (some ⟨g, o2, none⟩) r2 (c' - kk) (B.drop p2)) := hR2
        clear hb hR2 HX1 HB1 HLF HR hq3
        go_upto_if 60 with fail
        try rw [ho2]
        rw [← hr2]
        have HP2 : Hid (p2 = p + kk) := hp2
        have HRr2 : Hid (r2 = r - kk) := hr2
        clear ho2 hr2 hp2
        have hfin : ∀ wx, Ext V2 wx → q ≤ wx.heap.size ∧ Hid (Lrow W0 wx q v1 (k + 1) (L ++ [(B.drop p).take kk])) ∧ Hid (Hx wx b0 (B.take p2)) ∧ Hid (Below W0.heap.size W0 wx) := fun wx hE =>
          ⟨Nat.le_trans hq4 hE.size, HL1.out.later hE, HX2.out.later hE, HB2.out.trans (Below.mono hE HB2.out.size)⟩
        by_cases h5 : (k : Int) % 5 = 0
        · have ht5 : ((k : Int) % 5 == 0) = true := by simp [h5]
          have hsub : (N : Int) - (r2 : Int) = (p2 : Int) := by omega
          have hp3 : (p2 : Int) ≤ (N : Int) := by omega
          have hp4 : 0 ≤ (p2 : Int) := by omega
          have hwp : IntKind.i64.wrap (p2 : Int) = p2 := by rw [IntKind.wrap_i64]; omega
          go_upto_region 17 with fail
          refine wp_region_noPanic ?_
          refine wp_region_held_drew (S := Ext V2) (by kernel_rfl) (Ext.refl _).drew (fun hH => ?_)
          change wpAnyH _ _ _ _ _ _ #[false, false, false, false, false, false, false, false, false, false, false, false] _ _
          refine wpAnyH_take (i := 0) (oi := ?o0e) (v := ?v0e) ?h0e (by kernel_rfl) ?f0e ?r0e (fun _ _ _ h => h) (Or.inl ⟨?w0e, ?y0e⟩) (by assumption) ?t0e
          case h0e => simp only [List.getElem?_toArray]; rfl
          case f0e => kernel_rfl
          case r0e => kernel_rfl
          case w0e => rfl
          case y0e => (intro u hu; (go_simp) <;> with_reducible rfl)
          try simp only [Act.put, List.setIfInBounds_toArray, List.set_cons_zero, List.set_cons_succ]
          refine wpAnyH_take (i := 2) (oi := ?o2e) (v := ?v2e) ?h2e (by kernel_rfl) ?f2e ?r2e (fun _ _ _ h => h) (Or.inl ⟨?w2e, ?y2e⟩) (by assumption) ?t2e
          case h2e => simp only [List.getElem?_toArray]; rfl
          case f2e => kernel_rfl
          case r2e => kernel_rfl
          case w2e => rfl
          case y2e => (intro u hu; (go_simp) <;> with_reducible rfl)
          try simp only [Act.put, List.setIfInBounds_toArray, List.set_cons_zero, List.set_cons_succ]
          refine wpAnyH_take (i := 3) (oi := ?o3e) (v := ?v3e) ?h3e (by kernel_rfl) ?f3e ?r3e (fun _ _ _ h => h) (Or.inl ⟨?w3e, ?y3e⟩) (by assumption) ?t3e
          case h3e => simp only [List.getElem?_toArray]; rfl
          case f3e => kernel_rfl
          case r3e => kernel_rfl
          case w3e => rfl
          case y3e => (intro u hu; (go_simp) <;> with_reducible rfl)
          try simp only [Act.put, List.setIfInBounds_toArray, List.set_cons_zero, List.set_cons_succ]
          refine wpAnyH_take (i := 4) (oi := ?o4e) (v := ?v4e) ?h4e (by kernel_rfl) ?f4e ?r4e (fun _ _ _ h => h) (Or.inl ⟨?w4e, ?y4e⟩) (by assumption) ?t4e
          case h4e => simp only [List.getElem?_toArray]; rfl
          case f4e => kernel_rfl
          case r4e => kernel_rfl
          case w4e => rfl
          case y4e => (intro u hu; (go_simp) <;> with_reducible rfl)
          try simp only [Act.put, List.setIfInBounds_toArray, List.set_cons_zero, List.set_cons_succ]
          refine wpAnyH_take (i := 5) (oi := ?o5e) (v := ?v5e) ?h5e (by kernel_rfl) ?f5e ?r5e (fun _ _ _ h => h) (Or.inl ⟨?w5e, ?y5e⟩) (by assumption) ?t5e
          case h5e => simp only [List.getElem?_toArray]; rfl
          case f5e => kernel_rfl
          case r5e => kernel_rfl
          case w5e => rfl
          case y5e => (intro u hu; (go_simp) <;> with_reducible rfl)
          try simp only [Act.put, List.setIfInBounds_toArray, List.set_cons_zero, List.set_cons_succ]
          refine wpAnyH_take (i := 6) (oi := ?o6e) (v := ?v6e) ?h6e (by kernel_rfl) ?f6e ?r6e (fun _ _ _ h => h) (Or.inl ⟨?w6e, ?y6e⟩) (by assumption) ?t6e
          case h6e => simp only [List.getElem?_toArray]; rfl
          case f6e => kernel_rfl
          case r6e => kernel_rfl
          case w6e => rfl
          case y6e => (intro u hu; (go_simp) <;> with_reducible rfl)
          try simp only [Act.put, List.setIfInBounds_toArray, List.set_cons_zero, List.set_cons_succ]
          refine wpAnyH_take (i := 7) (oi := ?o7e) (v := ?v7e) ?h7e (by kernel_rfl) ?f7e ?r7e (fun _ _ _ h => h) (Or.inl ⟨?w7e, ?y7e⟩) (by assumption) ?t7e
          case h7e => simp only [List.getElem?_toArray]; rfl
          case f7e => kernel_rfl
          case r7e => kernel_rfl
          case w7e => rfl
          case y7e => (intro u hu; (go_simp) <;> with_reducible rfl)
          try simp only [Act.put, List.setIfInBounds_toArray, List.set_cons_zero, List.set_cons_succ]
          refine wpAnyH_take (i := 8) (oi := ?o8e) (v := ?v8e) ?h8e (by kernel_rfl) ?f8e ?r8e (fun _ _ _ h => h) (Or.inl ⟨?w8e, ?y8e⟩) (by assumption) ?t8e
          case h8e => simp only [List.getElem?_toArray]; rfl
          case f8e => kernel_rfl
          case r8e => kernel_rfl
          case w8e => rfl
          case y8e => (intro u hu; (go_simp) <;> with_reducible rfl)
          try simp only [Act.put, List.setIfInBounds_toArray, List.set_cons_zero, List.set_cons_succ]
          obtain ⟨y0, hy0⟩ : ∃ V, V = V2.drew := ⟨_, rfl⟩
          rw [← hy0] at hH ⊢
          clear hy0
          refine wpAnyH_ready (rs := [1, 9]) (by kernel_rfl) (by simp) ?_
          refine AllReadyH.cons (o := ?oA) ?hA (fun K hK => ?sA) (AllReadyH.cons (o := ?oB) ?hB (fun K hK => ?sB) AllReadyH.nil)
          case hA => simp only [List.getElem?_toArray]; rfl
          case hB => simp only [List.getElem?_toArray]; rfl
          case sA =>
            go_simp
            refine (sumh_c b0 (B.take p2) _ (HX2.out.later hH) ((HG0.out.later HB2.out).later hH) (by rw [List.length_take, HBN.out]; omega)).mono ?_
            rintro e V8 ⟨S1, rfl, HS1, hb⟩
            refine hK.out _ _ (hH.trans hb) (fun hH' => ?_)
            clear hK K hH
            have hH := hH'
            clear hH'
            try simp only [List.setIfInBounds_toArray, List.set]
            clear hb
            refine wpAnyH_ready (rs := [9]) (by kernel_rfl) (by simp) ?_
            refine AllReadyH.cons (o := ?o9eA) ?h9eA (fun K hK => ?_) AllReadyH.nil
            case h9eA => simp only [List.getElem?_toArray]; rfl
            go_simp
            have Yx : Hid (RdL (V8.alloc (.cells #[.slice (some ⟨g, 0, none⟩) p2 N] 28)) (some ⟨V8.heap.size, 0, none⟩) 1 [B.take p2]) := RdL.one V8 _ p2 N _ 28 (((HR0.out.cut p2 (by omega)).below HB2.out).below hH)
            refine hK.out _ _ (hH.trans (bel1 V8 _)) (fun hH' => ?_)
            clear hK K hH
            have hH := hH'
            clear hH'
            try simp only [List.setIfInBounds_toArray, List.set]
            obtain ⟨x1, hx1⟩ : ∃ v, v = V8.alloc (.cells #[.slice (some ⟨g, 0, none⟩) p2 N] 28) := ⟨_, rfl⟩
            obtain ⟨by', hbn⟩ : ∃ v, v = V8.heap.size := ⟨_, rfl⟩
            rw [← hx1] at Yx hH ⊢
            rw [← hbn] at Yx ⊢
            clear hx1 hbn
            refine wpAnyH_ready (rs := [10]) (by kernel_rfl) (by simp) ?_
            refine AllReadyH.cons (o := ?o10eA) ?h10eA (fun K hK => ?_) AllReadyH.nil
            case h10eA => simp only [List.getElem?_toArray]; rfl
            go_simp
            refine (sum_c (some ⟨by', 0, none⟩) 1 1 [B.take p2] _ Yx.out ((HG0.out.later HB2.out).later hH) (by decide) (by simp only [List.flatten_cons, List.flatten_nil, List.append_nil]; rw [List.length_take, HBN.out]; omega)).mono ?_
            rintro e V9 ⟨S2, rfl, HS2, hb⟩
            have hS1n : Bn 32 S1 := by rw [HS1.out]; exact sum7_bn _
            have hneq : ∀ u, Sem.run Tryd.prog (binOp .neq 25 (.agg (List.map (Value.int .u8) S1).toArray) (.agg (List.map (Value.int .u8) S2).toArray)) u = .ok (.bool false) u := fun u => neq32 S1 S2 hS1n (by rw [HS1.out, HS2.out]; simp) u
            refine hK.out _ _ (hH.trans hb) (fun hH' => ?_)
            clear hK K hH
            have hH := hH'
            clear hH'
            try simp only [List.setIfInBounds_toArray, List.set]
            refine wpAnyH_take (i := 11) (oi := ?o11eA) (v := ?v11eA) ?h11eA (by kernel_rfl) ?f11eA ?r11eA (fun _ _ _ h => h) (Or.inl ⟨?w11eA, ?y11eA⟩) (by assumption) ?t11eA
            case h11eA => simp only [List.getElem?_toArray]; rfl
            case f11eA => kernel_rfl
            case r11eA => kernel_rfl
            case w11eA => rfl
            case y11eA => (intro u hu; (go_simp) <;> with_reducible rfl)
            try simp only [Act.put, List.setIfInBounds_toArray, List.set_cons_zero, List.set_cons_succ]
            clear hneq hS1n HS2 HS1 hb Yx
            refine wpAnyH_done (by kernel_rfl) ?_ _
            refine NoPanic.normal ?_
            obtain ⟨hq5, HL5, HX5, HB5⟩ := hfin _ hH
            clear HL1 HX2 HB2 hfin hH hsub hp3 hp4 hwp
            go_wp2
            go_roundw
            case rel => exact ⟨k + 1, p2, r2, o2, c' - kk, _, by go_num, by omega, rfl, hpr2, hq5, HR2, HL5, HLF2, HX5, HB5⟩
            case measure => simp [intOf]; omega
          case sB =>
            go_simp
            have Yx : Hid (RdL (y0.alloc (.cells #[.slice (some ⟨g, 0, none⟩) p2 N] 28)) (some ⟨y0.heap.size, 0, none⟩) 1 [B.take p2]) := RdL.one y0 _ p2 N _ 28 (((HR0.out.cut p2 (by omega)).below HB2.out).below hH)
            refine hK.out _ _ (hH.trans (bel1 y0 _)) (fun hH' => ?_)
            clear hK K hH
            have hH := hH'
            clear hH'
            try simp only [List.setIfInBounds_toArray, List.set]
            obtain ⟨x1, hx1⟩ : ∃ v, v = y0.alloc (.cells #[.slice (some ⟨g, 0, none⟩) p2 N] 28) := ⟨_, rfl⟩
            obtain ⟨by', hbn⟩ : ∃ v, v = y0.heap.size := ⟨_, rfl⟩
            rw [← hx1] at Yx hH ⊢
            rw [← hbn] at Yx ⊢
            clear hx1 hbn
            refine wpAnyH_ready (rs := [1]) (by kernel_rfl) (by simp) ?_
            refine AllReadyH.cons (o := ?o1eB) ?h1eB (fun K hK => ?_) AllReadyH.nil
            case h1eB => simp only [List.getElem?_toArray]; rfl
            go_simp
            refine (sumh_c b0 (B.take p2) _ (HX2.out.later hH) ((HG0.out.later HB2.out).later hH) (by rw [List.length_take, HBN.out]; omega)).mono ?_
            rintro e V8 ⟨S1, rfl, HS1, hb⟩
            refine hK.out _ _ (hH.trans hb) (fun hH' => ?_)
            clear hK K hH
            have hH := hH'
            clear hH'
            try simp only [List.setIfInBounds_toArray, List.set]
            replace Yx : Hid (RdL V8 (some ⟨by', 0, none⟩) 1 [B.take p2]) := Yx.out.below hb
            clear hb
            refine wpAnyH_ready (rs := [10]) (by kernel_rfl) (by simp) ?_
            refine AllReadyH.cons (o := ?o10eB) ?h10eB (fun K hK => ?_) AllReadyH.nil
            case h10eB => simp only [List.getElem?_toArray]; rfl
            go_simp
            refine (sum_c (some ⟨by', 0, none⟩) 1 1 [B.take p2] _ Yx.out ((HG0.out.later HB2.out).later hH) (by decide) (by simp only [List.flatten_cons, List.flatten_nil, List.append_nil]; rw [List.length_take, HBN.out]; omega)).mono ?_
            rintro e V9 ⟨S2, rfl, HS2, hb⟩
            have hS1n : Bn 32 S1 := by rw [HS1.out]; exact sum7_bn _
            have hneq : ∀ u, Sem.run Tryd.prog (binOp .neq 25 (.agg (List.map (Value.int .u8) S1).toArray) (.agg (List.map (Value.int .u8) S2).toArray)) u = .ok (.bool false) u := fun u => neq32 S1 S2 hS1n (by rw [HS1.out, HS2.out]; simp) u
            refine hK.out _ _ (hH.trans hb) (fun hH' => ?_)
            clear hK K hH
            have hH := hH'
            clear hH'
            try simp only [List.setIfInBounds_toArray, List.set]
            refine wpAnyH_take (i := 11) (oi := ?o11eB) (v := ?v11eB) ?h11eB (by kernel_rfl) ?f11eB ?r11eB (fun _ _ _ h => h) (Or.inl ⟨?w11eB, ?y11eB⟩) (by assumption) ?t11eB
            case h11eB => simp only [List.getElem?_toArray]; rfl
            case f11eB => kernel_rfl
            case r11eB => kernel_rfl
            case w11eB => rfl
            case y11eB => (intro u hu; (go_simp) <;> with_reducible rfl)
            try simp only [Act.put, List.setIfInBounds_toArray, List.set_cons_zero, List.set_cons_succ]
            clear hneq hS1n HS2 HS1 hb Yx
            refine wpAnyH_done (by kernel_rfl) ?_ _
            refine NoPanic.normal ?_
            obtain ⟨hq5, HL5, HX5, HB5⟩ := hfin _ hH
            clear HL1 HX2 HB2 hfin hH hsub hp3 hp4 hwp
            go_wp2
            go_roundw
            case rel => exact ⟨k + 1, p2, r2, o2, c' - kk, _, by go_num, by omega, rfl, hpr2, hq5, HR2, HL5, HLF2, HX5, HB5⟩
            case measure => simp [intOf]; omega
        · have ht5 : ((k : Int) % 5 == 0) = false := by simp [h5]
          obtain ⟨hq5, HL5, HX5, HB5⟩ := hfin _ (Ext.refl _)
          clear HL1 HX2 HB2 hfin
          go_wp2
          go_roundw
          case rel => exact ⟨k + 1, p2, r2, o2, c' - kk, _, by go_num, by omega, rfl, hpr2, hq5, HR2, HL5, HLF2, HX5, HB5⟩
          case measure => simp [intOf]; omega
    · rcases (show lc ≤ k ∨ (k < lc ∧ 30 ≤ k) by omega) with h1 | ⟨h1, h2⟩
      · have q1 : ¬ (k : Int) < lc := by omega
        go_upto_region 19 with fail
        obtain ⟨cs0, Hown0, Hcs⟩ := HL.out.own
        have Hown : Hid (wr.ownsRow q 28 1 _ k cs0) := Hown0
        have hcl : cs0.length = k := by have := Hown0.1; rw [this]; omega
        clear Hown0
        go_wp2_with (at_builtin; refine wpList_append_own _ rfl (.tmp 73) (.tmp 75) 36 rfl q 28 i1 (.slice none 0 0) 1 24 Tryd.underlying36 hj hj0 hj1 hj2 rfl (by decide) _ k cs0 rfl (Hown.out.alloc _) ⟨wr.heap.size, 0, none⟩ 1 1 [.slice (some ⟨g, o, none⟩) r c'] rfl rfl (fun j u hu => one_newsS wr _ _ j u hu) (by intro u hu; simp at hu; rw [hu]; rfl) (by unfold maxLen; omega) (by omega) (by simp; omega) ?_)
        intro v1 w1 hown hgrow _
        have hbr := bel1 wr (.cells #[.slice (some ⟨g, o, none⟩) r c'] 28)
        have HL1 : Hid (Lrow W0 w1 q v1 (k + 1) (L ++ [B.drop p])) := Lrow.more HL.out.len hcl Hcs HR.out hown
        have HX1 : Hid (Hx w1 b0 (B.take p)) := (HX.out.later hbr).grown hgrow (fun j hj e => by have := (Hown.out.lt j hj).1; omega)
        have HB1 : Hid (Below W0.heap.size W0 w1) := (HB.out.trans (hbr.mono HB.out.size)).grown hgrow (by have := hbr.size; have := HB.out.size; omega) (fun j hj => by have := (Hown.out.lt j hj).1; have := HB0.out; omega)
        clear hown hgrow hbr Hown Hcs hcl HL HX HB
        go_wp2_with fail
        refine (write_c b0 _ (some ⟨g, o, none⟩) r c' (B.drop p) _ HX1.out (HG0.out.later HB1.out) (by have := HB0.out; omega) (by have := HB0.out; omega) (HR.out.below HB1.out) (fun h0 j hj => by obtain ⟨b', o', ha, hc⟩ := HR.out.cell h0; cases ha; cases hj; have := World.block_lt_of_cell? W0 _ (hc 0 h0); have := HB0.out; dsimp only at *; omega) (by rw [List.length_take, HBN.out]; omega)).mono ?_
        rintro e V ⟨rfl, HX2, hb⟩
        rw [List.take_append_drop] at HX2
        replace HL1 : Hid (Lrow W0 V q v1 (k + 1) (L ++ [B.drop p])) := HL1.out.extb hb hq1
        replace HB1 : Hid (Below W0.heap.size W0 V) := hb.below HB1.out (by have := HB0.out; omega)
        have HLF2 : Hid ((L ++ [B.drop p]).flatten = B) := by unfold Hid; rw [List.flatten_append, HLF.out]; simp
        clear hb HX1 HLF HR
        obtain ⟨al, cl, rfl⟩ := HL1.out.shape
        go_wp2_with fail
        refine (sumh_c b0 B _ HX2.out (HG0.out.later HB1.out) (by rw [HBN.out]; omega)).mono ?_
        rintro e V3 ⟨S1, rfl, HS1, hb⟩
        replace HL1 : Hid (Lrow W0 V3 q (.slice al (k + 1) cl) (k + 1) (L ++ [B.drop p])) := HL1.out.later hb
        replace HB1 : Hid (Below W0.heap.size W0 V3) := HB1.out.trans (hb.mono HB1.out.size)
        have hS1n : Bn 32 S1 := by rw [HS1.out]; exact sum7_bn _
        clear hb HX2
        have hb1 := bel1 V3 (.cells #[.slice (some ⟨g, 0, none⟩) N N] 28)
        have Y1 : Hid (RdL (V3.alloc (.cells #[.slice (some ⟨g, 0, none⟩) N N] 28)) (some ⟨V3.heap.size, 0, none⟩) 1 [B]) := RdL.one V3 _ N N _ 28 (HR0.out.below HB1.out)
        have HB2 : Hid (Below W0.heap.size W0 (V3.alloc (.cells #[.slice (some ⟨g, 0, none⟩) N N] 28))) := HB1.out.trans (hb1.mono HB1.out.size)
        replace HL1 : Hid (Lrow W0 (V3.alloc (.cells #[.slice (some ⟨g, 0, none⟩) N N] 28)) q (.slice al (k + 1) cl) (k + 1) (L ++ [B.drop p])) := HL1.out.later hb1
        go_wp2_with fail
        refine (sum_c (some ⟨V3.heap.size, 0, none⟩) 1 1 [B] _ Y1.out (HG0.out.later HB2.out) (by decide) (by simp only [List.flatten_cons, List.flatten_nil, List.append_nil]; rw [HBN.out]; omega)).mono ?_
        rintro e V4 ⟨S2, rfl, HS2, hb⟩
        replace HL1 : Hid (Lrow W0 V4 q (.slice al (k + 1) cl) (k + 1) (L ++ [B.drop p])) := HL1.out.later hb
        replace HB2 : Hid (Below W0.heap.size W0 V4) := HB2.out.trans (hb.mono HB2.out.size)
        replace HS2 : Hid (S2 = sum7 B) := by unfold Hid; rw [HS2.out]; simp
        have heq : ∀ u, Sem.run Tryd.prog (binOp .eql 25 (.agg (List.map (Value.int .u8) S1).toArray) (.agg (List.map (Value.int .u8) S2).toArray)) u = .ok (.bool true) u := fun u => eql32 S1 S2 hS1n (by rw [HS1.out, HS2.out]) u
        clear hb hb1 Y1 HB1
        go_wp2_with fail
        refine (sum_c al (k + 1) cl (L ++ [B.drop p]) _ (HL1.out.rdl HB2.out) (HG0.out.later HB2.out) (by omega) (by rw [HLF2.out, HBN.out]; omega)).mono ?_
        rintro e V5 ⟨S3, rfl, HS3, hb⟩
        replace HB2 : Hid (Below W0.heap.size W0 V5) := HB2.out.trans (hb.mono HB2.out.size)
        replace HS3 : Hid (S3 = sum7 B) := by unfold Hid; rw [HS3.out, HLF2.out]
        have hS3n : Bn 32 S3 := by rw [HS3.out]; exact sum7_bn _
        clear hb HL1 HLF2 heq HS1 HS2 hS1n
        have hb1 := bel1 V5 (.cells #[.slice (some ⟨g, 0, none⟩) N N] 28)
        have Y1 : Hid (RdL (V5.alloc (.cells #[.slice (some ⟨g, 0, none⟩) N N] 28)) (some ⟨V5.heap.size, 0, none⟩) 1 [B]) := RdL.one V5 _ N N _ 28 (HR0.out.below HB2.out)
        replace HB2 : Hid (Below W0.heap.size W0 (V5.alloc (.cells #[.slice (some ⟨g, 0, none⟩) N N] 28))) := HB2.out.trans (hb1.mono HB2.out.size)
        go_wp2_with fail
        refine (sum_c (some ⟨V5.heap.size, 0, none⟩) 1 1 [B] _ Y1.out (HG0.out.later HB2.out) (by decide) (by simp only [List.flatten_cons, List.flatten_nil, List.append_nil]; rw [HBN.out]; omega)).mono ?_
        rintro e V6 ⟨S4, rfl, HS4, hb⟩
        replace HB2 : Hid (Below W0.heap.size W0 V6) := HB2.out.trans (hb.mono HB2.out.size)
        have heq : ∀ u, Sem.run Tryd.prog (binOp .eql 25 (.agg (List.map (Value.int .u8) S3).toArray) (.agg (List.map (Value.int .u8) S4).toArray)) u = .ok (.bool true) u := fun u => eql32 S3 S4 hS3n (by rw [HS3.out, HS4.out]; simp) u
        clear hb hb1 Y1
        go_wp2
        go_ret
        exact ⟨rfl, HW0.out.trans (HB2.out.mono HW0.out.size)⟩
      · have q1 : (k : Int) < lc := by omega
        have q2 : ¬ (k : Int) < 30 := by omega
        go_upto_region 19 with fail
        obtain ⟨cs0, Hown0, Hcs⟩ := HL.out.own
        have Hown : Hid (wr.ownsRow q 28 1 _ k cs0) := Hown0
        have hcl : cs0.length = k := by have := Hown0.1; rw [this]; omega
        clear Hown0
        go_wp2_with (at_builtin; refine wpList_append_own _ rfl (.tmp 73) (.tmp 75) 36 rfl q 28 i1 (.slice none 0 0) 1 24 Tryd.underlying36 hj hj0 hj1 hj2 rfl (by decide) _ k cs0 rfl (Hown.out.alloc _) ⟨wr.heap.size, 0, none⟩ 1 1 [.slice (some ⟨g, o, none⟩) r c'] rfl rfl (fun j u hu => one_newsS wr _ _ j u hu) (by intro u hu; simp at hu; rw [hu]; rfl) (by unfold maxLen; omega) (by omega) (by simp; omega) ?_)
        intro v1 w1 hown hgrow _
        have hbr := bel1 wr (.cells #[.slice (some ⟨g, o, none⟩) r c'] 28)
        have HL1 : Hid (Lrow W0 w1 q v1 (k + 1) (L ++ [B.drop p])) := Lrow.more HL.out.len hcl Hcs HR.out hown
        have HX1 : Hid (Hx w1 b0 (B.take p)) := (HX.out.later hbr).grown hgrow (fun j hj e => by have := (Hown.out.lt j hj).1; omega)
        have HB1 : Hid (Below W0.heap.size W0 w1) := (HB.out.trans (hbr.mono HB.out.size)).grown hgrow (by have := hbr.size; have := HB.out.size; omega) (fun j hj => by have := (Hown.out.lt j hj).1; have := HB0.out; omega)
        clear hown hgrow hbr Hown Hcs hcl HL HX HB
        go_wp2_with fail
        refine (write_c b0 _ (some ⟨g, o, none⟩) r c' (B.drop p) _ HX1.out (HG0.out.later HB1.out) (by have := HB0.out; omega) (by have := HB0.out; omega) (HR.out.below HB1.out) (fun h0 j hj => by obtain ⟨b', o', ha, hc⟩ := HR.out.cell h0; cases ha; cases hj; have := World.block_lt_of_cell? W0 _ (hc 0 h0); have := HB0.out; dsimp only at *; omega) (by rw [List.length_take, HBN.out]; omega)).mono ?_
        rintro e V ⟨rfl, HX2, hb⟩
        rw [List.take_append_drop] at HX2
        replace HL1 : Hid (Lrow W0 V q v1 (k + 1) (L ++ [B.drop p])) := HL1.out.extb hb hq1
        replace HB1 : Hid (Below W0.heap.size W0 V) := hb.below HB1.out (by have := HB0.out; omega)
        have HLF2 : Hid ((L ++ [B.drop p]).flatten = B) := by unfold Hid; rw [List.flatten_append, HLF.out]; simp
        clear hb HX1 HLF HR
        obtain ⟨al, cl, rfl⟩ := HL1.out.shape
        go_wp2_with fail
        refine (sumh_c b0 B _ HX2.out (HG0.out.later HB1.out) (by rw [HBN.out]; omega)).mono ?_
        rintro e V3 ⟨S1, rfl, HS1, hb⟩
        replace HL1 : Hid (Lrow W0 V3 q (.slice al (k + 1) cl) (k + 1) (L ++ [B.drop p])) := HL1.out.later hb
        replace HB1 : Hid (Below W0.heap.size W0 V3) := HB1.out.trans (hb.mono HB1.out.size)
        have hS1n : Bn 32 S1 := by rw [HS1.out]; exact sum7_bn _
        clear hb HX2
        have hb1 := bel1 V3 (.cells #[.slice (some ⟨g, 0, none⟩) N N] 28)
        have Y1 : Hid (RdL (V3.alloc (.cells #[.slice (some ⟨g, 0, none⟩) N N] 28)) (some ⟨V3.heap.size, 0, none⟩) 1 [B]) := RdL.one V3 _ N N _ 28 (HR0.out.below HB1.out)
        have HB2 : Hid (Below W0.heap.size W0 (V3.alloc (.cells #[.slice (some ⟨g, 0, none⟩) N N] 28))) := HB1.out.trans (hb1.mono HB1.out.size)
        replace HL1 : Hid (Lrow W0 (V3.alloc (.cells #[.slice (some ⟨g, 0, none⟩) N N] 28)) q (.slice al (k + 1) cl) (k + 1) (L ++ [B.drop p])) := HL1.out.later hb1
        go_wp2_with fail
        refine (sum_c (some ⟨V3.heap.size, 0, none⟩) 1 1 [B] _ Y1.out (HG0.out.later HB2.out) (by decide) (by simp only [List.flatten_cons, List.flatten_nil, List.append_nil]; rw [HBN.out]; omega)).mono ?_
        rintro e V4 ⟨S2, rfl, HS2, hb⟩
        replace HL1 : Hid (Lrow W0 V4 q (.slice al (k + 1) cl) (k + 1) (L ++ [B.drop p])) := HL1.out.later hb
        replace HB2 : Hid (Below W0.heap.size W0 V4) := HB2.out.trans (hb.mono HB2.out.size)
        replace HS2 : Hid (S2 = sum7 B) := by unfold Hid; rw [HS2.out]; simp
        have heq : ∀ u, Sem.run Tryd.prog (binOp .eql 25 (.agg (List.map (Value.int .u8) S1).toArray) (.agg (List.map (Value.int .u8) S2).toArray)) u = .ok (.bool true) u := fun u => eql32 S1 S2 hS1n (by rw [HS1.out, HS2.out]) u
        clear hb hb1 Y1 HB1
        go_wp2_with fail
        refine (sum_c al (k + 1) cl (L ++ [B.drop p]) _ (HL1.out.rdl HB2.out) (HG0.out.later HB2.out) (by omega) (by rw [HLF2.out, HBN.out]; omega)).mono ?_
        rintro e V5 ⟨S3, rfl, HS3, hb⟩
        replace HB2 : Hid (Below W0.heap.size W0 V5) := HB2.out.trans (hb.mono HB2.out.size)
        replace HS3 : Hid (S3 = sum7 B) := by unfold Hid; rw [HS3.out, HLF2.out]
        have hS3n : Bn 32 S3 := by rw [HS3.out]; exact sum7_bn _
        clear hb HL1 HLF2 heq HS1 HS2 hS1n
        have hb1 := bel1 V5 (.cells #[.slice (some ⟨g, 0, none⟩) N N] 28)
        have Y1 : Hid (RdL (V5.alloc (.cells #[.slice (some ⟨g, 0, none⟩) N N] 28)) (some ⟨V5.heap.size, 0, none⟩) 1 [B]) := RdL.one V5 _ N N _ 28 (HR0.out.below HB2.out)
        replace HB2 : Hid (Below W0.heap.size W0 (V5.alloc (.cells #[.slice (some ⟨g, 0, none⟩) N N] 28))) := HB2.out.trans (hb1.mono HB2.out.size)
        go_wp2_with fail
        refine (sum_c (some ⟨V5.heap.size, 0, none⟩) 1 1 [B] _ Y1.out (HG0.out.later HB2.out) (by decide) (by simp only [List.flatten_cons, List.flatten_nil, List.append_nil]; rw [HBN.out]; omega)).mono ?_
        rintro e V6 ⟨S4, rfl, HS4, hb⟩
        replace HB2 : Hid (Below W0.heap.size W0 V6) := HB2.out.trans (hb.mono HB2.out.size)
        have heq : ∀ u, Sem.run Tryd.prog (binOp .eql 25 (.agg (List.map (Value.int .u8) S3).toArray) (.agg (List.map (Value.int .u8) S4).toArray)) u = .ok (.bool true) u := fun u => eql32 S3 S4 hS3n (by rw [HS3.out, HS4.out]; simp) u
        clear hb hb1 Y1
        go_wp2
        go_ret
        exact ⟨rfl, HW0.out.trans (HB2.out.mono HW0.out.size)⟩
end Go.Proofs.YtgblbhocpafgcaaDoor
