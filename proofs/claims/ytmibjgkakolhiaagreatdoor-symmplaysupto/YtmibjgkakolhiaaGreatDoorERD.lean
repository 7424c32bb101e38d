/-
 What the reference's Derive does. No statement of the seat is proved here.
-/
import Derived.Test.YtmibjgkakolhiaaGreatDoorPk1
import Derived.Test.YtmibjgkakolhiaaGreatDoorPk36
import Derived.Test.YtmibjgkakolhiaaGreatDoorPk33
import Derived.ArgAppend
namespace Go.Proofs.YtmibjgkakolhiaaGreatDoor
open Go.RowKit

set_option maxRecDepth 8000 in
theorem app8 (u : World) (base : Nat) (v : Value) (n : Nat) (xl : List Int) (a : Option Addr) (m c : Nat) (l : List Int) (hown : u.ownsRow base 5 1 v n (List.map (Value.int .u8) xl)) (hr : Rd u a m c l) (hnm : n + m ≤ 140737488355328) (hbase : base ≤ u.heap.size) (ty : TypeId) (g : Nat) (hob : v.ownBlock = some g) (h0 : 0 < n + m) :
  ∃ g' c' w', (Builtin.append_ #[28, 28] ty #[v, .slice a m c]).run Tryz.prog u = .ok (.slice (some ⟨g', 0, none⟩) (n + m) c') w' ∧ w'.ownsRow base 5 1 (.slice (some ⟨g', 0, none⟩) (n + m) c') (n + m) (List.map (Value.int .u8) (xl ++ l)) ∧ ExtB g u w' ∧ (g' = g ∨ g' = u.heap.size) ∧ base ≤ g' ∧ g' < w'.heap.size := by
 obtain ⟨v', w', h1, h2, h3, h4⟩ := app_at u base v n xl a m c l hown hr hnm hbase ty
 obtain ⟨a', c', rfl⟩ := owns_sh h2
 obtain ⟨g', rfl, h5, h6⟩ := owns_block h2 h0
 rw [hob] at h3 h4
 refine ⟨g', c', w', h1, h2, extb_grown h3, ?_, h5, h6⟩
 rcases h4 with h4 | h4
 ·exact .inl (Option.some.inj h4)
 ·exact .inr (Option.some.inj h4)
set_option maxRecDepth 8000 in
theorem app32 (u : World) (g n c : Nat) (xl : List Int) (hl : xl.length = 32 * n) (hx : u.rangeAt g 0 (List.map (Value.int .u8) xl)) (x : Nat) (C : List Int) (hC : Bn 32 C) (hr : u.rangeAt x 0 (List.map (Value.int .u8) C)) (hn : n ≤ 100) (hc : c ≤ n) (ty : TypeId) :
  ∃ g' c' w', (Builtin.append_ #[57, 57] ty #[.slice (some ⟨g, 0, none⟩) n c, .slice (some ⟨x, 0, none⟩) 1 1]).run Tryz.prog u = .ok (.slice (some ⟨g', 0, none⟩) (n + 1) c') w' ∧ Ar w' g' (32 * (n + 1)) (List.map (Value.int .u8) (xl ++ C)) ∧ Below u.heap.size u w' := by
 obtain ⟨i0, hi, hz0, hz1, hz2⟩ := info_parts info32
 obtain ⟨v', w', h1, h2, h3⟩ := run_append_arg_grows (P := Tryz.prog) u 57 ty 33 i0 _ 32 32 Tryz.underlying57 hi hz0 hz1 hz2 rfl (by decide) ⟨g, 0, none⟩ n c (List.map (Value.int .u8) xl) (by rw [List.length_map]; omega) (fun j w hw => by rw [Addr.add_lit]; exact hx j w hw) ⟨x, 0, none⟩ 1 1 (List.map (Value.int .u8) C) (by rw [hC.map_len]) (fun j w hw => by rw [Addr.add_lit]; exact hr j w hw) (by omega) (by unfold maxLen; omega) (by omega)
 rw [← List.map_append] at h2
 have hb := below_gb h3 (Nat.le_refl _) (fun k hk => by cases hk)
 rcases h2.2 with ⟨_, h0⟩ | ⟨g', cap', cur, hv, -⟩
 ·omega
 ·subst hv
  exact ⟨g', cap', w', h1, own_ar h2 (Nat.mul_comm _ _), hb⟩
set_option maxRecDepth 8000 in
theorem cut8 {F G : World → Nat → Nat → Nat → Nat → Nat → Nat → List Int → Nat → Prop} {β : Prop} (h : (∀ u a b c d e f N i, F u a b c d e f N i → G u a b c d e f N i) → β) (hr : ∀ u a b c d e f N i, F u a b c d e f N i → G u a b c d e f N i) : β := h hr
set_option maxRecDepth 8000 in
theorem cut7 {F G : World → Nat → Nat → Nat → Nat → Nat → Nat → List Int → Prop} {β : Prop} (h : (∀ u a b c d e f N, F u a b c d e f N → G u a b c d e f N) → β) (hr : ∀ u a b c d e f N, F u a b c d e f N → G u a b c d e f N) : β := h hr
set_option maxRecDepth 8000 in
set_option maxHeartbeats 4000000 in
theorem rderive_no (chain : List Int) (a : Option Addr) (len cap : Nat) (n : Int) (h2 : n ≠ 2) (h3 : n ≠ 3) (w : World) :
  Calls Tryz.prog 27 #[(.agg (List.map (Value.int .u8) chain).toArray), .slice a len cap, .int .i64 n] w fun e w' => e = .returned (.slice none 0 0) ∧ Below w.heap.size w w' := by
 have e2 : (n != 2) = true := by simpa using h2
 have e3 : (n != 3) = true := by simpa using h3
 go_enter Tryz.func27, Tryz.ntmps27
 go_wp2
 go_ret
 exact ⟨rfl, bel1 _ _⟩
set_option maxRecDepth 8000 in
set_option maxHeartbeats 8000000 in
theorem rderive_yes (chain : List Int) (a : Option Addr) (len cap : Nat) (input : List Int) (n : Nat) (hc : Bn 32 chain) (hn : n = 2 ∨ n = 3) (w : World) (hr : Rd w a len cap input) (hg : Gq w) (hT : 64 + len ≤ 140737488355328) :
  Calls Tryz.prog 27 #[(.agg (List.map (Value.int .u8) chain).toArray), .slice a len cap, .int .i64 n] w fun e w' => ∃ g c, e = .returned (.slice (some ⟨g, 0, none⟩) n c) ∧ Hid (RdA w' (some ⟨g, 0, none⟩) n (kl8 (hm8 chain input) n)) ∧ Below w.heap.size w w' := by
 have HR : Hid (Rd w a len cap input) := hr
 have HG : Hid (Gq w) := hg
 have HC : Hid (Bn 32 chain) := hc
 have HN : Hid (n = 2 ∨ n = 3) := hn
 clear hr hg hc hn
 go_enter Tryz.func27, Tryz.ntmps27
 go_upto_region 1 with fail
 have AC : Hid (Ar (w.alloc (.cells (List.map (Value.int .u8) chain).toArray 33)) w.heap.size 32 (List.map (Value.int .u8) chain)) := ar_box w _ 32 HC.out.map_len _
 have HB : Hid (Below w.heap.size w (w.alloc (.cells (List.map (Value.int .u8) chain).toArray 33))) := bel1 _ _
 obtain ⟨W0, hW0⟩ : ∃ W, W = (w.alloc (.cells (List.map (Value.int .u8) chain).toArray 33)) := ⟨_, rfl⟩
 obtain ⟨bc, hbc⟩ : ∃ q, q = w.heap.size := ⟨_, rfl⟩
 rw [← hW0] at AC HB ⊢
 rw [← hbc] at AC ⊢
 clear hW0 hbc
 go_cut [16] from 11 (fun v wx => v = .bool false ∧ wx = W0)
 case first =>
  rcases HN.out with rfl | rfl
  ·have e2 : (((2 : Nat) : Int) != 2) = false := rfl
   go_wp2_with fail
   go_meet
   case rel => exact ⟨rfl, rfl⟩
  ·have e2 : (((3 : Nat) : Int) != 2) = true := rfl
   have e3 : (((3 : Nat) : Int) != 3) = false := rfl
   go_wp2_with fail
   go_meet
   case rel => exact ⟨rfl, rfl⟩
 case rest =>
 obtain ⟨rfl, hcw⟩ := hcut
 rw [hcw]
 clear hcw
 have HRC : Hid (Rd W0 (some ⟨bc, 0, none⟩) 32 32 chain) := AC.out.rd_all HC.out.byt 32 (by decide)
 go_wp2_with fail
 refine (rhmac_c (some ⟨bc, 0, none⟩) 32 32 chain a len cap input _ HRC.out (HR.out.below HB.out) (HG.out.later HB.out) (by decide) hT).mono ?_
 rintro e V ⟨T, rfl, HT, hb⟩
 have HTN : Hid (Bn 32 T) := by unfold Hid; rw [HT.out]; exact hm8_bn _ _
 replace HB := hidp (HB.out.trans (hb.mono HB.out.size))
 clear hb HRC AC HR
 obtain ⟨hlenbt, honebt, hibt⟩ := bn32_cells HTN.out
 obtain ⟨csbt, hcs⟩ : ∃ cs, cs = (List.map (Value.int .u8) T) := ⟨_, rfl⟩
 rw [← hcs] at hlenbt honebt hibt ⊢
 have HCbt : Hid (csbt = (List.map (Value.int .u8) T)) := hcs
 clear hcs
 have hth := there_new V 32 zb32 rfl 33
 have Abt : Hid (Ar ((V.alloc (.cells zb32 33)).setCells V.heap.size 0 csbt) V.heap.size 32 (List.map (Value.int .u8) T)) := by rw [← HCbt.out]; exact ar_var _ _ 32 rfl _ _ hlenbt
 have hX : Below V.heap.size V ((V.alloc (.cells zb32 33)).setCells V.heap.size 0 csbt) := bel_var _ _ _ _
 go_upto_region 4 with (refine wpList_store_mid rfl 33 (.tmp 7) (.tmp 19) rfl V.heap.size 0 csbt.toArray rfl rfl (by simpa [hlenbt] using hth) (by simpa using hibt) (all_oneCell_toArray honebt) ?_)
 clear hth honebt hlenbt
 obtain ⟨W1, hnew⟩ : ∃ W, W = ((V.alloc (.cells zb32 33)).setCells V.heap.size 0 csbt) := ⟨_, rfl⟩
 obtain ⟨bt, hblk⟩ : ∃ q, q = V.heap.size := ⟨_, rfl⟩
 rw [← hnew] at Abt hX ⊢
 rw [← hblk] at Abt ⊢
 rw [HCbt.out] at hibt
 clear hnew HCbt
 replace HB := hidp (HB.out.trans (hX.mono HB.out.size))
 clear hX hblk hibt
 have hb1 := bel1 W1 (.cells #[.int .u8 1] 5)
 have LX : Hid (Rd (W1.alloc (.cells #[.int .u8 1] 5)) (some ⟨W1.heap.size, 0, none⟩) 1 1 [1]) := rd_one W1 1 (by decide) 5
 have HRT : Hid (Rd (W1.alloc (.cells #[.int .u8 1] 5)) (some ⟨bt, 0, none⟩) 32 32 T) := (Abt.out.later hb1).rd_all HTN.out.byt 32 (by decide)
 have HB1 : Hid (Below w.heap.size w (W1.alloc (.cells #[.int .u8 1] 5))) := HB.out.trans (hb1.mono HB.out.size)
 go_wp2_with fail
 refine (rhmac_c (some ⟨bt, 0, none⟩) 32 32 T (some ⟨W1.heap.size, 0, none⟩) 1 1 [1] _ HRT.out LX.out (HG.out.later HB1.out) (by decide) (by decide)).mono ?_
 rintro e V2 ⟨A, rfl, HA, hb⟩
 have HAN : Hid (Bn 32 A) := by unfold Hid; rw [HA.out]; exact hm8_bn _ _
 replace HB : Hid (Below w.heap.size w V2) := HB1.out.trans (hb.mono HB1.out.size)
 replace HRT := hidp (HRT.out.below hb)
 clear hb hb1 LX HB1 Abt
 obtain ⟨hlenba, honeba, hiba⟩ := bn32_cells HAN.out
 obtain ⟨csba, hcs⟩ : ∃ cs, cs = (List.map (Value.int .u8) A) := ⟨_, rfl⟩
 rw [← hcs] at hlenba honeba hiba ⊢
 have HCba : Hid (csba = (List.map (Value.int .u8) A)) := hcs
 clear hcs
 have hth := there_new V2 32 zb32 rfl 33
 have Aba : Hid (Ar ((V2.alloc (.cells zb32 33)).setCells V2.heap.size 0 csba) V2.heap.size 32 (List.map (Value.int .u8) A)) := by rw [← HCba.out]; exact ar_var _ _ 32 rfl _ _ hlenba
 have hX : Below V2.heap.size V2 ((V2.alloc (.cells zb32 33)).setCells V2.heap.size 0 csba) := bel_var _ _ _ _
 go_upto_region 5 with (refine wpList_store_mid rfl 33 (.tmp 8) (.tmp 22) rfl V2.heap.size 0 csba.toArray rfl rfl (by simpa [hlenba] using hth) (by simpa using hiba) (all_oneCell_toArray honeba) ?_)
 clear hth honeba hlenba
 obtain ⟨W2, hnew⟩ : ∃ W, W = ((V2.alloc (.cells zb32 33)).setCells V2.heap.size 0 csba) := ⟨_, rfl⟩
 obtain ⟨ba, hblk⟩ : ∃ q, q = V2.heap.size := ⟨_, rfl⟩
 rw [← hnew] at Aba hX ⊢
 rw [← hblk] at Aba ⊢
 rw [HCba.out] at hiba
 clear hnew HCba
 replace HB := hidp (HB.out.trans (hX.mono HB.out.size))
 replace HRT := hidp (HRT.out.below hX)
 replace HG := hidp (HG.out.later HB.out)
 have HRA : Hid (Rd W2 (some ⟨ba, 0, none⟩) 32 32 A) := Aba.out.rd_all HAN.out.byt 32 (by decide)
 have HBX : Hid (Byt (A ++ [2])) := HAN.out.byt.app (byt5 _ (by decide))
 clear hX hblk
 refine wp_region_noPanic ?_
 refine wp_region_held_drew (S := Ext W2) (by kernel_rfl) (Ext.refl _).drew (fun hH => ?_)
 change wpAnyH _ _ _ _ _ _ #[false, false, false, false, false, false, false, false, false] _ _
 refine tk 0 ?_
 try simp only [Act.put, List.setIfInBounds_toArray, List.set_cons_zero, List.set_cons_succ]
 refine tk 2 ?_
 try simp only [Act.put, List.setIfInBounds_toArray, List.set_cons_zero, List.set_cons_succ]
 obtain ⟨y0, hy0⟩ : ∃ V, V = W2.drew := ⟨_, rfl⟩
 rw [← hy0] at hH ⊢
 clear hy0
 revert hH
 apply cut8 (F := fun u _ _ _ _ _ _ S bw => Hid (Ext W2 u) ∧ Hid (u.there bw 0 32) ∧ W2.heap.size ≤ bw ∧ Hid (S = hm8 T (A ++ [2])))
 case h =>
  intro hrest hH
  refine wpAnyH_ready (rs := [1, 4, 7]) (by kernel_rfl) (by simp) ?_
  refine AllReadyH.cons (o := ?on1) ?hn1 (fun K hK => ?sn1) (AllReadyH.cons (o := ?on2) ?hn2 (fun K hK => ?sn2) (AllReadyH.cons (o := ?on3) ?hn3 (fun K hK => ?sn3) AllReadyH.nil))
  case hn1 => simp only [List.getElem?_toArray]; rfl
  case hn2 => simp only [List.getElem?_toArray]; rfl
  case hn3 => simp only [List.getElem?_toArray]; rfl
  case sn1 =>
   go_simp
   have hb := bel1 y0 (.cells #[] 5)
   have hLw : W2.heap.size ≤ y0.heap.size := hH.size
   have OL : Hid ((y0.alloc (.cells #[] 5)).ownsRow W2.heap.size 5 1 (.slice (some ⟨y0.heap.size, 0, none⟩) 0 0) 0 (List.map (Value.int .u8) [])) := World.ownsRow_made y0 #[] 0 hH.size (by decide) rfl
   refine hK.out _ _ (hH.trans hb) (fun hH' => ?_)
   clear hK K hH; have hH := hH'; clear hH'; try simp only [List.setIfInBounds_toArray, List.set]
   obtain ⟨x5, hnew⟩ : ∃ v, v = (y0.alloc (.cells #[] 5)) := ⟨_, rfl⟩
   obtain ⟨g0, hbn⟩ : ∃ v, v = y0.heap.size := ⟨_, rfl⟩
   have hl_g0 : y0.heap.size < (y0.alloc (.cells #[] 5)).heap.size := by simp
   rw [← hnew] at hb hH OL hl_g0 ⊢
   rw [← hbn] at OL hl_g0 hLw ⊢
   have hw_g0 : W2.heap.size ≤ g0 := hLw
   clear hLw hbn hnew
   clear hb
   refine wpAnyH_ready (rs := [3, 4, 7]) (by kernel_rfl) (by simp) ?_
   refine AllReadyH.cons (o := ?on6) ?hn6 (fun K hK => ?sn6) (AllReadyH.cons (o := ?on7) ?hn7 (fun K hK => ?sn7) (AllReadyH.cons (o := ?on8) ?hn8 (fun K hK => ?sn8) AllReadyH.nil))
   case hn6 => simp only [List.getElem?_toArray]; rfl
   case hn7 => simp only [List.getElem?_toArray]; rfl
   case hn8 => simp only [List.getElem?_toArray]; rfl
   case sn6 =>
    obtain ⟨g1, c1, x10, hrun, hown, hE, hgg, hw_g1, hl_g1⟩ := app8 x5 W2.heap.size (.slice (some ⟨g0, 0, none⟩) 0 0) 0 [] (some ⟨ba, 0, none⟩) 32 32 A OL.out (HRA.out.below hH) (by decide) hH.size 28 g0 rfl (by decide)
    refine step_append_run rfl (.tmp 24) (.tmp 25) 28 rfl _ _ rfl rfl _ _ hrun ?_
    refine hK.out _ _ (hE.below hH hw_g0) (fun hH' => ?_)
    clear hK K hH; have hH := hH'; clear hH'; try simp only [List.setIfInBounds_toArray, List.set]
    have OA : Hid (x10.ownsRow W2.heap.size 5 1 (.slice (some ⟨g1, 0, none⟩) 32 c1) 32 (List.map (Value.int .u8) (A))) := by unfold Hid; simpa using hown
    clear hrun hown hE OL
    try simp only [Act.put, List.setIfInBounds_toArray, List.set_cons_zero, List.set_cons_succ]
    simp only [Nat.zero_add]
    refine wpAnyH_ready (rs := [4, 7]) (by kernel_rfl) (by simp) ?_
    refine AllReadyH.cons (o := ?on11) ?hn11 (fun K hK => ?sn11) (AllReadyH.cons (o := ?on12) ?hn12 (fun K hK => ?sn12) AllReadyH.nil)
    case hn11 => simp only [List.getElem?_toArray]; rfl
    case hn12 => simp only [List.getElem?_toArray]; rfl
    case sn11 =>
     go_simp
     have hb := bel1 x10 (.cells #[.int .u8 2] 5)
     have hLw : W2.heap.size ≤ x10.heap.size := hH.size
     have LX : Hid (Rd (x10.alloc (.cells #[.int .u8 2] 5)) (some ⟨x10.heap.size, 0, none⟩) 1 1 [2]) := rd_one x10 2 (by decide) 5
     refine hK.out _ _ (hH.trans hb) (fun hH' => ?_)
     clear hK K hH; have hH := hH'; clear hH'; try simp only [List.setIfInBounds_toArray, List.set]
     obtain ⟨x14, hnew⟩ : ∃ v, v = (x10.alloc (.cells #[.int .u8 2] 5)) := ⟨_, rfl⟩
     obtain ⟨lx, hbn⟩ : ∃ v, v = x10.heap.size := ⟨_, rfl⟩
     have hl_lx : x10.heap.size < (x10.alloc (.cells #[.int .u8 2] 5)).heap.size := by simp
     rw [← hnew] at hb hH LX hl_lx ⊢
     rw [← hbn] at LX hl_lx hLw ⊢
     have ne_g1_lx : g1 < lx := by omega
     have hw_lx : W2.heap.size ≤ lx := hLw
     clear hLw hbn hnew
     replace OA : Hid (x14.ownsRow W2.heap.size 5 1 (.slice (some ⟨g1, 0, none⟩) 32 c1) 32 (List.map (Value.int .u8) (A))) := owns_later OA.out hb
     replace hl_g1 : g1 < x14.heap.size := by have := hb.size; omega
     clear hb
     refine wpAnyH_ready (rs := [5, 7]) (by kernel_rfl) (by simp) ?_
     refine AllReadyH.cons (o := ?on15) ?hn15 (fun K hK => ?sn15) (AllReadyH.cons (o := ?on16) ?hn16 (fun K hK => ?sn16) AllReadyH.nil)
     case hn15 => simp only [List.getElem?_toArray]; rfl
     case hn16 => simp only [List.getElem?_toArray]; rfl
     case sn15 =>
      obtain ⟨g2, c2, x18, hrun, hown, hE, hgg, hw_g2, hl_g2⟩ := app8 x14 W2.heap.size (.slice (some ⟨g1, 0, none⟩) 32 c1) 32 (A) (some ⟨lx, 0, none⟩) 1 1 [2] OA.out LX.out (by decide) hH.size 28 g1 rfl (by decide)
      refine step_append_run rfl (.tmp 26) (.tmp 27) 28 rfl _ _ rfl rfl _ _ hrun ?_
      refine hK.out _ _ (hE.below hH hw_g1) (fun hH' => ?_)
      clear hK K hH; have hH := hH'; clear hH'; try simp only [List.setIfInBounds_toArray, List.set]
      have OB : Hid (Rd x18 (some ⟨g2, 0, none⟩) 33 c2 (A ++ [2])) := rd_own HBX.out hown
      clear hrun hown hE OA
      try simp only [Act.put, List.setIfInBounds_toArray, List.set_cons_zero, List.set_cons_succ]
      simp only [Nat.reduceAdd]
      refine wpAnyH_ready (rs := [6, 7]) (by kernel_rfl) (by simp) ?_
      refine AllReadyH.cons (o := ?on19) ?hn19 (fun K hK => ?sn19) (AllReadyH.cons (o := ?on20) ?hn20 (fun K hK => ?sn20) AllReadyH.nil)
      case hn19 => simp only [List.getElem?_toArray]; rfl
      case hn20 => simp only [List.getElem?_toArray]; rfl
      case sn19 =>
       go_simp
       refine (rhmac_c (some ⟨bt, 0, none⟩) 32 32 T (some ⟨g2, 0, none⟩) 33 c2 (A ++ [2]) _ (HRT.out.below hH) OB.out (HG.out.later hH) (by decide) (by decide)).mono ?_
       rintro e V22 ⟨S, rfl, HS, hb⟩
       refine hK.out _ _ (hH.trans hb) (fun hH' => ?_)
       clear hK K hH; have hH := hH'; clear hH'; try simp only [List.setIfInBounds_toArray, List.set]
       replace hl_g2 : True := trivial
       clear hb OB hl_g2
       refine rdy 7 (fun K hK => ?sn23)
       case sn23 =>
        go_simp
        have hb := bel1 V22 (.cells zb32 33)
        have hLw : W2.heap.size ≤ V22.heap.size := hH.size
        have DV : Hid ((V22.alloc (.cells zb32 33)).there V22.heap.size 0 32) := there_new V22 32 zb32 rfl 33
        refine hK.out _ _ (hH.trans hb) (fun hH' => ?_)
        clear hK K hH; have hH := hH'; clear hH'; try simp only [List.setIfInBounds_toArray, List.set]
        obtain ⟨x25, hnew⟩ : ∃ v, v = (V22.alloc (.cells zb32 33)) := ⟨_, rfl⟩
        obtain ⟨bw, hbn⟩ : ∃ v, v = V22.heap.size := ⟨_, rfl⟩
        have hl_bw : V22.heap.size < (V22.alloc (.cells zb32 33)).heap.size := by simp
        rw [← hnew] at hb hH DV hl_bw ⊢
        rw [← hbn] at DV hl_bw hLw ⊢
        have hw_bw : W2.heap.size ≤ bw := hLw
        clear hLw hbn hnew
        clear hb
        exact hrest x25 g0 g1 c1 lx g2 c2 S bw ⟨hH, DV, hw_bw, HS⟩
      case sn20 =>
       go_simp
       have hb := bel1 x18 (.cells zb32 33)
       have hLw : W2.heap.size ≤ x18.heap.size := hH.size
       have DV : Hid ((x18.alloc (.cells zb32 33)).there x18.heap.size 0 32) := there_new x18 32 zb32 rfl 33
       refine hK.out _ _ (hH.trans hb) (fun hH' => ?_)
       clear hK K hH; have hH := hH'; clear hH'; try simp only [List.setIfInBounds_toArray, List.set]
       obtain ⟨x27, hnew⟩ : ∃ v, v = (x18.alloc (.cells zb32 33)) := ⟨_, rfl⟩
       obtain ⟨bw, hbn⟩ : ∃ v, v = x18.heap.size := ⟨_, rfl⟩
       have hl_bw : x18.heap.size < (x18.alloc (.cells zb32 33)).heap.size := by simp
       rw [← hnew] at hb hH DV hl_bw ⊢
       rw [← hbn] at DV hl_bw hLw ⊢
       have ne_g2_bw : g2 < bw := by omega
       have hw_bw : W2.heap.size ≤ bw := hLw
       clear hLw hbn hnew
       replace OB := hidp (OB.out.below hb)
       replace hl_g2 : g2 < x27.heap.size := by have := hb.size; omega
       clear hb
       refine rdy 6 (fun K hK => ?sn28)
       case sn28 =>
        go_simp
        refine (rhmac_c (some ⟨bt, 0, none⟩) 32 32 T (some ⟨g2, 0, none⟩) 33 c2 (A ++ [2]) _ (HRT.out.below hH) OB.out (HG.out.later hH) (by decide) (by decide)).mono ?_
        rintro e V30 ⟨S, rfl, HS, hb⟩
        refine hK.out _ _ (hH.trans hb) (fun hH' => ?_)
        clear hK K hH; have hH := hH'; clear hH'; try simp only [List.setIfInBounds_toArray, List.set]
        replace hl_g2 : True := trivial
        replace DV : Hid (V30.there bw 0 32) := there_later hb DV.out
        replace hl_bw : bw < V30.heap.size := by have := hb.size; omega
        clear hb OB hl_g2
        exact hrest V30 g0 g1 c1 lx g2 c2 S bw ⟨hH, DV, hw_bw, HS⟩
     case sn16 =>
      go_simp
      have hb := bel1 x14 (.cells zb32 33)
      have hLw : W2.heap.size ≤ x14.heap.size := hH.size
      have DV : Hid ((x14.alloc (.cells zb32 33)).there x14.heap.size 0 32) := there_new x14 32 zb32 rfl 33
      refine hK.out _ _ (hH.trans hb) (fun hH' => ?_)
      clear hK K hH; have hH := hH'; clear hH'; try simp only [List.setIfInBounds_toArray, List.set]
      obtain ⟨x32, hnew⟩ : ∃ v, v = (x14.alloc (.cells zb32 33)) := ⟨_, rfl⟩
      obtain ⟨bw, hbn⟩ : ∃ v, v = x14.heap.size := ⟨_, rfl⟩
      have hl_bw : x14.heap.size < (x14.alloc (.cells zb32 33)).heap.size := by simp
      rw [← hnew] at hb hH DV hl_bw ⊢
      rw [← hbn] at DV hl_bw hLw ⊢
      have ne_g1_bw : g1 < bw := by omega
      have ne_lx_bw : lx < bw := by omega
      have hw_bw : W2.heap.size ≤ bw := hLw
      clear hLw hbn hnew
      replace OA : Hid (x32.ownsRow W2.heap.size 5 1 (.slice (some ⟨g1, 0, none⟩) 32 c1) 32 (List.map (Value.int .u8) (A))) := owns_later OA.out hb
      replace LX := hidp (LX.out.below hb)
      replace hl_g1 : g1 < x32.heap.size := by have := hb.size; omega
      replace hl_lx : lx < x32.heap.size := by have := hb.size; omega
      clear hb
      refine rdy 5 (fun K hK => ?sn33)
      case sn33 =>
       obtain ⟨g2, c2, x35, hrun, hown, hE, hgg, hw_g2, hl_g2⟩ := app8 x32 W2.heap.size (.slice (some ⟨g1, 0, none⟩) 32 c1) 32 (A) (some ⟨lx, 0, none⟩) 1 1 [2] OA.out LX.out (by decide) hH.size 28 g1 rfl (by decide)
       refine step_append_run rfl (.tmp 26) (.tmp 27) 28 rfl _ _ rfl rfl _ _ hrun ?_
       refine hK.out _ _ (hE.below hH hw_g1) (fun hH' => ?_)
       clear hK K hH; have hH := hH'; clear hH'; try simp only [List.setIfInBounds_toArray, List.set]
       have OB : Hid (Rd x35 (some ⟨g2, 0, none⟩) 33 c2 (A ++ [2])) := rd_own HBX.out hown
       have ne2_bw_g2 : bw ≠ g2 := by omega
       have ne3_bw_g1 : bw ≠ g1 := by omega
       replace DV : Hid (x35.there bw 0 32) := there_extb hE (by omega) DV.out
       replace hl_bw : bw < x35.heap.size := by have := hE.size; omega
       clear hrun hown hE OA
       try simp only [Act.put, List.setIfInBounds_toArray, List.set_cons_zero, List.set_cons_succ]
       simp only [Nat.reduceAdd]
       refine rdy 6 (fun K hK => ?sn36)
       case sn36 =>
        go_simp
        refine (rhmac_c (some ⟨bt, 0, none⟩) 32 32 T (some ⟨g2, 0, none⟩) 33 c2 (A ++ [2]) _ (HRT.out.below hH) OB.out (HG.out.later hH) (by decide) (by decide)).mono ?_
        rintro e V38 ⟨S, rfl, HS, hb⟩
        refine hK.out _ _ (hH.trans hb) (fun hH' => ?_)
        clear hK K hH; have hH := hH'; clear hH'; try simp only [List.setIfInBounds_toArray, List.set]
        replace hl_g2 : True := trivial
        replace DV : Hid (V38.there bw 0 32) := there_later hb DV.out
        replace hl_bw : bw < V38.heap.size := by have := hb.size; omega
        clear hb OB hl_g2
        exact hrest V38 g0 g1 c1 lx g2 c2 S bw ⟨hH, DV, hw_bw, HS⟩
    case sn12 =>
     go_simp
     have hb := bel1 x10 (.cells zb32 33)
     have hLw : W2.heap.size ≤ x10.heap.size := hH.size
     have DV : Hid ((x10.alloc (.cells zb32 33)).there x10.heap.size 0 32) := there_new x10 32 zb32 rfl 33
     refine hK.out _ _ (hH.trans hb) (fun hH' => ?_)
     clear hK K hH; have hH := hH'; clear hH'; try simp only [List.setIfInBounds_toArray, List.set]
     obtain ⟨x40, hnew⟩ : ∃ v, v = (x10.alloc (.cells zb32 33)) := ⟨_, rfl⟩
     obtain ⟨bw, hbn⟩ : ∃ v, v = x10.heap.size := ⟨_, rfl⟩
     have hl_bw : x10.heap.size < (x10.alloc (.cells zb32 33)).heap.size := by simp
     rw [← hnew] at hb hH DV hl_bw ⊢
     rw [← hbn] at DV hl_bw hLw ⊢
     have ne_g1_bw : g1 < bw := by omega
     have hw_bw : W2.heap.size ≤ bw := hLw
     clear hLw hbn hnew
     replace OA : Hid (x40.ownsRow W2.heap.size 5 1 (.slice (some ⟨g1, 0, none⟩) 32 c1) 32 (List.map (Value.int .u8) (A))) := owns_later OA.out hb
     replace hl_g1 : g1 < x40.heap.size := by have := hb.size; omega
     clear hb
     refine rdy 4 (fun K hK => ?sn41)
     case sn41 =>
      go_simp
      have hb := bel1 x40 (.cells #[.int .u8 2] 5)
      have hLw : W2.heap.size ≤ x40.heap.size := hH.size
      have LX : Hid (Rd (x40.alloc (.cells #[.int .u8 2] 5)) (some ⟨x40.heap.size, 0, none⟩) 1 1 [2]) := rd_one x40 2 (by decide) 5
      refine hK.out _ _ (hH.trans hb) (fun hH' => ?_)
      clear hK K hH; have hH := hH'; clear hH'; try simp only [List.setIfInBounds_toArray, List.set]
      obtain ⟨x43, hnew⟩ : ∃ v, v = (x40.alloc (.cells #[.int .u8 2] 5)) := ⟨_, rfl⟩
      obtain ⟨lx, hbn⟩ : ∃ v, v = x40.heap.size := ⟨_, rfl⟩
      have hl_lx : x40.heap.size < (x40.alloc (.cells #[.int .u8 2] 5)).heap.size := by simp
      rw [← hnew] at hb hH LX hl_lx ⊢
      rw [← hbn] at LX hl_lx hLw ⊢
      have ne_g1_lx : g1 < lx := by omega
      have ne_bw_lx : bw < lx := by omega
      have hw_lx : W2.heap.size ≤ lx := hLw
      clear hLw hbn hnew
      replace OA : Hid (x43.ownsRow W2.heap.size 5 1 (.slice (some ⟨g1, 0, none⟩) 32 c1) 32 (List.map (Value.int .u8) (A))) := owns_later OA.out hb
      replace DV : Hid (x43.there bw 0 32) := there_later hb DV.out
      replace hl_g1 : g1 < x43.heap.size := by have := hb.size; omega
      replace hl_bw : bw < x43.heap.size := by have := hb.size; omega
      clear hb
      refine rdy 5 (fun K hK => ?sn44)
      case sn44 =>
       obtain ⟨g2, c2, x46, hrun, hown, hE, hgg, hw_g2, hl_g2⟩ := app8 x43 W2.heap.size (.slice (some ⟨g1, 0, none⟩) 32 c1) 32 (A) (some ⟨lx, 0, none⟩) 1 1 [2] OA.out LX.out (by decide) hH.size 28 g1 rfl (by decide)
       refine step_append_run rfl (.tmp 26) (.tmp 27) 28 rfl _ _ rfl rfl _ _ hrun ?_
       refine hK.out _ _ (hE.below hH hw_g1) (fun hH' => ?_)
       clear hK K hH; have hH := hH'; clear hH'; try simp only [List.setIfInBounds_toArray, List.set]
       have OB : Hid (Rd x46 (some ⟨g2, 0, none⟩) 33 c2 (A ++ [2])) := rd_own HBX.out hown
       have ne2_bw_g2 : bw ≠ g2 := by omega
       have ne3_bw_g1 : bw ≠ g1 := by omega
       replace DV : Hid (x46.there bw 0 32) := there_extb hE (by omega) DV.out
       replace hl_bw : bw < x46.heap.size := by have := hE.size; omega
       clear hrun hown hE OA
       try simp only [Act.put, List.setIfInBounds_toArray, List.set_cons_zero, List.set_cons_succ]
       simp only [Nat.reduceAdd]
       refine rdy 6 (fun K hK => ?sn47)
       case sn47 =>
        go_simp
        refine (rhmac_c (some ⟨bt, 0, none⟩) 32 32 T (some ⟨g2, 0, none⟩) 33 c2 (A ++ [2]) _ (HRT.out.below hH) OB.out (HG.out.later hH) (by decide) (by decide)).mono ?_
        rintro e V49 ⟨S, rfl, HS, hb⟩
        refine hK.out _ _ (hH.trans hb) (fun hH' => ?_)
        clear hK K hH; have hH := hH'; clear hH'; try simp only [List.setIfInBounds_toArray, List.set]
        replace hl_g2 : True := trivial
        replace DV : Hid (V49.there bw 0 32) := there_later hb DV.out
        replace hl_bw : bw < V49.heap.size := by have := hb.size; omega
        clear hb OB hl_g2
        exact hrest V49 g0 g1 c1 lx g2 c2 S bw ⟨hH, DV, hw_bw, HS⟩
   case sn7 =>
    go_simp
    have hb := bel1 x5 (.cells #[.int .u8 2] 5)
    have hLw : W2.heap.size ≤ x5.heap.size := hH.size
    have LX : Hid (Rd (x5.alloc (.cells #[.int .u8 2] 5)) (some ⟨x5.heap.size, 0, none⟩) 1 1 [2]) := rd_one x5 2 (by decide) 5
    refine hK.out _ _ (hH.trans hb) (fun hH' => ?_)
    clear hK K hH; have hH := hH'; clear hH'; try simp only [List.setIfInBounds_toArray, List.set]
    obtain ⟨x51, hnew⟩ : ∃ v, v = (x5.alloc (.cells #[.int .u8 2] 5)) := ⟨_, rfl⟩
    obtain ⟨lx, hbn⟩ : ∃ v, v = x5.heap.size := ⟨_, rfl⟩
    have hl_lx : x5.heap.size < (x5.alloc (.cells #[.int .u8 2] 5)).heap.size := by simp
    rw [← hnew] at hb hH LX hl_lx ⊢
    rw [← hbn] at LX hl_lx hLw ⊢
    have ne_g0_lx : g0 < lx := by omega
    have hw_lx : W2.heap.size ≤ lx := hLw
    clear hLw hbn hnew
    replace OL : Hid (x51.ownsRow W2.heap.size 5 1 (.slice (some ⟨g0, 0, none⟩) 0 0) 0 (List.map (Value.int .u8) [])) := owns_later OL.out hb
    replace hl_g0 : g0 < x51.heap.size := by have := hb.size; omega
    clear hb
    refine wpAnyH_ready (rs := [3, 7]) (by kernel_rfl) (by simp) ?_
    refine AllReadyH.cons (o := ?on52) ?hn52 (fun K hK => ?sn52) (AllReadyH.cons (o := ?on53) ?hn53 (fun K hK => ?sn53) AllReadyH.nil)
    case hn52 => simp only [List.getElem?_toArray]; rfl
    case hn53 => simp only [List.getElem?_toArray]; rfl
    case sn52 =>
     obtain ⟨g1, c1, x55, hrun, hown, hE, hgg, hw_g1, hl_g1⟩ := app8 x51 W2.heap.size (.slice (some ⟨g0, 0, none⟩) 0 0) 0 [] (some ⟨ba, 0, none⟩) 32 32 A OL.out (HRA.out.below hH) (by decide) hH.size 28 g0 rfl (by decide)
     refine step_append_run rfl (.tmp 24) (.tmp 25) 28 rfl _ _ rfl rfl _ _ hrun ?_
     refine hK.out _ _ (hE.below hH hw_g0) (fun hH' => ?_)
     clear hK K hH; have hH := hH'; clear hH'; try simp only [List.setIfInBounds_toArray, List.set]
     have OA : Hid (x55.ownsRow W2.heap.size 5 1 (.slice (some ⟨g1, 0, none⟩) 32 c1) 32 (List.map (Value.int .u8) (A))) := by unfold Hid; simpa using hown
     have ne2_lx_g1 : lx ≠ g1 := by omega
     have ne3_lx_g0 : lx ≠ g0 := by omega
     replace LX : Hid (Rd x55 (some ⟨lx, 0, none⟩) 1 1 [2]) := LX.out.extb hE (by omega)
     replace hl_lx : lx < x55.heap.size := by have := hE.size; omega
     clear hrun hown hE OL
     try simp only [Act.put, List.setIfInBounds_toArray, List.set_cons_zero, List.set_cons_succ]
     simp only [Nat.zero_add]
     refine wpAnyH_ready (rs := [5, 7]) (by kernel_rfl) (by simp) ?_
     refine AllReadyH.cons (o := ?on56) ?hn56 (fun K hK => ?sn56) (AllReadyH.cons (o := ?on57) ?hn57 (fun K hK => ?sn57) AllReadyH.nil)
     case hn56 => simp only [List.getElem?_toArray]; rfl
     case hn57 => simp only [List.getElem?_toArray]; rfl
     case sn56 =>
      obtain ⟨g2, c2, x59, hrun, hown, hE, hgg, hw_g2, hl_g2⟩ := app8 x55 W2.heap.size (.slice (some ⟨g1, 0, none⟩) 32 c1) 32 (A) (some ⟨lx, 0, none⟩) 1 1 [2] OA.out LX.out (by decide) hH.size 28 g1 rfl (by decide)
      refine step_append_run rfl (.tmp 26) (.tmp 27) 28 rfl _ _ rfl rfl _ _ hrun ?_
      refine hK.out _ _ (hE.below hH hw_g1) (fun hH' => ?_)
      clear hK K hH; have hH := hH'; clear hH'; try simp only [List.setIfInBounds_toArray, List.set]
      have OB : Hid (Rd x59 (some ⟨g2, 0, none⟩) 33 c2 (A ++ [2])) := rd_own HBX.out hown
      clear hrun hown hE OA
      try simp only [Act.put, List.setIfInBounds_toArray, List.set_cons_zero, List.set_cons_succ]
      simp only [Nat.reduceAdd]
      refine wpAnyH_ready (rs := [6, 7]) (by kernel_rfl) (by simp) ?_
      refine AllReadyH.cons (o := ?on60) ?hn60 (fun K hK => ?sn60) (AllReadyH.cons (o := ?on61) ?hn61 (fun K hK => ?sn61) AllReadyH.nil)
      case hn60 => simp only [List.getElem?_toArray]; rfl
      case hn61 => simp only [List.getElem?_toArray]; rfl
      case sn60 =>
       go_simp
       refine (rhmac_c (some ⟨bt, 0, none⟩) 32 32 T (some ⟨g2, 0, none⟩) 33 c2 (A ++ [2]) _ (HRT.out.below hH) OB.out (HG.out.later hH) (by decide) (by decide)).mono ?_
       rintro e V63 ⟨S, rfl, HS, hb⟩
       refine hK.out _ _ (hH.trans hb) (fun hH' => ?_)
       clear hK K hH; have hH := hH'; clear hH'; try simp only [List.setIfInBounds_toArray, List.set]
       replace hl_g2 : True := trivial
       clear hb OB hl_g2
       refine rdy 7 (fun K hK => ?sn64)
       case sn64 =>
        go_simp
        have hb := bel1 V63 (.cells zb32 33)
        have hLw : W2.heap.size ≤ V63.heap.size := hH.size
        have DV : Hid ((V63.alloc (.cells zb32 33)).there V63.heap.size 0 32) := there_new V63 32 zb32 rfl 33
        refine hK.out _ _ (hH.trans hb) (fun hH' => ?_)
        clear hK K hH; have hH := hH'; clear hH'; try simp only [List.setIfInBounds_toArray, List.set]
        obtain ⟨x66, hnew⟩ : ∃ v, v = (V63.alloc (.cells zb32 33)) := ⟨_, rfl⟩
        obtain ⟨bw, hbn⟩ : ∃ v, v = V63.heap.size := ⟨_, rfl⟩
        have hl_bw : V63.heap.size < (V63.alloc (.cells zb32 33)).heap.size := by simp
        rw [← hnew] at hb hH DV hl_bw ⊢
        rw [← hbn] at DV hl_bw hLw ⊢
        have hw_bw : W2.heap.size ≤ bw := hLw
        clear hLw hbn hnew
        clear hb
        exact hrest x66 g0 g1 c1 lx g2 c2 S bw ⟨hH, DV, hw_bw, HS⟩
      case sn61 =>
       go_simp
       have hb := bel1 x59 (.cells zb32 33)
       have hLw : W2.heap.size ≤ x59.heap.size := hH.size
       have DV : Hid ((x59.alloc (.cells zb32 33)).there x59.heap.size 0 32) := there_new x59 32 zb32 rfl 33
       refine hK.out _ _ (hH.trans hb) (fun hH' => ?_)
       clear hK K hH; have hH := hH'; clear hH'; try simp only [List.setIfInBounds_toArray, List.set]
       obtain ⟨x68, hnew⟩ : ∃ v, v = (x59.alloc (.cells zb32 33)) := ⟨_, rfl⟩
       obtain ⟨bw, hbn⟩ : ∃ v, v = x59.heap.size := ⟨_, rfl⟩
       have hl_bw : x59.heap.size < (x59.alloc (.cells zb32 33)).heap.size := by simp
       rw [← hnew] at hb hH DV hl_bw ⊢
       rw [← hbn] at DV hl_bw hLw ⊢
       have ne_g2_bw : g2 < bw := by omega
       have hw_bw : W2.heap.size ≤ bw := hLw
       clear hLw hbn hnew
       replace OB := hidp (OB.out.below hb)
       replace hl_g2 : g2 < x68.heap.size := by have := hb.size; omega
       clear hb
       refine rdy 6 (fun K hK => ?sn69)
       case sn69 =>
        go_simp
        refine (rhmac_c (some ⟨bt, 0, none⟩) 32 32 T (some ⟨g2, 0, none⟩) 33 c2 (A ++ [2]) _ (HRT.out.below hH) OB.out (HG.out.later hH) (by decide) (by decide)).mono ?_
        rintro e V71 ⟨S, rfl, HS, hb⟩
        refine hK.out _ _ (hH.trans hb) (fun hH' => ?_)
        clear hK K hH; have hH := hH'; clear hH'; try simp only [List.setIfInBounds_toArray, List.set]
        replace hl_g2 : True := trivial
        replace DV : Hid (V71.there bw 0 32) := there_later hb DV.out
        replace hl_bw : bw < V71.heap.size := by have := hb.size; omega
        clear hb OB hl_g2
        exact hrest V71 g0 g1 c1 lx g2 c2 S bw ⟨hH, DV, hw_bw, HS⟩
     case sn57 =>
      go_simp
      have hb := bel1 x55 (.cells zb32 33)
      have hLw : W2.heap.size ≤ x55.heap.size := hH.size
      have DV : Hid ((x55.alloc (.cells zb32 33)).there x55.heap.size 0 32) := there_new x55 32 zb32 rfl 33
      refine hK.out _ _ (hH.trans hb) (fun hH' => ?_)
      clear hK K hH; have hH := hH'; clear hH'; try simp only [List.setIfInBounds_toArray, List.set]
      obtain ⟨x73, hnew⟩ : ∃ v, v = (x55.alloc (.cells zb32 33)) := ⟨_, rfl⟩
      obtain ⟨bw, hbn⟩ : ∃ v, v = x55.heap.size := ⟨_, rfl⟩
      have hl_bw : x55.heap.size < (x55.alloc (.cells zb32 33)).heap.size := by simp
      rw [← hnew] at hb hH DV hl_bw ⊢
      rw [← hbn] at DV hl_bw hLw ⊢
      have ne_g1_bw : g1 < bw := by omega
      have ne_lx_bw : lx < bw := by omega
      have hw_bw : W2.heap.size ≤ bw := hLw
      clear hLw hbn hnew
      replace LX := hidp (LX.out.below hb)
      replace OA : Hid (x73.ownsRow W2.heap.size 5 1 (.slice (some ⟨g1, 0, none⟩) 32 c1) 32 (List.map (Value.int .u8) (A))) := owns_later OA.out hb
      replace hl_g1 : g1 < x73.heap.size := by have := hb.size; omega
      replace hl_lx : lx < x73.heap.size := by have := hb.size; omega
      clear hb
      refine rdy 5 (fun K hK => ?sn74)
      case sn74 =>
       obtain ⟨g2, c2, x76, hrun, hown, hE, hgg, hw_g2, hl_g2⟩ := app8 x73 W2.heap.size (.slice (some ⟨g1, 0, none⟩) 32 c1) 32 (A) (some ⟨lx, 0, none⟩) 1 1 [2] OA.out LX.out (by decide) hH.size 28 g1 rfl (by decide)
       refine step_append_run rfl (.tmp 26) (.tmp 27) 28 rfl _ _ rfl rfl _ _ hrun ?_
       refine hK.out _ _ (hE.below hH hw_g1) (fun hH' => ?_)
       clear hK K hH; have hH := hH'; clear hH'; try simp only [List.setIfInBounds_toArray, List.set]
       have OB : Hid (Rd x76 (some ⟨g2, 0, none⟩) 33 c2 (A ++ [2])) := rd_own HBX.out hown
       have ne2_bw_g2 : bw ≠ g2 := by omega
       have ne3_bw_g1 : bw ≠ g1 := by omega
       replace DV : Hid (x76.there bw 0 32) := there_extb hE (by omega) DV.out
       replace hl_bw : bw < x76.heap.size := by have := hE.size; omega
       clear hrun hown hE OA
       try simp only [Act.put, List.setIfInBounds_toArray, List.set_cons_zero, List.set_cons_succ]
       simp only [Nat.reduceAdd]
       refine rdy 6 (fun K hK => ?sn77)
       case sn77 =>
        go_simp
        refine (rhmac_c (some ⟨bt, 0, none⟩) 32 32 T (some ⟨g2, 0, none⟩) 33 c2 (A ++ [2]) _ (HRT.out.below hH) OB.out (HG.out.later hH) (by decide) (by decide)).mono ?_
        rintro e V79 ⟨S, rfl, HS, hb⟩
        refine hK.out _ _ (hH.trans hb) (fun hH' => ?_)
        clear hK K hH; have hH := hH'; clear hH'; try simp only [List.setIfInBounds_toArray, List.set]
        replace hl_g2 : True := trivial
        replace DV : Hid (V79.there bw 0 32) := there_later hb DV.out
        replace hl_bw : bw < V79.heap.size := by have := hb.size; omega
        clear hb OB hl_g2
        exact hrest V79 g0 g1 c1 lx g2 c2 S bw ⟨hH, DV, hw_bw, HS⟩
    case sn53 =>
     go_simp
     have hb := bel1 x51 (.cells zb32 33)
     have hLw : W2.heap.size ≤ x51.heap.size := hH.size
     have DV : Hid ((x51.alloc (.cells zb32 33)).there x51.heap.size 0 32) := there_new x51 32 zb32 rfl 33
     refine hK.out _ _ (hH.trans hb) (fun hH' => ?_)
     clear hK K hH; have hH := hH'; clear hH'; try simp only [List.setIfInBounds_toArray, List.set]
     obtain ⟨x81, hnew⟩ : ∃ v, v = (x51.alloc (.cells zb32 33)) := ⟨_, rfl⟩
     obtain ⟨bw, hbn⟩ : ∃ v, v = x51.heap.size := ⟨_, rfl⟩
     have hl_bw : x51.heap.size < (x51.alloc (.cells zb32 33)).heap.size := by simp
     rw [← hnew] at hb hH DV hl_bw ⊢
     rw [← hbn] at DV hl_bw hLw ⊢
     have ne_g0_bw : g0 < bw := by omega
     have ne_lx_bw : lx < bw := by omega
     have hw_bw : W2.heap.size ≤ bw := hLw
     clear hLw hbn hnew
     replace OL : Hid (x81.ownsRow W2.heap.size 5 1 (.slice (some ⟨g0, 0, none⟩) 0 0) 0 (List.map (Value.int .u8) [])) := owns_later OL.out hb
     replace LX := hidp (LX.out.below hb)
     replace hl_g0 : g0 < x81.heap.size := by have := hb.size; omega
     replace hl_lx : lx < x81.heap.size := by have := hb.size; omega
     clear hb
     refine rdy 3 (fun K hK => ?sn82)
     case sn82 =>
      obtain ⟨g1, c1, x84, hrun, hown, hE, hgg, hw_g1, hl_g1⟩ := app8 x81 W2.heap.size (.slice (some ⟨g0, 0, none⟩) 0 0) 0 [] (some ⟨ba, 0, none⟩) 32 32 A OL.out (HRA.out.below hH) (by decide) hH.size 28 g0 rfl (by decide)
      refine step_append_run rfl (.tmp 24) (.tmp 25) 28 rfl _ _ rfl rfl _ _ hrun ?_
      refine hK.out _ _ (hE.below hH hw_g0) (fun hH' => ?_)
      clear hK K hH; have hH := hH'; clear hH'; try simp only [List.setIfInBounds_toArray, List.set]
      have OA : Hid (x84.ownsRow W2.heap.size 5 1 (.slice (some ⟨g1, 0, none⟩) 32 c1) 32 (List.map (Value.int .u8) (A))) := by unfold Hid; simpa using hown
      have ne2_lx_g1 : lx ≠ g1 := by omega
      have ne3_lx_g0 : lx ≠ g0 := by omega
      have ne2_bw_g1 : bw ≠ g1 := by omega
      have ne3_bw_g0 : bw ≠ g0 := by omega
      replace LX : Hid (Rd x84 (some ⟨lx, 0, none⟩) 1 1 [2]) := LX.out.extb hE (by omega)
      replace DV : Hid (x84.there bw 0 32) := there_extb hE (by omega) DV.out
      replace hl_lx : lx < x84.heap.size := by have := hE.size; omega
      replace hl_bw : bw < x84.heap.size := by have := hE.size; omega
      clear hrun hown hE OL
      try simp only [Act.put, List.setIfInBounds_toArray, List.set_cons_zero, List.set_cons_succ]
      simp only [Nat.zero_add]
      refine rdy 5 (fun K hK => ?sn85)
      case sn85 =>
       obtain ⟨g2, c2, x87, hrun, hown, hE, hgg, hw_g2, hl_g2⟩ := app8 x84 W2.heap.size (.slice (some ⟨g1, 0, none⟩) 32 c1) 32 (A) (some ⟨lx, 0, none⟩) 1 1 [2] OA.out LX.out (by decide) hH.size 28 g1 rfl (by decide)
       refine step_append_run rfl (.tmp 26) (.tmp 27) 28 rfl _ _ rfl rfl _ _ hrun ?_
       refine hK.out _ _ (hE.below hH hw_g1) (fun hH' => ?_)
       clear hK K hH; have hH := hH'; clear hH'; try simp only [List.setIfInBounds_toArray, List.set]
       have OB : Hid (Rd x87 (some ⟨g2, 0, none⟩) 33 c2 (A ++ [2])) := rd_own HBX.out hown
       have ne2_bw_g2 : bw ≠ g2 := by omega
       have ne3_bw_g1 : bw ≠ g1 := by omega
       replace DV : Hid (x87.there bw 0 32) := there_extb hE (by omega) DV.out
       replace hl_bw : bw < x87.heap.size := by have := hE.size; omega
       clear hrun hown hE OA
       try simp only [Act.put, List.setIfInBounds_toArray, List.set_cons_zero, List.set_cons_succ]
       simp only [Nat.reduceAdd]
       refine rdy 6 (fun K hK => ?sn88)
       case sn88 =>
        go_simp
        refine (rhmac_c (some ⟨bt, 0, none⟩) 32 32 T (some ⟨g2, 0, none⟩) 33 c2 (A ++ [2]) _ (HRT.out.below hH) OB.out (HG.out.later hH) (by decide) (by decide)).mono ?_
        rintro e V90 ⟨S, rfl, HS, hb⟩
        refine hK.out _ _ (hH.trans hb) (fun hH' => ?_)
        clear hK K hH; have hH := hH'; clear hH'; try simp only [List.setIfInBounds_toArray, List.set]
        replace hl_g2 : True := trivial
        replace DV : Hid (V90.there bw 0 32) := there_later hb DV.out
        replace hl_bw : bw < V90.heap.size := by have := hb.size; omega
        clear hb OB hl_g2
        exact hrest V90 g0 g1 c1 lx g2 c2 S bw ⟨hH, DV, hw_bw, HS⟩
   case sn8 =>
    go_simp
    have hb := bel1 x5 (.cells zb32 33)
    have hLw : W2.heap.size ≤ x5.heap.size := hH.size
    have DV : Hid ((x5.alloc (.cells zb32 33)).there x5.heap.size 0 32) := there_new x5 32 zb32 rfl 33
    refine hK.out _ _ (hH.trans hb) (fun hH' => ?_)
    clear hK K hH; have hH := hH'; clear hH'; try simp only [List.setIfInBounds_toArray, List.set]
    obtain ⟨x92, hnew⟩ : ∃ v, v = (x5.alloc (.cells zb32 33)) := ⟨_, rfl⟩
    obtain ⟨bw, hbn⟩ : ∃ v, v = x5.heap.size := ⟨_, rfl⟩
    have hl_bw : x5.heap.size < (x5.alloc (.cells zb32 33)).heap.size := by simp
    rw [← hnew] at hb hH DV hl_bw ⊢
    rw [← hbn] at DV hl_bw hLw ⊢
    have ne_g0_bw : g0 < bw := by omega
    have hw_bw : W2.heap.size ≤ bw := hLw
    clear hLw hbn hnew
    replace OL : Hid (x92.ownsRow W2.heap.size 5 1 (.slice (some ⟨g0, 0, none⟩) 0 0) 0 (List.map (Value.int .u8) [])) := owns_later OL.out hb
    replace hl_g0 : g0 < x92.heap.size := by have := hb.size; omega
    clear hb
    refine wpAnyH_ready (rs := [3, 4]) (by kernel_rfl) (by simp) ?_
    refine AllReadyH.cons (o := ?on93) ?hn93 (fun K hK => ?sn93) (AllReadyH.cons (o := ?on94) ?hn94 (fun K hK => ?sn94) AllReadyH.nil)
    case hn93 => simp only [List.getElem?_toArray]; rfl
    case hn94 => simp only [List.getElem?_toArray]; rfl
    case sn93 =>
     obtain ⟨g1, c1, x96, hrun, hown, hE, hgg, hw_g1, hl_g1⟩ := app8 x92 W2.heap.size (.slice (some ⟨g0, 0, none⟩) 0 0) 0 [] (some ⟨ba, 0, none⟩) 32 32 A OL.out (HRA.out.below hH) (by decide) hH.size 28 g0 rfl (by decide)
     refine step_append_run rfl (.tmp 24) (.tmp 25) 28 rfl _ _ rfl rfl _ _ hrun ?_
     refine hK.out _ _ (hE.below hH hw_g0) (fun hH' => ?_)
     clear hK K hH; have hH := hH'; clear hH'; try simp only [List.setIfInBounds_toArray, List.set]
     have OA : Hid (x96.ownsRow W2.heap.size 5 1 (.slice (some ⟨g1, 0, none⟩) 32 c1) 32 (List.map (Value.int .u8) (A))) := by unfold Hid; simpa using hown
     have ne2_bw_g1 : bw ≠ g1 := by omega
     have ne3_bw_g0 : bw ≠ g0 := by omega
     replace DV : Hid (x96.there bw 0 32) := there_extb hE (by omega) DV.out
     replace hl_bw : bw < x96.heap.size := by have := hE.size; omega
     clear hrun hown hE OL
     try simp only [Act.put, List.setIfInBounds_toArray, List.set_cons_zero, List.set_cons_succ]
     simp only [Nat.zero_add]
     refine rdy 4 (fun K hK => ?sn97)
     case sn97 =>
      go_simp
      have hb := bel1 x96 (.cells #[.int .u8 2] 5)
      have hLw : W2.heap.size ≤ x96.heap.size := hH.size
      have LX : Hid (Rd (x96.alloc (.cells #[.int .u8 2] 5)) (some ⟨x96.heap.size, 0, none⟩) 1 1 [2]) := rd_one x96 2 (by decide) 5
      refine hK.out _ _ (hH.trans hb) (fun hH' => ?_)
      clear hK K hH; have hH := hH'; clear hH'; try simp only [List.setIfInBounds_toArray, List.set]
      obtain ⟨x99, hnew⟩ : ∃ v, v = (x96.alloc (.cells #[.int .u8 2] 5)) := ⟨_, rfl⟩
      obtain ⟨lx, hbn⟩ : ∃ v, v = x96.heap.size := ⟨_, rfl⟩
      have hl_lx : x96.heap.size < (x96.alloc (.cells #[.int .u8 2] 5)).heap.size := by simp
      rw [← hnew] at hb hH LX hl_lx ⊢
      rw [← hbn] at LX hl_lx hLw ⊢
      have ne_g1_lx : g1 < lx := by omega
      have ne_bw_lx : bw < lx := by omega
      have hw_lx : W2.heap.size ≤ lx := hLw
      clear hLw hbn hnew
      replace DV : Hid (x99.there bw 0 32) := there_later hb DV.out
      replace OA : Hid (x99.ownsRow W2.heap.size 5 1 (.slice (some ⟨g1, 0, none⟩) 32 c1) 32 (List.map (Value.int .u8) (A))) := owns_later OA.out hb
      replace hl_g1 : g1 < x99.heap.size := by have := hb.size; omega
      replace hl_bw : bw < x99.heap.size := by have := hb.size; omega
      clear hb
      refine rdy 5 (fun K hK => ?sn100)
      case sn100 =>
       obtain ⟨g2, c2, x102, hrun, hown, hE, hgg, hw_g2, hl_g2⟩ := app8 x99 W2.heap.size (.slice (some ⟨g1, 0, none⟩) 32 c1) 32 (A) (some ⟨lx, 0, none⟩) 1 1 [2] OA.out LX.out (by decide) hH.size 28 g1 rfl (by decide)
       refine step_append_run rfl (.tmp 26) (.tmp 27) 28 rfl _ _ rfl rfl _ _ hrun ?_
       refine hK.out _ _ (hE.below hH hw_g1) (fun hH' => ?_)
       clear hK K hH; have hH := hH'; clear hH'; try simp only [List.setIfInBounds_toArray, List.set]
       have OB : Hid (Rd x102 (some ⟨g2, 0, none⟩) 33 c2 (A ++ [2])) := rd_own HBX.out hown
       have ne2_bw_g2 : bw ≠ g2 := by omega
       have ne3_bw_g1 : bw ≠ g1 := by omega
       replace DV : Hid (x102.there bw 0 32) := there_extb hE (by omega) DV.out
       replace hl_bw : bw < x102.heap.size := by have := hE.size; omega
       clear hrun hown hE OA
       try simp only [Act.put, List.setIfInBounds_toArray, List.set_cons_zero, List.set_cons_succ]
       simp only [Nat.reduceAdd]
       refine rdy 6 (fun K hK => ?sn103)
       case sn103 =>
        go_simp
        refine (rhmac_c (some ⟨bt, 0, none⟩) 32 32 T (some ⟨g2, 0, none⟩) 33 c2 (A ++ [2]) _ (HRT.out.below hH) OB.out (HG.out.later hH) (by decide) (by decide)).mono ?_
        rintro e V105 ⟨S, rfl, HS, hb⟩
        refine hK.out _ _ (hH.trans hb) (fun hH' => ?_)
        clear hK K hH; have hH := hH'; clear hH'; try simp only [List.setIfInBounds_toArray, List.set]
        replace hl_g2 : True := trivial
        replace DV : Hid (V105.there bw 0 32) := there_later hb DV.out
        replace hl_bw : bw < V105.heap.size := by have := hb.size; omega
        clear hb OB hl_g2
        exact hrest V105 g0 g1 c1 lx g2 c2 S bw ⟨hH, DV, hw_bw, HS⟩
    case sn94 =>
     go_simp
     have hb := bel1 x92 (.cells #[.int .u8 2] 5)
     have hLw : W2.heap.size ≤ x92.heap.size := hH.size
     have LX : Hid (Rd (x92.alloc (.cells #[.int .u8 2] 5)) (some ⟨x92.heap.size, 0, none⟩) 1 1 [2]) := rd_one x92 2 (by decide) 5
     refine hK.out _ _ (hH.trans hb) (fun hH' => ?_)
     clear hK K hH; have hH := hH'; clear hH'; try simp only [List.setIfInBounds_toArray, List.set]
     obtain ⟨x107, hnew⟩ : ∃ v, v = (x92.alloc (.cells #[.int .u8 2] 5)) := ⟨_, rfl⟩
     obtain ⟨lx, hbn⟩ : ∃ v, v = x92.heap.size := ⟨_, rfl⟩
     have hl_lx : x92.heap.size < (x92.alloc (.cells #[.int .u8 2] 5)).heap.size := by simp
     rw [← hnew] at hb hH LX hl_lx ⊢
     rw [← hbn] at LX hl_lx hLw ⊢
     have ne_g0_lx : g0 < lx := by omega
     have ne_bw_lx : bw < lx := by omega
     have hw_lx : W2.heap.size ≤ lx := hLw
     clear hLw hbn hnew
     replace OL : Hid (x107.ownsRow W2.heap.size 5 1 (.slice (some ⟨g0, 0, none⟩) 0 0) 0 (List.map (Value.int .u8) [])) := owns_later OL.out hb
     replace DV : Hid (x107.there bw 0 32) := there_later hb DV.out
     replace hl_g0 : g0 < x107.heap.size := by have := hb.size; omega
     replace hl_bw : bw < x107.heap.size := by have := hb.size; omega
     clear hb
     refine rdy 3 (fun K hK => ?sn108)
     case sn108 =>
      obtain ⟨g1, c1, x110, hrun, hown, hE, hgg, hw_g1, hl_g1⟩ := app8 x107 W2.heap.size (.slice (some ⟨g0, 0, none⟩) 0 0) 0 [] (some ⟨ba, 0, none⟩) 32 32 A OL.out (HRA.out.below hH) (by decide) hH.size 28 g0 rfl (by decide)
      refine step_append_run rfl (.tmp 24) (.tmp 25) 28 rfl _ _ rfl rfl _ _ hrun ?_
      refine hK.out _ _ (hE.below hH hw_g0) (fun hH' => ?_)
      clear hK K hH; have hH := hH'; clear hH'; try simp only [List.setIfInBounds_toArray, List.set]
      have OA : Hid (x110.ownsRow W2.heap.size 5 1 (.slice (some ⟨g1, 0, none⟩) 32 c1) 32 (List.map (Value.int .u8) (A))) := by unfold Hid; simpa using hown
      have ne2_lx_g1 : lx ≠ g1 := by omega
      have ne3_lx_g0 : lx ≠ g0 := by omega
      have ne2_bw_g1 : bw ≠ g1 := by omega
      have ne3_bw_g0 : bw ≠ g0 := by omega
      replace DV : Hid (x110.there bw 0 32) := there_extb hE (by omega) DV.out
      replace LX : Hid (Rd x110 (some ⟨lx, 0, none⟩) 1 1 [2]) := LX.out.extb hE (by omega)
      replace hl_lx : lx < x110.heap.size := by have := hE.size; omega
      replace hl_bw : bw < x110.heap.size := by have := hE.size; omega
      clear hrun hown hE OL
      try simp only [Act.put, List.setIfInBounds_toArray, List.set_cons_zero, List.set_cons_succ]
      simp only [Nat.zero_add]
      refine rdy 5 (fun K hK => ?sn111)
      case sn111 =>
       obtain ⟨g2, c2, x113, hrun, hown, hE, hgg, hw_g2, hl_g2⟩ := app8 x110 W2.heap.size (.slice (some ⟨g1, 0, none⟩) 32 c1) 32 (A) (some ⟨lx, 0, none⟩) 1 1 [2] OA.out LX.out (by decide) hH.size 28 g1 rfl (by decide)
       refine step_append_run rfl (.tmp 26) (.tmp 27) 28 rfl _ _ rfl rfl _ _ hrun ?_
       refine hK.out _ _ (hE.below hH hw_g1) (fun hH' => ?_)
       clear hK K hH; have hH := hH'; clear hH'; try simp only [List.setIfInBounds_toArray, List.set]
       have OB : Hid (Rd x113 (some ⟨g2, 0, none⟩) 33 c2 (A ++ [2])) := rd_own HBX.out hown
       have ne2_bw_g2 : bw ≠ g2 := by omega
       have ne3_bw_g1 : bw ≠ g1 := by omega
       replace DV : Hid (x113.there bw 0 32) := there_extb hE (by omega) DV.out
       replace hl_bw : bw < x113.heap.size := by have := hE.size; omega
       clear hrun hown hE OA
       try simp only [Act.put, List.setIfInBounds_toArray, List.set_cons_zero, List.set_cons_succ]
       simp only [Nat.reduceAdd]
       refine rdy 6 (fun K hK => ?sn114)
       case sn114 =>
        go_simp
        refine (rhmac_c (some ⟨bt, 0, none⟩) 32 32 T (some ⟨g2, 0, none⟩) 33 c2 (A ++ [2]) _ (HRT.out.below hH) OB.out (HG.out.later hH) (by decide) (by decide)).mono ?_
        rintro e V116 ⟨S, rfl, HS, hb⟩
        refine hK.out _ _ (hH.trans hb) (fun hH' => ?_)
        clear hK K hH; have hH := hH'; clear hH'; try simp only [List.setIfInBounds_toArray, List.set]
        replace hl_g2 : True := trivial
        replace DV : Hid (V116.there bw 0 32) := there_later hb DV.out
        replace hl_bw : bw < V116.heap.size := by have := hb.size; omega
        clear hb OB hl_g2
        exact hrest V116 g0 g1 c1 lx g2 c2 S bw ⟨hH, DV, hw_bw, HS⟩
  case sn2 =>
   go_simp
   have hb := bel1 y0 (.cells #[.int .u8 2] 5)
   have hLw : W2.heap.size ≤ y0.heap.size := hH.size
   have LX : Hid (Rd (y0.alloc (.cells #[.int .u8 2] 5)) (some ⟨y0.heap.size, 0, none⟩) 1 1 [2]) := rd_one y0 2 (by decide) 5
   refine hK.out _ _ (hH.trans hb) (fun hH' => ?_)
   clear hK K hH; have hH := hH'; clear hH'; try simp only [List.setIfInBounds_toArray, List.set]
   obtain ⟨x118, hnew⟩ : ∃ v, v = (y0.alloc (.cells #[.int .u8 2] 5)) := ⟨_, rfl⟩
   obtain ⟨lx, hbn⟩ : ∃ v, v = y0.heap.size := ⟨_, rfl⟩
   have hl_lx : y0.heap.size < (y0.alloc (.cells #[.int .u8 2] 5)).heap.size := by simp
   rw [← hnew] at hb hH LX hl_lx ⊢
   rw [← hbn] at LX hl_lx hLw ⊢
   have hw_lx : W2.heap.size ≤ lx := hLw
   clear hLw hbn hnew
   clear hb
   refine wpAnyH_ready (rs := [1, 7]) (by kernel_rfl) (by simp) ?_
   refine AllReadyH.cons (o := ?on119) ?hn119 (fun K hK => ?sn119) (AllReadyH.cons (o := ?on120) ?hn120 (fun K hK => ?sn120) AllReadyH.nil)
   case hn119 => simp only [List.getElem?_toArray]; rfl
   case hn120 => simp only [List.getElem?_toArray]; rfl
   case sn119 =>
    go_simp
    have hb := bel1 x118 (.cells #[] 5)
    have hLw : W2.heap.size ≤ x118.heap.size := hH.size
    have OL : Hid ((x118.alloc (.cells #[] 5)).ownsRow W2.heap.size 5 1 (.slice (some ⟨x118.heap.size, 0, none⟩) 0 0) 0 (List.map (Value.int .u8) [])) := World.ownsRow_made x118 #[] 0 hH.size (by decide) rfl
    refine hK.out _ _ (hH.trans hb) (fun hH' => ?_)
    clear hK K hH; have hH := hH'; clear hH'; try simp only [List.setIfInBounds_toArray, List.set]
    obtain ⟨x122, hnew⟩ : ∃ v, v = (x118.alloc (.cells #[] 5)) := ⟨_, rfl⟩
    obtain ⟨g0, hbn⟩ : ∃ v, v = x118.heap.size := ⟨_, rfl⟩
    have hl_g0 : x118.heap.size < (x118.alloc (.cells #[] 5)).heap.size := by simp
    rw [← hnew] at hb hH OL hl_g0 ⊢
    rw [← hbn] at OL hl_g0 hLw ⊢
    have ne_lx_g0 : lx < g0 := by omega
    have hw_g0 : W2.heap.size ≤ g0 := hLw
    clear hLw hbn hnew
    replace LX := hidp (LX.out.below hb)
    replace hl_lx : lx < x122.heap.size := by have := hb.size; omega
    clear hb
    refine wpAnyH_ready (rs := [3, 7]) (by kernel_rfl) (by simp) ?_
    refine AllReadyH.cons (o := ?on123) ?hn123 (fun K hK => ?sn123) (AllReadyH.cons (o := ?on124) ?hn124 (fun K hK => ?sn124) AllReadyH.nil)
    case hn123 => simp only [List.getElem?_toArray]; rfl
    case hn124 => simp only [List.getElem?_toArray]; rfl
    case sn123 =>
     obtain ⟨g1, c1, x126, hrun, hown, hE, hgg, hw_g1, hl_g1⟩ := app8 x122 W2.heap.size (.slice (some ⟨g0, 0, none⟩) 0 0) 0 [] (some ⟨ba, 0, none⟩) 32 32 A OL.out (HRA.out.below hH) (by decide) hH.size 28 g0 rfl (by decide)
     refine step_append_run rfl (.tmp 24) (.tmp 25) 28 rfl _ _ rfl rfl _ _ hrun ?_
     refine hK.out _ _ (hE.below hH hw_g0) (fun hH' => ?_)
     clear hK K hH; have hH := hH'; clear hH'; try simp only [List.setIfInBounds_toArray, List.set]
     have OA : Hid (x126.ownsRow W2.heap.size 5 1 (.slice (some ⟨g1, 0, none⟩) 32 c1) 32 (List.map (Value.int .u8) (A))) := by unfold Hid; simpa using hown
     have ne2_lx_g1 : lx ≠ g1 := by omega
     have ne3_lx_g0 : lx ≠ g0 := by omega
     replace LX : Hid (Rd x126 (some ⟨lx, 0, none⟩) 1 1 [2]) := LX.out.extb hE (by omega)
     replace hl_lx : lx < x126.heap.size := by have := hE.size; omega
     clear hrun hown hE OL
     try simp only [Act.put, List.setIfInBounds_toArray, List.set_cons_zero, List.set_cons_succ]
     simp only [Nat.zero_add]
     refine wpAnyH_ready (rs := [5, 7]) (by kernel_rfl) (by simp) ?_
     refine AllReadyH.cons (o := ?on127) ?hn127 (fun K hK => ?sn127) (AllReadyH.cons (o := ?on128) ?hn128 (fun K hK => ?sn128) AllReadyH.nil)
     case hn127 => simp only [List.getElem?_toArray]; rfl
     case hn128 => simp only [List.getElem?_toArray]; rfl
     case sn127 =>
      obtain ⟨g2, c2, x130, hrun, hown, hE, hgg, hw_g2, hl_g2⟩ := app8 x126 W2.heap.size (.slice (some ⟨g1, 0, none⟩) 32 c1) 32 (A) (some ⟨lx, 0, none⟩) 1 1 [2] OA.out LX.out (by decide) hH.size 28 g1 rfl (by decide)
      refine step_append_run rfl (.tmp 26) (.tmp 27) 28 rfl _ _ rfl rfl _ _ hrun ?_
      refine hK.out _ _ (hE.below hH hw_g1) (fun hH' => ?_)
      clear hK K hH; have hH := hH'; clear hH'; try simp only [List.setIfInBounds_toArray, List.set]
      have OB : Hid (Rd x130 (some ⟨g2, 0, none⟩) 33 c2 (A ++ [2])) := rd_own HBX.out hown
      clear hrun hown hE OA
      try simp only [Act.put, List.setIfInBounds_toArray, List.set_cons_zero, List.set_cons_succ]
      simp only [Nat.reduceAdd]
      refine wpAnyH_ready (rs := [6, 7]) (by kernel_rfl) (by simp) ?_
      refine AllReadyH.cons (o := ?on131) ?hn131 (fun K hK => ?sn131) (AllReadyH.cons (o := ?on132) ?hn132 (fun K hK => ?sn132) AllReadyH.nil)
      case hn131 => simp only [List.getElem?_toArray]; rfl
      case hn132 => simp only [List.getElem?_toArray]; rfl
      case sn131 =>
       go_simp
       refine (rhmac_c (some ⟨bt, 0, none⟩) 32 32 T (some ⟨g2, 0, none⟩) 33 c2 (A ++ [2]) _ (HRT.out.below hH) OB.out (HG.out.later hH) (by decide) (by decide)).mono ?_
       rintro e V134 ⟨S, rfl, HS, hb⟩
       refine hK.out _ _ (hH.trans hb) (fun hH' => ?_)
       clear hK K hH; have hH := hH'; clear hH'; try simp only [List.setIfInBounds_toArray, List.set]
       replace hl_g2 : True := trivial
       clear hb OB hl_g2
       refine rdy 7 (fun K hK => ?sn135)
       case sn135 =>
        go_simp
        have hb := bel1 V134 (.cells zb32 33)
        have hLw : W2.heap.size ≤ V134.heap.size := hH.size
        have DV : Hid ((V134.alloc (.cells zb32 33)).there V134.heap.size 0 32) := there_new V134 32 zb32 rfl 33
        refine hK.out _ _ (hH.trans hb) (fun hH' => ?_)
        clear hK K hH; have hH := hH'; clear hH'; try simp only [List.setIfInBounds_toArray, List.set]
        obtain ⟨x137, hnew⟩ : ∃ v, v = (V134.alloc (.cells zb32 33)) := ⟨_, rfl⟩
        obtain ⟨bw, hbn⟩ : ∃ v, v = V134.heap.size := ⟨_, rfl⟩
        have hl_bw : V134.heap.size < (V134.alloc (.cells zb32 33)).heap.size := by simp
        rw [← hnew] at hb hH DV hl_bw ⊢
        rw [← hbn] at DV hl_bw hLw ⊢
        have hw_bw : W2.heap.size ≤ bw := hLw
        clear hLw hbn hnew
        clear hb
        exact hrest x137 g0 g1 c1 lx g2 c2 S bw ⟨hH, DV, hw_bw, HS⟩
      case sn132 =>
       go_simp
       have hb := bel1 x130 (.cells zb32 33)
       have hLw : W2.heap.size ≤ x130.heap.size := hH.size
       have DV : Hid ((x130.alloc (.cells zb32 33)).there x130.heap.size 0 32) := there_new x130 32 zb32 rfl 33
       refine hK.out _ _ (hH.trans hb) (fun hH' => ?_)
       clear hK K hH; have hH := hH'; clear hH'; try simp only [List.setIfInBounds_toArray, List.set]
       obtain ⟨x139, hnew⟩ : ∃ v, v = (x130.alloc (.cells zb32 33)) := ⟨_, rfl⟩
       obtain ⟨bw, hbn⟩ : ∃ v, v = x130.heap.size := ⟨_, rfl⟩
       have hl_bw : x130.heap.size < (x130.alloc (.cells zb32 33)).heap.size := by simp
       rw [← hnew] at hb hH DV hl_bw ⊢
       rw [← hbn] at DV hl_bw hLw ⊢
       have ne_g2_bw : g2 < bw := by omega
       have hw_bw : W2.heap.size ≤ bw := hLw
       clear hLw hbn hnew
       replace OB := hidp (OB.out.below hb)
       replace hl_g2 : g2 < x139.heap.size := by have := hb.size; omega
       clear hb
       refine rdy 6 (fun K hK => ?sn140)
       case sn140 =>
        go_simp
        refine (rhmac_c (some ⟨bt, 0, none⟩) 32 32 T (some ⟨g2, 0, none⟩) 33 c2 (A ++ [2]) _ (HRT.out.below hH) OB.out (HG.out.later hH) (by decide) (by decide)).mono ?_
        rintro e V142 ⟨S, rfl, HS, hb⟩
        refine hK.out _ _ (hH.trans hb) (fun hH' => ?_)
        clear hK K hH; have hH := hH'; clear hH'; try simp only [List.setIfInBounds_toArray, List.set]
        replace hl_g2 : True := trivial
        replace DV : Hid (V142.there bw 0 32) := there_later hb DV.out
        replace hl_bw : bw < V142.heap.size := by have := hb.size; omega
        clear hb OB hl_g2
        exact hrest V142 g0 g1 c1 lx g2 c2 S bw ⟨hH, DV, hw_bw, HS⟩
     case sn128 =>
      go_simp
      have hb := bel1 x126 (.cells zb32 33)
      have hLw : W2.heap.size ≤ x126.heap.size := hH.size
      have DV : Hid ((x126.alloc (.cells zb32 33)).there x126.heap.size 0 32) := there_new x126 32 zb32 rfl 33
      refine hK.out _ _ (hH.trans hb) (fun hH' => ?_)
      clear hK K hH; have hH := hH'; clear hH'; try simp only [List.setIfInBounds_toArray, List.set]
      obtain ⟨x144, hnew⟩ : ∃ v, v = (x126.alloc (.cells zb32 33)) := ⟨_, rfl⟩
      obtain ⟨bw, hbn⟩ : ∃ v, v = x126.heap.size := ⟨_, rfl⟩
      have hl_bw : x126.heap.size < (x126.alloc (.cells zb32 33)).heap.size := by simp
      rw [← hnew] at hb hH DV hl_bw ⊢
      rw [← hbn] at DV hl_bw hLw ⊢
      have ne_g1_bw : g1 < bw := by omega
      have ne_lx_bw : lx < bw := by omega
      have hw_bw : W2.heap.size ≤ bw := hLw
      clear hLw hbn hnew
      replace LX := hidp (LX.out.below hb)
      replace OA : Hid (x144.ownsRow W2.heap.size 5 1 (.slice (some ⟨g1, 0, none⟩) 32 c1) 32 (List.map (Value.int .u8) (A))) := owns_later OA.out hb
      replace hl_g1 : g1 < x144.heap.size := by have := hb.size; omega
      replace hl_lx : lx < x144.heap.size := by have := hb.size; omega
      clear hb
      refine rdy 5 (fun K hK => ?sn145)
      case sn145 =>
       obtain ⟨g2, c2, x147, hrun, hown, hE, hgg, hw_g2, hl_g2⟩ := app8 x144 W2.heap.size (.slice (some ⟨g1, 0, none⟩) 32 c1) 32 (A) (some ⟨lx, 0, none⟩) 1 1 [2] OA.out LX.out (by decide) hH.size 28 g1 rfl (by decide)
       refine step_append_run rfl (.tmp 26) (.tmp 27) 28 rfl _ _ rfl rfl _ _ hrun ?_
       refine hK.out _ _ (hE.below hH hw_g1) (fun hH' => ?_)
       clear hK K hH; have hH := hH'; clear hH'; try simp only [List.setIfInBounds_toArray, List.set]
       have OB : Hid (Rd x147 (some ⟨g2, 0, none⟩) 33 c2 (A ++ [2])) := rd_own HBX.out hown
       have ne2_bw_g2 : bw ≠ g2 := by omega
       have ne3_bw_g1 : bw ≠ g1 := by omega
       replace DV : Hid (x147.there bw 0 32) := there_extb hE (by omega) DV.out
       replace hl_bw : bw < x147.heap.size := by have := hE.size; omega
       clear hrun hown hE OA
       try simp only [Act.put, List.setIfInBounds_toArray, List.set_cons_zero, List.set_cons_succ]
       simp only [Nat.reduceAdd]
       refine rdy 6 (fun K hK => ?sn148)
       case sn148 =>
        go_simp
        refine (rhmac_c (some ⟨bt, 0, none⟩) 32 32 T (some ⟨g2, 0, none⟩) 33 c2 (A ++ [2]) _ (HRT.out.below hH) OB.out (HG.out.later hH) (by decide) (by decide)).mono ?_
        rintro e V150 ⟨S, rfl, HS, hb⟩
        refine hK.out _ _ (hH.trans hb) (fun hH' => ?_)
        clear hK K hH; have hH := hH'; clear hH'; try simp only [List.setIfInBounds_toArray, List.set]
        replace hl_g2 : True := trivial
        replace DV : Hid (V150.there bw 0 32) := there_later hb DV.out
        replace hl_bw : bw < V150.heap.size := by have := hb.size; omega
        clear hb OB hl_g2
        exact hrest V150 g0 g1 c1 lx g2 c2 S bw ⟨hH, DV, hw_bw, HS⟩
    case sn124 =>
     go_simp
     have hb := bel1 x122 (.cells zb32 33)
     have hLw : W2.heap.size ≤ x122.heap.size := hH.size
     have DV : Hid ((x122.alloc (.cells zb32 33)).there x122.heap.size 0 32) := there_new x122 32 zb32 rfl 33
     refine hK.out _ _ (hH.trans hb) (fun hH' => ?_)
     clear hK K hH; have hH := hH'; clear hH'; try simp only [List.setIfInBounds_toArray, List.set]
     obtain ⟨x152, hnew⟩ : ∃ v, v = (x122.alloc (.cells zb32 33)) := ⟨_, rfl⟩
     obtain ⟨bw, hbn⟩ : ∃ v, v = x122.heap.size := ⟨_, rfl⟩
     have hl_bw : x122.heap.size < (x122.alloc (.cells zb32 33)).heap.size := by simp
     rw [← hnew] at hb hH DV hl_bw ⊢
     rw [← hbn] at DV hl_bw hLw ⊢
     have ne_g0_bw : g0 < bw := by omega
     have ne_lx_bw : lx < bw := by omega
     have hw_bw : W2.heap.size ≤ bw := hLw
     clear hLw hbn hnew
     replace LX := hidp (LX.out.below hb)
     replace OL : Hid (x152.ownsRow W2.heap.size 5 1 (.slice (some ⟨g0, 0, none⟩) 0 0) 0 (List.map (Value.int .u8) [])) := owns_later OL.out hb
     replace hl_g0 : g0 < x152.heap.size := by have := hb.size; omega
     replace hl_lx : lx < x152.heap.size := by have := hb.size; omega
     clear hb
     refine rdy 3 (fun K hK => ?sn153)
     case sn153 =>
      obtain ⟨g1, c1, x155, hrun, hown, hE, hgg, hw_g1, hl_g1⟩ := app8 x152 W2.heap.size (.slice (some ⟨g0, 0, none⟩) 0 0) 0 [] (some ⟨ba, 0, none⟩) 32 32 A OL.out (HRA.out.below hH) (by decide) hH.size 28 g0 rfl (by decide)
      refine step_append_run rfl (.tmp 24) (.tmp 25) 28 rfl _ _ rfl rfl _ _ hrun ?_
      refine hK.out _ _ (hE.below hH hw_g0) (fun hH' => ?_)
      clear hK K hH; have hH := hH'; clear hH'; try simp only [List.setIfInBounds_toArray, List.set]
      have OA : Hid (x155.ownsRow W2.heap.size 5 1 (.slice (some ⟨g1, 0, none⟩) 32 c1) 32 (List.map (Value.int .u8) (A))) := by unfold Hid; simpa using hown
      have ne2_lx_g1 : lx ≠ g1 := by omega
      have ne3_lx_g0 : lx ≠ g0 := by omega
      have ne2_bw_g1 : bw ≠ g1 := by omega
      have ne3_bw_g0 : bw ≠ g0 := by omega
      replace LX : Hid (Rd x155 (some ⟨lx, 0, none⟩) 1 1 [2]) := LX.out.extb hE (by omega)
      replace DV : Hid (x155.there bw 0 32) := there_extb hE (by omega) DV.out
      replace hl_lx : lx < x155.heap.size := by have := hE.size; omega
      replace hl_bw : bw < x155.heap.size := by have := hE.size; omega
      clear hrun hown hE OL
      try simp only [Act.put, List.setIfInBounds_toArray, List.set_cons_zero, List.set_cons_succ]
      simp only [Nat.zero_add]
      refine rdy 5 (fun K hK => ?sn156)
      case sn156 =>
       obtain ⟨g2, c2, x158, hrun, hown, hE, hgg, hw_g2, hl_g2⟩ := app8 x155 W2.heap.size (.slice (some ⟨g1, 0, none⟩) 32 c1) 32 (A) (some ⟨lx, 0, none⟩) 1 1 [2] OA.out LX.out (by decide) hH.size 28 g1 rfl (by decide)
       refine step_append_run rfl (.tmp 26) (.tmp 27) 28 rfl _ _ rfl rfl _ _ hrun ?_
       refine hK.out _ _ (hE.below hH hw_g1) (fun hH' => ?_)
       clear hK K hH; have hH := hH'; clear hH'; try simp only [List.setIfInBounds_toArray, List.set]
       have OB : Hid (Rd x158 (some ⟨g2, 0, none⟩) 33 c2 (A ++ [2])) := rd_own HBX.out hown
       have ne2_bw_g2 : bw ≠ g2 := by omega
       have ne3_bw_g1 : bw ≠ g1 := by omega
       replace DV : Hid (x158.there bw 0 32) := there_extb hE (by omega) DV.out
       replace hl_bw : bw < x158.heap.size := by have := hE.size; omega
       clear hrun hown hE OA
       try simp only [Act.put, List.setIfInBounds_toArray, List.set_cons_zero, List.set_cons_succ]
       simp only [Nat.reduceAdd]
       refine rdy 6 (fun K hK => ?sn159)
       case sn159 =>
        go_simp
        refine (rhmac_c (some ⟨bt, 0, none⟩) 32 32 T (some ⟨g2, 0, none⟩) 33 c2 (A ++ [2]) _ (HRT.out.below hH) OB.out (HG.out.later hH) (by decide) (by decide)).mono ?_
        rintro e V161 ⟨S, rfl, HS, hb⟩
        refine hK.out _ _ (hH.trans hb) (fun hH' => ?_)
        clear hK K hH; have hH := hH'; clear hH'; try simp only [List.setIfInBounds_toArray, List.set]
        replace hl_g2 : True := trivial
        replace DV : Hid (V161.there bw 0 32) := there_later hb DV.out
        replace hl_bw : bw < V161.heap.size := by have := hb.size; omega
        clear hb OB hl_g2
        exact hrest V161 g0 g1 c1 lx g2 c2 S bw ⟨hH, DV, hw_bw, HS⟩
   case sn120 =>
    go_simp
    have hb := bel1 x118 (.cells zb32 33)
    have hLw : W2.heap.size ≤ x118.heap.size := hH.size
    have DV : Hid ((x118.alloc (.cells zb32 33)).there x118.heap.size 0 32) := there_new x118 32 zb32 rfl 33
    refine hK.out _ _ (hH.trans hb) (fun hH' => ?_)
    clear hK K hH; have hH := hH'; clear hH'; try simp only [List.setIfInBounds_toArray, List.set]
    obtain ⟨x163, hnew⟩ : ∃ v, v = (x118.alloc (.cells zb32 33)) := ⟨_, rfl⟩
    obtain ⟨bw, hbn⟩ : ∃ v, v = x118.heap.size := ⟨_, rfl⟩
    have hl_bw : x118.heap.size < (x118.alloc (.cells zb32 33)).heap.size := by simp
    rw [← hnew] at hb hH DV hl_bw ⊢
    rw [← hbn] at DV hl_bw hLw ⊢
    have ne_lx_bw : lx < bw := by omega
    have hw_bw : W2.heap.size ≤ bw := hLw
    clear hLw hbn hnew
    replace LX := hidp (LX.out.below hb)
    replace hl_lx : lx < x163.heap.size := by have := hb.size; omega
    clear hb
    refine rdy 1 (fun K hK => ?sn164)
    case sn164 =>
     go_simp
     have hb := bel1 x163 (.cells #[] 5)
     have hLw : W2.heap.size ≤ x163.heap.size := hH.size
     have OL : Hid ((x163.alloc (.cells #[] 5)).ownsRow W2.heap.size 5 1 (.slice (some ⟨x163.heap.size, 0, none⟩) 0 0) 0 (List.map (Value.int .u8) [])) := World.ownsRow_made x163 #[] 0 hH.size (by decide) rfl
     refine hK.out _ _ (hH.trans hb) (fun hH' => ?_)
     clear hK K hH; have hH := hH'; clear hH'; try simp only [List.setIfInBounds_toArray, List.set]
     obtain ⟨x166, hnew⟩ : ∃ v, v = (x163.alloc (.cells #[] 5)) := ⟨_, rfl⟩
     obtain ⟨g0, hbn⟩ : ∃ v, v = x163.heap.size := ⟨_, rfl⟩
     have hl_g0 : x163.heap.size < (x163.alloc (.cells #[] 5)).heap.size := by simp
     rw [← hnew] at hb hH OL hl_g0 ⊢
     rw [← hbn] at OL hl_g0 hLw ⊢
     have ne_lx_g0 : lx < g0 := by omega
     have ne_bw_g0 : bw < g0 := by omega
     have hw_g0 : W2.heap.size ≤ g0 := hLw
     clear hLw hbn hnew
     replace LX := hidp (LX.out.below hb)
     replace DV : Hid (x166.there bw 0 32) := there_later hb DV.out
     replace hl_lx : lx < x166.heap.size := by have := hb.size; omega
     replace hl_bw : bw < x166.heap.size := by have := hb.size; omega
     clear hb
     refine rdy 3 (fun K hK => ?sn167)
     case sn167 =>
      obtain ⟨g1, c1, x169, hrun, hown, hE, hgg, hw_g1, hl_g1⟩ := app8 x166 W2.heap.size (.slice (some ⟨g0, 0, none⟩) 0 0) 0 [] (some ⟨ba, 0, none⟩) 32 32 A OL.out (HRA.out.below hH) (by decide) hH.size 28 g0 rfl (by decide)
      refine step_append_run rfl (.tmp 24) (.tmp 25) 28 rfl _ _ rfl rfl _ _ hrun ?_
      refine hK.out _ _ (hE.below hH hw_g0) (fun hH' => ?_)
      clear hK K hH; have hH := hH'; clear hH'; try simp only [List.setIfInBounds_toArray, List.set]
      have OA : Hid (x169.ownsRow W2.heap.size 5 1 (.slice (some ⟨g1, 0, none⟩) 32 c1) 32 (List.map (Value.int .u8) (A))) := by unfold Hid; simpa using hown
      have ne2_lx_g1 : lx ≠ g1 := by omega
      have ne3_lx_g0 : lx ≠ g0 := by omega
      have ne2_bw_g1 : bw ≠ g1 := by omega
      have ne3_bw_g0 : bw ≠ g0 := by omega
      replace LX : Hid (Rd x169 (some ⟨lx, 0, none⟩) 1 1 [2]) := LX.out.extb hE (by omega)
      replace DV : Hid (x169.there bw 0 32) := there_extb hE (by omega) DV.out
      replace hl_lx : lx < x169.heap.size := by have := hE.size; omega
      replace hl_bw : bw < x169.heap.size := by have := hE.size; omega
      clear hrun hown hE OL
      try simp only [Act.put, List.setIfInBounds_toArray, List.set_cons_zero, List.set_cons_succ]
      simp only [Nat.zero_add]
      refine rdy 5 (fun K hK => ?sn170)
      case sn170 =>
       obtain ⟨g2, c2, x172, hrun, hown, hE, hgg, hw_g2, hl_g2⟩ := app8 x169 W2.heap.size (.slice (some ⟨g1, 0, none⟩) 32 c1) 32 (A) (some ⟨lx, 0, none⟩) 1 1 [2] OA.out LX.out (by decide) hH.size 28 g1 rfl (by decide)
       refine step_append_run rfl (.tmp 26) (.tmp 27) 28 rfl _ _ rfl rfl _ _ hrun ?_
       refine hK.out _ _ (hE.below hH hw_g1) (fun hH' => ?_)
       clear hK K hH; have hH := hH'; clear hH'; try simp only [List.setIfInBounds_toArray, List.set]
       have OB : Hid (Rd x172 (some ⟨g2, 0, none⟩) 33 c2 (A ++ [2])) := rd_own HBX.out hown
       have ne2_bw_g2 : bw ≠ g2 := by omega
       have ne3_bw_g1 : bw ≠ g1 := by omega
       replace DV : Hid (x172.there bw 0 32) := there_extb hE (by omega) DV.out
       replace hl_bw : bw < x172.heap.size := by have := hE.size; omega
       clear hrun hown hE OA
       try simp only [Act.put, List.setIfInBounds_toArray, List.set_cons_zero, List.set_cons_succ]
       simp only [Nat.reduceAdd]
       refine rdy 6 (fun K hK => ?sn173)
       case sn173 =>
        go_simp
        refine (rhmac_c (some ⟨bt, 0, none⟩) 32 32 T (some ⟨g2, 0, none⟩) 33 c2 (A ++ [2]) _ (HRT.out.below hH) OB.out (HG.out.later hH) (by decide) (by decide)).mono ?_
        rintro e V175 ⟨S, rfl, HS, hb⟩
        refine hK.out _ _ (hH.trans hb) (fun hH' => ?_)
        clear hK K hH; have hH := hH'; clear hH'; try simp only [List.setIfInBounds_toArray, List.set]
        replace hl_g2 : True := trivial
        replace DV : Hid (V175.there bw 0 32) := there_later hb DV.out
        replace hl_bw : bw < V175.heap.size := by have := hb.size; omega
        clear hb OB hl_g2
        exact hrest V175 g0 g1 c1 lx g2 c2 S bw ⟨hH, DV, hw_bw, HS⟩
  case sn3 =>
   go_simp
   have hb := bel1 y0 (.cells zb32 33)
   have hLw : W2.heap.size ≤ y0.heap.size := hH.size
   have DV : Hid ((y0.alloc (.cells zb32 33)).there y0.heap.size 0 32) := there_new y0 32 zb32 rfl 33
   refine hK.out _ _ (hH.trans hb) (fun hH' => ?_)
   clear hK K hH; have hH := hH'; clear hH'; try simp only [List.setIfInBounds_toArray, List.set]
   obtain ⟨x177, hnew⟩ : ∃ v, v = (y0.alloc (.cells zb32 33)) := ⟨_, rfl⟩
   obtain ⟨bw, hbn⟩ : ∃ v, v = y0.heap.size := ⟨_, rfl⟩
   have hl_bw : y0.heap.size < (y0.alloc (.cells zb32 33)).heap.size := by simp
   rw [← hnew] at hb hH DV hl_bw ⊢
   rw [← hbn] at DV hl_bw hLw ⊢
   have hw_bw : W2.heap.size ≤ bw := hLw
   clear hLw hbn hnew
   clear hb
   refine wpAnyH_ready (rs := [1, 4]) (by kernel_rfl) (by simp) ?_
   refine AllReadyH.cons (o := ?on178) ?hn178 (fun K hK => ?sn178) (AllReadyH.cons (o := ?on179) ?hn179 (fun K hK => ?sn179) AllReadyH.nil)
   case hn178 => simp only [List.getElem?_toArray]; rfl
   case hn179 => simp only [List.getElem?_toArray]; rfl
   case sn178 =>
    go_simp
    have hb := bel1 x177 (.cells #[] 5)
    have hLw : W2.heap.size ≤ x177.heap.size := hH.size
    have OL : Hid ((x177.alloc (.cells #[] 5)).ownsRow W2.heap.size 5 1 (.slice (some ⟨x177.heap.size, 0, none⟩) 0 0) 0 (List.map (Value.int .u8) [])) := World.ownsRow_made x177 #[] 0 hH.size (by decide) rfl
    refine hK.out _ _ (hH.trans hb) (fun hH' => ?_)
    clear hK K hH; have hH := hH'; clear hH'; try simp only [List.setIfInBounds_toArray, List.set]
    obtain ⟨x181, hnew⟩ : ∃ v, v = (x177.alloc (.cells #[] 5)) := ⟨_, rfl⟩
    obtain ⟨g0, hbn⟩ : ∃ v, v = x177.heap.size := ⟨_, rfl⟩
    have hl_g0 : x177.heap.size < (x177.alloc (.cells #[] 5)).heap.size := by simp
    rw [← hnew] at hb hH OL hl_g0 ⊢
    rw [← hbn] at OL hl_g0 hLw ⊢
    have ne_bw_g0 : bw < g0 := by omega
    have hw_g0 : W2.heap.size ≤ g0 := hLw
    clear hLw hbn hnew
    replace DV : Hid (x181.there bw 0 32) := there_later hb DV.out
    replace hl_bw : bw < x181.heap.size := by have := hb.size; omega
    clear hb
    refine wpAnyH_ready (rs := [3, 4]) (by kernel_rfl) (by simp) ?_
    refine AllReadyH.cons (o := ?on182) ?hn182 (fun K hK => ?sn182) (AllReadyH.cons (o := ?on183) ?hn183 (fun K hK => ?sn183) AllReadyH.nil)
    case hn182 => simp only [List.getElem?_toArray]; rfl
    case hn183 => simp only [List.getElem?_toArray]; rfl
    case sn182 =>
     obtain ⟨g1, c1, x185, hrun, hown, hE, hgg, hw_g1, hl_g1⟩ := app8 x181 W2.heap.size (.slice (some ⟨g0, 0, none⟩) 0 0) 0 [] (some ⟨ba, 0, none⟩) 32 32 A OL.out (HRA.out.below hH) (by decide) hH.size 28 g0 rfl (by decide)
     refine step_append_run rfl (.tmp 24) (.tmp 25) 28 rfl _ _ rfl rfl _ _ hrun ?_
     refine hK.out _ _ (hE.below hH hw_g0) (fun hH' => ?_)
     clear hK K hH; have hH := hH'; clear hH'; try simp only [List.setIfInBounds_toArray, List.set]
     have OA : Hid (x185.ownsRow W2.heap.size 5 1 (.slice (some ⟨g1, 0, none⟩) 32 c1) 32 (List.map (Value.int .u8) (A))) := by unfold Hid; simpa using hown
     have ne2_bw_g1 : bw ≠ g1 := by omega
     have ne3_bw_g0 : bw ≠ g0 := by omega
     replace DV : Hid (x185.there bw 0 32) := there_extb hE (by omega) DV.out
     replace hl_bw : bw < x185.heap.size := by have := hE.size; omega
     clear hrun hown hE OL
     try simp only [Act.put, List.setIfInBounds_toArray, List.set_cons_zero, List.set_cons_succ]
     simp only [Nat.zero_add]
     refine rdy 4 (fun K hK => ?sn186)
     case sn186 =>
      go_simp
      have hb := bel1 x185 (.cells #[.int .u8 2] 5)
      have hLw : W2.heap.size ≤ x185.heap.size := hH.size
      have LX : Hid (Rd (x185.alloc (.cells #[.int .u8 2] 5)) (some ⟨x185.heap.size, 0, none⟩) 1 1 [2]) := rd_one x185 2 (by decide) 5
      refine hK.out _ _ (hH.trans hb) (fun hH' => ?_)
      clear hK K hH; have hH := hH'; clear hH'; try simp only [List.setIfInBounds_toArray, List.set]
      obtain ⟨x188, hnew⟩ : ∃ v, v = (x185.alloc (.cells #[.int .u8 2] 5)) := ⟨_, rfl⟩
      obtain ⟨lx, hbn⟩ : ∃ v, v = x185.heap.size := ⟨_, rfl⟩
      have hl_lx : x185.heap.size < (x185.alloc (.cells #[.int .u8 2] 5)).heap.size := by simp
      rw [← hnew] at hb hH LX hl_lx ⊢
      rw [← hbn] at LX hl_lx hLw ⊢
      have ne_g1_lx : g1 < lx := by omega
      have ne_bw_lx : bw < lx := by omega
      have hw_lx : W2.heap.size ≤ lx := hLw
      clear hLw hbn hnew
      replace DV : Hid (x188.there bw 0 32) := there_later hb DV.out
      replace OA : Hid (x188.ownsRow W2.heap.size 5 1 (.slice (some ⟨g1, 0, none⟩) 32 c1) 32 (List.map (Value.int .u8) (A))) := owns_later OA.out hb
      replace hl_g1 : g1 < x188.heap.size := by have := hb.size; omega
      replace hl_bw : bw < x188.heap.size := by have := hb.size; omega
      clear hb
      refine rdy 5 (fun K hK => ?sn189)
      case sn189 =>
       obtain ⟨g2, c2, x191, hrun, hown, hE, hgg, hw_g2, hl_g2⟩ := app8 x188 W2.heap.size (.slice (some ⟨g1, 0, none⟩) 32 c1) 32 (A) (some ⟨lx, 0, none⟩) 1 1 [2] OA.out LX.out (by decide) hH.size 28 g1 rfl (by decide)
       refine step_append_run rfl (.tmp 26) (.tmp 27) 28 rfl _ _ rfl rfl _ _ hrun ?_
       refine hK.out _ _ (hE.below hH hw_g1) (fun hH' => ?_)
       clear hK K hH; have hH := hH'; clear hH'; try simp only [List.setIfInBounds_toArray, List.set]
       have OB : Hid (Rd x191 (some ⟨g2, 0, none⟩) 33 c2 (A ++ [2])) := rd_own HBX.out hown
       have ne2_bw_g2 : bw ≠ g2 := by omega
       have ne3_bw_g1 : bw ≠ g1 := by omega
       replace DV : Hid (x191.there bw 0 32) := there_extb hE (by omega) DV.out
       replace hl_bw : bw < x191.heap.size := by have := hE.size; omega
       clear hrun hown hE OA
       try simp only [Act.put, List.setIfInBounds_toArray, List.set_cons_zero, List.set_cons_succ]
       simp only [Nat.reduceAdd]
       refine rdy 6 (fun K hK => ?sn192)
       case sn192 =>
        go_simp
        refine (rhmac_c (some ⟨bt, 0, none⟩) 32 32 T (some ⟨g2, 0, none⟩) 33 c2 (A ++ [2]) _ (HRT.out.below hH) OB.out (HG.out.later hH) (by decide) (by decide)).mono ?_
        rintro e V194 ⟨S, rfl, HS, hb⟩
        refine hK.out _ _ (hH.trans hb) (fun hH' => ?_)
        clear hK K hH; have hH := hH'; clear hH'; try simp only [List.setIfInBounds_toArray, List.set]
        replace hl_g2 : True := trivial
        replace DV : Hid (V194.there bw 0 32) := there_later hb DV.out
        replace hl_bw : bw < V194.heap.size := by have := hb.size; omega
        clear hb OB hl_g2
        exact hrest V194 g0 g1 c1 lx g2 c2 S bw ⟨hH, DV, hw_bw, HS⟩
    case sn183 =>
     go_simp
     have hb := bel1 x181 (.cells #[.int .u8 2] 5)
     have hLw : W2.heap.size ≤ x181.heap.size := hH.size
     have LX : Hid (Rd (x181.alloc (.cells #[.int .u8 2] 5)) (some ⟨x181.heap.size, 0, none⟩) 1 1 [2]) := rd_one x181 2 (by decide) 5
     refine hK.out _ _ (hH.trans hb) (fun hH' => ?_)
     clear hK K hH; have hH := hH'; clear hH'; try simp only [List.setIfInBounds_toArray, List.set]
     obtain ⟨x196, hnew⟩ : ∃ v, v = (x181.alloc (.cells #[.int .u8 2] 5)) := ⟨_, rfl⟩
     obtain ⟨lx, hbn⟩ : ∃ v, v = x181.heap.size := ⟨_, rfl⟩
     have hl_lx : x181.heap.size < (x181.alloc (.cells #[.int .u8 2] 5)).heap.size := by simp
     rw [← hnew] at hb hH LX hl_lx ⊢
     rw [← hbn] at LX hl_lx hLw ⊢
     have ne_g0_lx : g0 < lx := by omega
     have ne_bw_lx : bw < lx := by omega
     have hw_lx : W2.heap.size ≤ lx := hLw
     clear hLw hbn hnew
     replace DV : Hid (x196.there bw 0 32) := there_later hb DV.out
     replace OL : Hid (x196.ownsRow W2.heap.size 5 1 (.slice (some ⟨g0, 0, none⟩) 0 0) 0 (List.map (Value.int .u8) [])) := owns_later OL.out hb
     replace hl_g0 : g0 < x196.heap.size := by have := hb.size; omega
     replace hl_bw : bw < x196.heap.size := by have := hb.size; omega
     clear hb
     refine rdy 3 (fun K hK => ?sn197)
     case sn197 =>
      obtain ⟨g1, c1, x199, hrun, hown, hE, hgg, hw_g1, hl_g1⟩ := app8 x196 W2.heap.size (.slice (some ⟨g0, 0, none⟩) 0 0) 0 [] (some ⟨ba, 0, none⟩) 32 32 A OL.out (HRA.out.below hH) (by decide) hH.size 28 g0 rfl (by decide)
      refine step_append_run rfl (.tmp 24) (.tmp 25) 28 rfl _ _ rfl rfl _ _ hrun ?_
      refine hK.out _ _ (hE.below hH hw_g0) (fun hH' => ?_)
      clear hK K hH; have hH := hH'; clear hH'; try simp only [List.setIfInBounds_toArray, List.set]
      have OA : Hid (x199.ownsRow W2.heap.size 5 1 (.slice (some ⟨g1, 0, none⟩) 32 c1) 32 (List.map (Value.int .u8) (A))) := by unfold Hid; simpa using hown
      have ne2_lx_g1 : lx ≠ g1 := by omega
      have ne3_lx_g0 : lx ≠ g0 := by omega
      have ne2_bw_g1 : bw ≠ g1 := by omega
      have ne3_bw_g0 : bw ≠ g0 := by omega
      replace DV : Hid (x199.there bw 0 32) := there_extb hE (by omega) DV.out
      replace LX : Hid (Rd x199 (some ⟨lx, 0, none⟩) 1 1 [2]) := LX.out.extb hE (by omega)
      replace hl_lx : lx < x199.heap.size := by have := hE.size; omega
      replace hl_bw : bw < x199.heap.size := by have := hE.size; omega
      clear hrun hown hE OL
      try simp only [Act.put, List.setIfInBounds_toArray, List.set_cons_zero, List.set_cons_succ]
      simp only [Nat.zero_add]
      refine rdy 5 (fun K hK => ?sn200)
      case sn200 =>
       obtain ⟨g2, c2, x202, hrun, hown, hE, hgg, hw_g2, hl_g2⟩ := app8 x199 W2.heap.size (.slice (some ⟨g1, 0, none⟩) 32 c1) 32 (A) (some ⟨lx, 0, none⟩) 1 1 [2] OA.out LX.out (by decide) hH.size 28 g1 rfl (by decide)
       refine step_append_run rfl (.tmp 26) (.tmp 27) 28 rfl _ _ rfl rfl _ _ hrun ?_
       refine hK.out _ _ (hE.below hH hw_g1) (fun hH' => ?_)
       clear hK K hH; have hH := hH'; clear hH'; try simp only [List.setIfInBounds_toArray, List.set]
       have OB : Hid (Rd x202 (some ⟨g2, 0, none⟩) 33 c2 (A ++ [2])) := rd_own HBX.out hown
       have ne2_bw_g2 : bw ≠ g2 := by omega
       have ne3_bw_g1 : bw ≠ g1 := by omega
       replace DV : Hid (x202.there bw 0 32) := there_extb hE (by omega) DV.out
       replace hl_bw : bw < x202.heap.size := by have := hE.size; omega
       clear hrun hown hE OA
       try simp only [Act.put, List.setIfInBounds_toArray, List.set_cons_zero, List.set_cons_succ]
       simp only [Nat.reduceAdd]
       refine rdy 6 (fun K hK => ?sn203)
       case sn203 =>
        go_simp
        refine (rhmac_c (some ⟨bt, 0, none⟩) 32 32 T (some ⟨g2, 0, none⟩) 33 c2 (A ++ [2]) _ (HRT.out.below hH) OB.out (HG.out.later hH) (by decide) (by decide)).mono ?_
        rintro e V205 ⟨S, rfl, HS, hb⟩
        refine hK.out _ _ (hH.trans hb) (fun hH' => ?_)
        clear hK K hH; have hH := hH'; clear hH'; try simp only [List.setIfInBounds_toArray, List.set]
        replace hl_g2 : True := trivial
        replace DV : Hid (V205.there bw 0 32) := there_later hb DV.out
        replace hl_bw : bw < V205.heap.size := by have := hb.size; omega
        clear hb OB hl_g2
        exact hrest V205 g0 g1 c1 lx g2 c2 S bw ⟨hH, DV, hw_bw, HS⟩
   case sn179 =>
    go_simp
    have hb := bel1 x177 (.cells #[.int .u8 2] 5)
    have hLw : W2.heap.size ≤ x177.heap.size := hH.size
    have LX : Hid (Rd (x177.alloc (.cells #[.int .u8 2] 5)) (some ⟨x177.heap.size, 0, none⟩) 1 1 [2]) := rd_one x177 2 (by decide) 5
    refine hK.out _ _ (hH.trans hb) (fun hH' => ?_)
    clear hK K hH; have hH := hH'; clear hH'; try simp only [List.setIfInBounds_toArray, List.set]
    obtain ⟨x207, hnew⟩ : ∃ v, v = (x177.alloc (.cells #[.int .u8 2] 5)) := ⟨_, rfl⟩
    obtain ⟨lx, hbn⟩ : ∃ v, v = x177.heap.size := ⟨_, rfl⟩
    have hl_lx : x177.heap.size < (x177.alloc (.cells #[.int .u8 2] 5)).heap.size := by simp
    rw [← hnew] at hb hH LX hl_lx ⊢
    rw [← hbn] at LX hl_lx hLw ⊢
    have ne_bw_lx : bw < lx := by omega
    have hw_lx : W2.heap.size ≤ lx := hLw
    clear hLw hbn hnew
    replace DV : Hid (x207.there bw 0 32) := there_later hb DV.out
    replace hl_bw : bw < x207.heap.size := by have := hb.size; omega
    clear hb
    refine rdy 1 (fun K hK => ?sn208)
    case sn208 =>
     go_simp
     have hb := bel1 x207 (.cells #[] 5)
     have hLw : W2.heap.size ≤ x207.heap.size := hH.size
     have OL : Hid ((x207.alloc (.cells #[] 5)).ownsRow W2.heap.size 5 1 (.slice (some ⟨x207.heap.size, 0, none⟩) 0 0) 0 (List.map (Value.int .u8) [])) := World.ownsRow_made x207 #[] 0 hH.size (by decide) rfl
     refine hK.out _ _ (hH.trans hb) (fun hH' => ?_)
     clear hK K hH; have hH := hH'; clear hH'; try simp only [List.setIfInBounds_toArray, List.set]
     obtain ⟨x210, hnew⟩ : ∃ v, v = (x207.alloc (.cells #[] 5)) := ⟨_, rfl⟩
     obtain ⟨g0, hbn⟩ : ∃ v, v = x207.heap.size := ⟨_, rfl⟩
     have hl_g0 : x207.heap.size < (x207.alloc (.cells #[] 5)).heap.size := by simp
     rw [← hnew] at hb hH OL hl_g0 ⊢
     rw [← hbn] at OL hl_g0 hLw ⊢
     have ne_lx_g0 : lx < g0 := by omega
     have ne_bw_g0 : bw < g0 := by omega
     have hw_g0 : W2.heap.size ≤ g0 := hLw
     clear hLw hbn hnew
     replace DV : Hid (x210.there bw 0 32) := there_later hb DV.out
     replace LX := hidp (LX.out.below hb)
     replace hl_lx : lx < x210.heap.size := by have := hb.size; omega
     replace hl_bw : bw < x210.heap.size := by have := hb.size; omega
     clear hb
     refine rdy 3 (fun K hK => ?sn211)
     case sn211 =>
      obtain ⟨g1, c1, x213, hrun, hown, hE, hgg, hw_g1, hl_g1⟩ := app8 x210 W2.heap.size (.slice (some ⟨g0, 0, none⟩) 0 0) 0 [] (some ⟨ba, 0, none⟩) 32 32 A OL.out (HRA.out.below hH) (by decide) hH.size 28 g0 rfl (by decide)
      refine step_append_run rfl (.tmp 24) (.tmp 25) 28 rfl _ _ rfl rfl _ _ hrun ?_
      refine hK.out _ _ (hE.below hH hw_g0) (fun hH' => ?_)
      clear hK K hH; have hH := hH'; clear hH'; try simp only [List.setIfInBounds_toArray, List.set]
      have OA : Hid (x213.ownsRow W2.heap.size 5 1 (.slice (some ⟨g1, 0, none⟩) 32 c1) 32 (List.map (Value.int .u8) (A))) := by unfold Hid; simpa using hown
      have ne2_lx_g1 : lx ≠ g1 := by omega
      have ne3_lx_g0 : lx ≠ g0 := by omega
      have ne2_bw_g1 : bw ≠ g1 := by omega
      have ne3_bw_g0 : bw ≠ g0 := by omega
      replace DV : Hid (x213.there bw 0 32) := there_extb hE (by omega) DV.out
      replace LX : Hid (Rd x213 (some ⟨lx, 0, none⟩) 1 1 [2]) := LX.out.extb hE (by omega)
      replace hl_lx : lx < x213.heap.size := by have := hE.size; omega
      replace hl_bw : bw < x213.heap.size := by have := hE.size; omega
      clear hrun hown hE OL
      try simp only [Act.put, List.setIfInBounds_toArray, List.set_cons_zero, List.set_cons_succ]
      simp only [Nat.zero_add]
      refine rdy 5 (fun K hK => ?sn214)
      case sn214 =>
       obtain ⟨g2, c2, x216, hrun, hown, hE, hgg, hw_g2, hl_g2⟩ := app8 x213 W2.heap.size (.slice (some ⟨g1, 0, none⟩) 32 c1) 32 (A) (some ⟨lx, 0, none⟩) 1 1 [2] OA.out LX.out (by decide) hH.size 28 g1 rfl (by decide)
       refine step_append_run rfl (.tmp 26) (.tmp 27) 28 rfl _ _ rfl rfl _ _ hrun ?_
       refine hK.out _ _ (hE.below hH hw_g1) (fun hH' => ?_)
       clear hK K hH; have hH := hH'; clear hH'; try simp only [List.setIfInBounds_toArray, List.set]
       have OB : Hid (Rd x216 (some ⟨g2, 0, none⟩) 33 c2 (A ++ [2])) := rd_own HBX.out hown
       have ne2_bw_g2 : bw ≠ g2 := by omega
       have ne3_bw_g1 : bw ≠ g1 := by omega
       replace DV : Hid (x216.there bw 0 32) := there_extb hE (by omega) DV.out
       replace hl_bw : bw < x216.heap.size := by have := hE.size; omega
       clear hrun hown hE OA
       try simp only [Act.put, List.setIfInBounds_toArray, List.set_cons_zero, List.set_cons_succ]
       simp only [Nat.reduceAdd]
       refine rdy 6 (fun K hK => ?sn217)
       case sn217 =>
        go_simp
        refine (rhmac_c (some ⟨bt, 0, none⟩) 32 32 T (some ⟨g2, 0, none⟩) 33 c2 (A ++ [2]) _ (HRT.out.below hH) OB.out (HG.out.later hH) (by decide) (by decide)).mono ?_
        rintro e V219 ⟨S, rfl, HS, hb⟩
        refine hK.out _ _ (hH.trans hb) (fun hH' => ?_)
        clear hK K hH; have hH := hH'; clear hH'; try simp only [List.setIfInBounds_toArray, List.set]
        replace hl_g2 : True := trivial
        replace DV : Hid (V219.there bw 0 32) := there_later hb DV.out
        replace hl_bw : bw < V219.heap.size := by have := hb.size; omega
        clear hb OB hl_g2
        exact hrest V219 g0 g1 c1 lx g2 c2 S bw ⟨hH, DV, hw_bw, HS⟩
 case hr =>
 rintro u g0 g1 c1 lx g2 c2 B bw ⟨hE, DV, hbw, HS⟩
 have hH := hE.out
 clear hE
 have HSN : Hid (Bn 32 B) := by unfold Hid; rw [HS.out]; exact hm8_bn _ _
 obtain ⟨hlenw, honew, hiw⟩ := bn32_cells HSN.out
 obtain ⟨csw, hcsw⟩ : ∃ cs, cs = (List.map (Value.int .u8) B) := ⟨_, rfl⟩
 rw [← hcsw] at hlenw honew hiw ⊢
 have HCW : Hid (csw = (List.map (Value.int .u8) B)) := hcsw
 clear hcsw
 refine rdy 8 (fun K hK => ?_)
 refine wp_store_mid 33 (.tmp 9) (.tmp 29) rfl bw 0 csw.toArray rfl rfl (by simpa [hlenw] using DV.out) (by simpa using hiw) (all_oneCell_toArray honew) ?_
 refine hK.out _ _ (below_setCells _ hbw _ _ _ hH) (fun hH' => ?_)
 clear hK K hH; have hH := hH'; clear hH'; try simp only [List.setIfInBounds_toArray, List.set]
 refine wpAnyH_done (by kernel_rfl) ?_ _
 refine NoPanic.normal ?_
 replace hH : Below W2.heap.size W2 (u.setCells bw 0 csw) := hH
 have Abw : Hid (Ar (u.setCells bw 0 csw) bw 32 (List.map (Value.int .u8) B)) := by rw [← HCW.out]; exact Ar.all_set DV.out hlenw
 obtain ⟨W3, hW3⟩ : ∃ W, W = u.setCells bw 0 csw := ⟨_, rfl⟩
 rw [← hW3] at Abw hH ⊢
 replace HB := hidp (HB.out.trans (hH.mono HB.out.size))
 replace HRT := hidp (HRT.out.below hH)
 replace Aba := hidp (Aba.out.later hH)
 have HRB : Hid (Rd W3 (some ⟨bw, 0, none⟩) 32 32 B) := Abw.out.rd_all HSN.out.byt 32 (by decide)
 replace HG := hidp (HG.out.later hH)
 rw [HCW.out] at hiw
 clear hW3 hH DV HCW hlenw honew HRA HBX
 go_upto_region 7 with (first
  | (refine wpList_load_mid rfl 33 (.tmp 8) rfl ba 0 rfl (List.map (Value.int .u8) A) _ Aba.out.rng Tryz.underlying33 rfl hiba ?_)
  | (refine wpList_load_mid rfl 33 (.tmp 9) rfl bw 0 rfl (List.map (Value.int .u8) B) _ Abw.out.rng Tryz.underlying33 rfl hiw ?_)
  | (refine wpList_b2 rfl (.tmp 30) (.tmp 31) rfl A B HAN.out HSN.out rfl rfl ?_))
 rw [← List.map_append]
 have hb6 := bel1 W3 (.cells (List.map (Value.int .u8) (A ++ B)).toArray 33)
 have OW : Hid (Ar (W3.alloc (.cells (List.map (Value.int .u8) (A ++ B)).toArray 33)) W3.heap.size 64 (List.map (Value.int .u8) (A ++ B))) := ar_box W3 (List.map (Value.int .u8) (A ++ B)) 64 (by simp [HAN.out.len, HSN.out.len]) 33
 obtain ⟨W4, hW4⟩ : ∃ W, W = W3.alloc (.cells (List.map (Value.int .u8) (A ++ B)).toArray 33) := ⟨_, rfl⟩
 obtain ⟨g6, hg6⟩ : ∃ q, q = W3.heap.size := ⟨_, rfl⟩
 rw [← hW4] at hb6 OW ⊢
 rw [← hg6] at OW ⊢
 have kg6 : w.heap.size ≤ g6 := by rw [hg6]; exact HB.out.size
 replace HB := hidp (HB.out.trans (hb6.mono HB.out.size))
 replace HRT := hidp (HRT.out.below hb6)
 replace HRB := hidp (HRB.out.below hb6)
 replace HG := hidp (HG.out.later hb6)
 have HT2 : Hid ([A, B] = kl8 (hm8 chain input) 2) := by unfold Hid; rw [kl8_two, ← HT.out, HS.out, HA.out]
 clear hW4 hg6 hb6 Aba Abw hiba hiw
 rcases HN.out with rfl | rfl
 ·have e3 : (((2 : Nat) : Int) == 3) = false := rfl
  go_wp2
  go_ret
  exact ⟨g6, ⟨2, rfl⟩, ⟨kl8_len _ _, kl8_bn _ _, fun _ => ⟨g6, rfl, by rw [← HT2.out]; have := OW.out.rng; simpa using this⟩⟩, HB.out⟩
 ·have e3 : (((3 : Nat) : Int) == 3) = true := rfl
  have HBX : Hid (Byt (B ++ [3])) := HSN.out.byt.app (byt5 _ (by decide))
  go_upto_region 8 with fail
  refine wp_region_noPanic ?_
  refine wp_region_held_drew (S := Ext W4) (by kernel_rfl) (Ext.refl _).drew (fun hH => ?_)
  change wpAnyH _ _ _ _ _ _ #[false, false, false, false, false, false, false, false, false, false, false] _ _
  refine tk 0 ?_
  try simp only [Act.put, List.setIfInBounds_toArray, List.set_cons_zero, List.set_cons_succ]
  refine tk 1 ?_
  try simp only [Act.put, List.setIfInBounds_toArray, List.set_cons_zero, List.set_cons_succ]
  refine tk 3 ?_
  try simp only [Act.put, List.setIfInBounds_toArray, List.set_cons_zero, List.set_cons_succ]
  obtain ⟨y8, hy0⟩ : ∃ V, V = W4.drew := ⟨_, rfl⟩
  rw [← hy0] at hH ⊢
  clear hy0
  revert hH
  apply cut7 (F := fun u _ _ _ _ _ _ C => Hid (Ext W4 u) ∧ Hid (C = hm8 T (B ++ [3])))
  case h =>
   intro hrest hH
   refine wpAnyH_ready (rs := [2, 5]) (by kernel_rfl) (by simp) ?_
   refine AllReadyH.cons (o := ?on220) ?hn220 (fun K hK => ?sn220) (AllReadyH.cons (o := ?on221) ?hn221 (fun K hK => ?sn221) AllReadyH.nil)
   case hn220 => simp only [List.getElem?_toArray]; rfl
   case hn221 => simp only [List.getElem?_toArray]; rfl
   case sn220 =>
    go_simp
    have hb := bel1 y8 (.cells #[] 5)
    have hLw : W4.heap.size ≤ y8.heap.size := hH.size
    have OL : Hid ((y8.alloc (.cells #[] 5)).ownsRow W4.heap.size 5 1 (.slice (some ⟨y8.heap.size, 0, none⟩) 0 0) 0 (List.map (Value.int .u8) [])) := World.ownsRow_made y8 #[] 0 hH.size (by decide) rfl
    refine hK.out _ _ (hH.trans hb) (fun hH' => ?_)
    clear hK K hH; have hH := hH'; clear hH'; try simp only [List.setIfInBounds_toArray, List.set]
    obtain ⟨x223, hnew⟩ : ∃ v, v = (y8.alloc (.cells #[] 5)) := ⟨_, rfl⟩
    obtain ⟨g0, hbn⟩ : ∃ v, v = y8.heap.size := ⟨_, rfl⟩
    have hl_g0 : y8.heap.size < (y8.alloc (.cells #[] 5)).heap.size := by simp
    rw [← hnew] at hb hH OL hl_g0 ⊢
    rw [← hbn] at OL hl_g0 hLw ⊢
    have hw_g0 : W4.heap.size ≤ g0 := hLw
    clear hLw hbn hnew
    clear hb
    refine wpAnyH_ready (rs := [4, 5]) (by kernel_rfl) (by simp) ?_
    refine AllReadyH.cons (o := ?on224) ?hn224 (fun K hK => ?sn224) (AllReadyH.cons (o := ?on225) ?hn225 (fun K hK => ?sn225) AllReadyH.nil)
    case hn224 => simp only [List.getElem?_toArray]; rfl
    case hn225 => simp only [List.getElem?_toArray]; rfl
    case sn224 =>
     obtain ⟨g1, c1, x227, hrun, hown, hE, hgg, hw_g1, hl_g1⟩ := app8 x223 W4.heap.size (.slice (some ⟨g0, 0, none⟩) 0 0) 0 [] (some ⟨bw, 0, none⟩) 32 32 B OL.out (HRB.out.below hH) (by decide) hH.size 28 g0 rfl (by decide)
     refine step_append_run rfl (.tmp 37) (.tmp 38) 28 rfl _ _ rfl rfl _ _ hrun ?_
     refine hK.out _ _ (hE.below hH hw_g0) (fun hH' => ?_)
     clear hK K hH; have hH := hH'; clear hH'; try simp only [List.setIfInBounds_toArray, List.set]
     have OA : Hid (x227.ownsRow W4.heap.size 5 1 (.slice (some ⟨g1, 0, none⟩) 32 c1) 32 (List.map (Value.int .u8) (B))) := by unfold Hid; simpa using hown
     clear hrun hown hE OL
     try simp only [Act.put, List.setIfInBounds_toArray, List.set_cons_zero, List.set_cons_succ]
     simp only [Nat.zero_add]
     refine rdy 5 (fun K hK => ?sn228)
     case sn228 =>
      go_simp
      have hb := bel1 x227 (.cells #[.int .u8 3] 5)
      have hLw : W4.heap.size ≤ x227.heap.size := hH.size
      have LX : Hid (Rd (x227.alloc (.cells #[.int .u8 3] 5)) (some ⟨x227.heap.size, 0, none⟩) 1 1 [3]) := rd_one x227 3 (by decide) 5
      refine hK.out _ _ (hH.trans hb) (fun hH' => ?_)
      clear hK K hH; have hH := hH'; clear hH'; try simp only [List.setIfInBounds_toArray, List.set]
      obtain ⟨x230, hnew⟩ : ∃ v, v = (x227.alloc (.cells #[.int .u8 3] 5)) := ⟨_, rfl⟩
      obtain ⟨lx, hbn⟩ : ∃ v, v = x227.heap.size := ⟨_, rfl⟩
      have hl_lx : x227.heap.size < (x227.alloc (.cells #[.int .u8 3] 5)).heap.size := by simp
      rw [← hnew] at hb hH LX hl_lx ⊢
      rw [← hbn] at LX hl_lx hLw ⊢
      have ne_g1_lx : g1 < lx := by omega
      have hw_lx : W4.heap.size ≤ lx := hLw
      clear hLw hbn hnew
      replace OA : Hid (x230.ownsRow W4.heap.size 5 1 (.slice (some ⟨g1, 0, none⟩) 32 c1) 32 (List.map (Value.int .u8) (B))) := owns_later OA.out hb
      replace hl_g1 : g1 < x230.heap.size := by have := hb.size; omega
      clear hb
      refine rdy 6 (fun K hK => ?sn231)
      case sn231 =>
       obtain ⟨g2, c2, x233, hrun, hown, hE, hgg, hw_g2, hl_g2⟩ := app8 x230 W4.heap.size (.slice (some ⟨g1, 0, none⟩) 32 c1) 32 (B) (some ⟨lx, 0, none⟩) 1 1 [3] OA.out LX.out (by decide) hH.size 28 g1 rfl (by decide)
       refine step_append_run rfl (.tmp 39) (.tmp 40) 28 rfl _ _ rfl rfl _ _ hrun ?_
       refine hK.out _ _ (hE.below hH hw_g1) (fun hH' => ?_)
       clear hK K hH; have hH := hH'; clear hH'; try simp only [List.setIfInBounds_toArray, List.set]
       have OB : Hid (Rd x233 (some ⟨g2, 0, none⟩) 33 c2 (B ++ [3])) := rd_own HBX.out hown
       clear hrun hown hE OA
       try simp only [Act.put, List.setIfInBounds_toArray, List.set_cons_zero, List.set_cons_succ]
       simp only [Nat.reduceAdd]
       refine rdy 7 (fun K hK => ?sn234)
       case sn234 =>
        go_simp
        refine (rhmac_c (some ⟨bt, 0, none⟩) 32 32 T (some ⟨g2, 0, none⟩) 33 c2 (B ++ [3]) _ (HRT.out.below hH) OB.out (HG.out.later hH) (by decide) (by decide)).mono ?_
        rintro e V236 ⟨S, rfl, HS, hb⟩
        refine hK.out _ _ (hH.trans hb) (fun hH' => ?_)
        clear hK K hH; have hH := hH'; clear hH'; try simp only [List.setIfInBounds_toArray, List.set]
        replace hl_g2 : True := trivial
        clear hb OB hl_g2
        exact hrest V236 g0 g1 c1 lx g2 c2 S ⟨hH, HS⟩
    case sn225 =>
     go_simp
     have hb := bel1 x223 (.cells #[.int .u8 3] 5)
     have hLw : W4.heap.size ≤ x223.heap.size := hH.size
     have LX : Hid (Rd (x223.alloc (.cells #[.int .u8 3] 5)) (some ⟨x223.heap.size, 0, none⟩) 1 1 [3]) := rd_one x223 3 (by decide) 5
     refine hK.out _ _ (hH.trans hb) (fun hH' => ?_)
     clear hK K hH; have hH := hH'; clear hH'; try simp only [List.setIfInBounds_toArray, List.set]
     obtain ⟨x238, hnew⟩ : ∃ v, v = (x223.alloc (.cells #[.int .u8 3] 5)) := ⟨_, rfl⟩
     obtain ⟨lx, hbn⟩ : ∃ v, v = x223.heap.size := ⟨_, rfl⟩
     have hl_lx : x223.heap.size < (x223.alloc (.cells #[.int .u8 3] 5)).heap.size := by simp
     rw [← hnew] at hb hH LX hl_lx ⊢
     rw [← hbn] at LX hl_lx hLw ⊢
     have ne_g0_lx : g0 < lx := by omega
     have hw_lx : W4.heap.size ≤ lx := hLw
     clear hLw hbn hnew
     replace OL : Hid (x238.ownsRow W4.heap.size 5 1 (.slice (some ⟨g0, 0, none⟩) 0 0) 0 (List.map (Value.int .u8) [])) := owns_later OL.out hb
     replace hl_g0 : g0 < x238.heap.size := by have := hb.size; omega
     clear hb
     refine rdy 4 (fun K hK => ?sn239)
     case sn239 =>
      obtain ⟨g1, c1, x241, hrun, hown, hE, hgg, hw_g1, hl_g1⟩ := app8 x238 W4.heap.size (.slice (some ⟨g0, 0, none⟩) 0 0) 0 [] (some ⟨bw, 0, none⟩) 32 32 B OL.out (HRB.out.below hH) (by decide) hH.size 28 g0 rfl (by decide)
      refine step_append_run rfl (.tmp 37) (.tmp 38) 28 rfl _ _ rfl rfl _ _ hrun ?_
      refine hK.out _ _ (hE.below hH hw_g0) (fun hH' => ?_)
      clear hK K hH; have hH := hH'; clear hH'; try simp only [List.setIfInBounds_toArray, List.set]
      have OA : Hid (x241.ownsRow W4.heap.size 5 1 (.slice (some ⟨g1, 0, none⟩) 32 c1) 32 (List.map (Value.int .u8) (B))) := by unfold Hid; simpa using hown
      have ne2_lx_g1 : lx ≠ g1 := by omega
      have ne3_lx_g0 : lx ≠ g0 := by omega
      replace LX : Hid (Rd x241 (some ⟨lx, 0, none⟩) 1 1 [3]) := LX.out.extb hE (by omega)
      replace hl_lx : lx < x241.heap.size := by have := hE.size; omega
      clear hrun hown hE OL
      try simp only [Act.put, List.setIfInBounds_toArray, List.set_cons_zero, List.set_cons_succ]
      simp only [Nat.zero_add]
      refine rdy 6 (fun K hK => ?sn242)
      case sn242 =>
       obtain ⟨g2, c2, x244, hrun, hown, hE, hgg, hw_g2, hl_g2⟩ := app8 x241 W4.heap.size (.slice (some ⟨g1, 0, none⟩) 32 c1) 32 (B) (some ⟨lx, 0, none⟩) 1 1 [3] OA.out LX.out (by decide) hH.size 28 g1 rfl (by decide)
       refine step_append_run rfl (.tmp 39) (.tmp 40) 28 rfl _ _ rfl rfl _ _ hrun ?_
       refine hK.out _ _ (hE.below hH hw_g1) (fun hH' => ?_)
       clear hK K hH; have hH := hH'; clear hH'; try simp only [List.setIfInBounds_toArray, List.set]
       have OB : Hid (Rd x244 (some ⟨g2, 0, none⟩) 33 c2 (B ++ [3])) := rd_own HBX.out hown
       clear hrun hown hE OA
       try simp only [Act.put, List.setIfInBounds_toArray, List.set_cons_zero, List.set_cons_succ]
       simp only [Nat.reduceAdd]
       refine rdy 7 (fun K hK => ?sn245)
       case sn245 =>
        go_simp
        refine (rhmac_c (some ⟨bt, 0, none⟩) 32 32 T (some ⟨g2, 0, none⟩) 33 c2 (B ++ [3]) _ (HRT.out.below hH) OB.out (HG.out.later hH) (by decide) (by decide)).mono ?_
        rintro e V247 ⟨S, rfl, HS, hb⟩
        refine hK.out _ _ (hH.trans hb) (fun hH' => ?_)
        clear hK K hH; have hH := hH'; clear hH'; try simp only [List.setIfInBounds_toArray, List.set]
        replace hl_g2 : True := trivial
        clear hb OB hl_g2
        exact hrest V247 g0 g1 c1 lx g2 c2 S ⟨hH, HS⟩
   case sn221 =>
    go_simp
    have hb := bel1 y8 (.cells #[.int .u8 3] 5)
    have hLw : W4.heap.size ≤ y8.heap.size := hH.size
    have LX : Hid (Rd (y8.alloc (.cells #[.int .u8 3] 5)) (some ⟨y8.heap.size, 0, none⟩) 1 1 [3]) := rd_one y8 3 (by decide) 5
    refine hK.out _ _ (hH.trans hb) (fun hH' => ?_)
    clear hK K hH; have hH := hH'; clear hH'; try simp only [List.setIfInBounds_toArray, List.set]
    obtain ⟨x249, hnew⟩ : ∃ v, v = (y8.alloc (.cells #[.int .u8 3] 5)) := ⟨_, rfl⟩
    obtain ⟨lx, hbn⟩ : ∃ v, v = y8.heap.size := ⟨_, rfl⟩
    have hl_lx : y8.heap.size < (y8.alloc (.cells #[.int .u8 3] 5)).heap.size := by simp
    rw [← hnew] at hb hH LX hl_lx ⊢
    rw [← hbn] at LX hl_lx hLw ⊢
    have hw_lx : W4.heap.size ≤ lx := hLw
    clear hLw hbn hnew
    clear hb
    refine rdy 2 (fun K hK => ?sn250)
    case sn250 =>
     go_simp
     have hb := bel1 x249 (.cells #[] 5)
     have hLw : W4.heap.size ≤ x249.heap.size := hH.size
     have OL : Hid ((x249.alloc (.cells #[] 5)).ownsRow W4.heap.size 5 1 (.slice (some ⟨x249.heap.size, 0, none⟩) 0 0) 0 (List.map (Value.int .u8) [])) := World.ownsRow_made x249 #[] 0 hH.size (by decide) rfl
     refine hK.out _ _ (hH.trans hb) (fun hH' => ?_)
     clear hK K hH; have hH := hH'; clear hH'; try simp only [List.setIfInBounds_toArray, List.set]
     obtain ⟨x252, hnew⟩ : ∃ v, v = (x249.alloc (.cells #[] 5)) := ⟨_, rfl⟩
     obtain ⟨g0, hbn⟩ : ∃ v, v = x249.heap.size := ⟨_, rfl⟩
     have hl_g0 : x249.heap.size < (x249.alloc (.cells #[] 5)).heap.size := by simp
     rw [← hnew] at hb hH OL hl_g0 ⊢
     rw [← hbn] at OL hl_g0 hLw ⊢
     have ne_lx_g0 : lx < g0 := by omega
     have hw_g0 : W4.heap.size ≤ g0 := hLw
     clear hLw hbn hnew
     replace LX := hidp (LX.out.below hb)
     replace hl_lx : lx < x252.heap.size := by have := hb.size; omega
     clear hb
     refine rdy 4 (fun K hK => ?sn253)
     case sn253 =>
      obtain ⟨g1, c1, x255, hrun, hown, hE, hgg, hw_g1, hl_g1⟩ := app8 x252 W4.heap.size (.slice (some ⟨g0, 0, none⟩) 0 0) 0 [] (some ⟨bw, 0, none⟩) 32 32 B OL.out (HRB.out.below hH) (by decide) hH.size 28 g0 rfl (by decide)
      refine step_append_run rfl (.tmp 37) (.tmp 38) 28 rfl _ _ rfl rfl _ _ hrun ?_
      refine hK.out _ _ (hE.below hH hw_g0) (fun hH' => ?_)
      clear hK K hH; have hH := hH'; clear hH'; try simp only [List.setIfInBounds_toArray, List.set]
      have OA : Hid (x255.ownsRow W4.heap.size 5 1 (.slice (some ⟨g1, 0, none⟩) 32 c1) 32 (List.map (Value.int .u8) (B))) := by unfold Hid; simpa using hown
      have ne2_lx_g1 : lx ≠ g1 := by omega
      have ne3_lx_g0 : lx ≠ g0 := by omega
      replace LX : Hid (Rd x255 (some ⟨lx, 0, none⟩) 1 1 [3]) := LX.out.extb hE (by omega)
      replace hl_lx : lx < x255.heap.size := by have := hE.size; omega
      clear hrun hown hE OL
      try simp only [Act.put, List.setIfInBounds_toArray, List.set_cons_zero, List.set_cons_succ]
      simp only [Nat.zero_add]
      refine rdy 6 (fun K hK => ?sn256)
      case sn256 =>
       obtain ⟨g2, c2, x258, hrun, hown, hE, hgg, hw_g2, hl_g2⟩ := app8 x255 W4.heap.size (.slice (some ⟨g1, 0, none⟩) 32 c1) 32 (B) (some ⟨lx, 0, none⟩) 1 1 [3] OA.out LX.out (by decide) hH.size 28 g1 rfl (by decide)
       refine step_append_run rfl (.tmp 39) (.tmp 40) 28 rfl _ _ rfl rfl _ _ hrun ?_
       refine hK.out _ _ (hE.below hH hw_g1) (fun hH' => ?_)
       clear hK K hH; have hH := hH'; clear hH'; try simp only [List.setIfInBounds_toArray, List.set]
       have OB : Hid (Rd x258 (some ⟨g2, 0, none⟩) 33 c2 (B ++ [3])) := rd_own HBX.out hown
       clear hrun hown hE OA
       try simp only [Act.put, List.setIfInBounds_toArray, List.set_cons_zero, List.set_cons_succ]
       simp only [Nat.reduceAdd]
       refine rdy 7 (fun K hK => ?sn259)
       case sn259 =>
        go_simp
        refine (rhmac_c (some ⟨bt, 0, none⟩) 32 32 T (some ⟨g2, 0, none⟩) 33 c2 (B ++ [3]) _ (HRT.out.below hH) OB.out (HG.out.later hH) (by decide) (by decide)).mono ?_
        rintro e V261 ⟨S, rfl, HS, hb⟩
        refine hK.out _ _ (hH.trans hb) (fun hH' => ?_)
        clear hK K hH; have hH := hH'; clear hH'; try simp only [List.setIfInBounds_toArray, List.set]
        replace hl_g2 : True := trivial
        clear hb OB hl_g2
        exact hrest V261 g0 g1 c1 lx g2 c2 S ⟨hH, HS⟩
  case hr =>
  rintro u8 h0 h1 d1 mx h2 d2 C ⟨hE, HC3⟩
  have hH := hE.out
  clear hE
  have HCN : Hid (Bn 32 C) := by unfold Hid; rw [HC3.out]; exact hm8_bn _ _
  refine rdy 8 (fun K hK => ?_)
  refine step_b1 rfl (.tmp 42) rfl C HCN.out rfl ?_
  have hb := bel1 u8 (.cells (List.map (Value.int .u8) C).toArray 33)
  have A9 : Hid (Ar (u8.alloc (.cells (List.map (Value.int .u8) C).toArray 33)) u8.heap.size 32 (List.map (Value.int .u8) C)) := ar_box u8 _ 32 HCN.out.map_len _
  refine hK.out _ _ (hH.trans hb) (fun hH' => ?_)
  clear hK K hH; have hH := hH'; clear hH'; try simp only [List.setIfInBounds_toArray, List.set]
  obtain ⟨v8, hnew⟩ : ∃ v, v = u8.alloc (.cells (List.map (Value.int .u8) C).toArray 33) := ⟨_, rfl⟩
  obtain ⟨x8, hbn⟩ : ∃ v, v = u8.heap.size := ⟨_, rfl⟩
  rw [← hnew] at hb hH A9 ⊢
  rw [← hbn] at A9 ⊢
  clear hnew hbn hb
  try simp only [Act.put, List.setIfInBounds_toArray, List.set_cons_zero, List.set_cons_succ]
  obtain ⟨g9, c9, v9, hrun, hown, hbel⟩ := app32 v8 g6 2 2 (A ++ B) (by simp [HAN.out.len, HSN.out.len]) (range_later hH OW.out.rng) x8 C HCN.out A9.out.rng (by decide) (by decide) 57
  refine rdy 9 (fun K hK => ?_)
  refine step_append_run rfl (.tmp 35) (.tmp 43) 57 rfl _ _ rfl rfl _ _ hrun ?_
  refine hK.out _ _ (hH.trans hbel) (fun hH' => ?_)
  clear hK K hH; have hH := hH'; clear hH'; try simp only [List.setIfInBounds_toArray, List.set]
  try simp only [Act.put, List.setIfInBounds_toArray, List.set_cons_zero, List.set_cons_succ]
  refine tk 10 ?_
  try simp only [Act.put, List.setIfInBounds_toArray, List.set_cons_zero, List.set_cons_succ]
  refine wpAnyH_done (by kernel_rfl) ?_ _
  refine NoPanic.normal ?_
  have OW9 : Hid (Ar v9 g9 96 (List.map (Value.int .u8) ((A ++ B) ++ C))) := hown
  clear hrun hown hbel
  replace HB := hidp (HB.out.trans (Below.mono hH HB.out.size))
  clear hH
  go_wp2
  go_ret
  exact ⟨g9, ⟨c9, rfl⟩, ⟨kl8_len _ _, kl8_bn _ _, fun _ => ⟨g9, rfl, by have := OW9.out.rng; rw [kl8_three, ← HT.out, ← HA.out, ← HS.out, ← HC3.out]; simpa using this⟩⟩, HB.out⟩
end Go.Proofs.YtmibjgkakolhiaaGreatDoor
