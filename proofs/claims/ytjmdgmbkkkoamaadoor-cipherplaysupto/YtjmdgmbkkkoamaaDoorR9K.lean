/-
  What the reference's Cipher's Rekey does. No statement of the seat is proved here.
-/
import Derived.Test.YtjmdgmbkkkoamaaDoorR9O
import Derived.Test.YtjmdgmbkkkoamaaDoorPk24
namespace Go.Proofs.YtjmdgmbkkkoamaaDoor
open Go.RowKit

set_option maxRecDepth 8000 in
theorem half9_set (K k : List Int) (j : Nat) (h : j < K.length) (hk : k.length = K.length) : (K.take j ++ k.drop j).set j (K[j]?.getD 0) = K.take (j + 1) ++ k.drop (j + 1) := by
  have e := List.drop_eq_getElem_cons (show j < k.length by omega)
  rw [List.set_append_right _ _ (by rw [List.length_take]; omega), List.length_take, Nat.min_eq_left (Nat.le_of_lt h), Nat.sub_self, e, List.set_cons_zero, List.take_add_one, List.getElem?_eq_getElem h]
  simp only [Option.getD_some, Option.toList_some, List.append_assoc, List.cons_append, List.nil_append]
set_option maxRecDepth 8000 in
set_option maxHeartbeats 2000000 in
theorem rrekey9_none (b : Nat) (k : List Int) (n : Int) (w : World) (hs : Cx w b k false n) :
    Calls Tryd.prog 11 #[.pointer (some ⟨b, 0, none⟩)] w fun e w' => e = .returned (.int .i64 4) ∧ w' = w := by
  obtain ⟨ch, -⟩ := hs.has
  clear hs
  go_enter Tryd.func11, Tryd.ntmps11
  go_wp2
  go_ret
  exact ⟨rfl, rfl⟩
set_option maxRecDepth 8000 in
set_option maxHeartbeats 4000000 in
theorem rrekey9_yes (b : Nat) (k : List Int) (n : Int) (w : World) (hs : Cx w b k true n) (hg : Gr w) :
    Calls Tryd.prog 11 #[.pointer (some ⟨b, 0, none⟩)] w fun e w' => ∃ K, e = .returned (.int .i64 0) ∧ Hid (K = rk9 k) ∧ Hid (Cx w' b K true n) ∧ ExtB b w w' := by
  have HS : Hid (Cx w b k true n) := hs
  have HG : Hid (Gr w) := hg
  obtain ⟨ch, -⟩ := hs.has
  obtain ⟨_, _, hiK⟩ := bn32_cells hs.bk
  clear hs hg
  go_enter Tryd.func11, Tryd.ntmps11
  go_upto_region 3 with fail
  refine wp_region_noPanic ?_
  refine wp_region_held_drew (S := Ext w) (by kernel_rfl) (Ext.refl _).drew (fun hH => ?_)
  change wpAnyH _ _ _ _ _ _ #[false, false, false, false, false, false, false, false] _ _
  refine wpAnyH_take (i := 0) (oi := ?o0p) (v := ?v0p) ?h0p (by kernel_rfl) ?f0p ?r0p (fun _ _ _ h => h) (Or.inl ⟨?w0p, ?y0p⟩) (by assumption) ?t0p
  case h0p => simp only [List.getElem?_toArray]; rfl
  case f0p => kernel_rfl
  case r0p => kernel_rfl
  case w0p => rfl
  case y0p => (intro u hu; (go_simp) <;> with_reducible rfl)
  try simp only [Act.put, List.setIfInBounds_toArray, List.set_cons_zero, List.set_cons_succ]
  refine wpAnyH_take (i := 1) (oi := ?o1p) (v := ?v1p) ?h1p (by kernel_rfl) ?f1p ?r1p (fun _ _ _ h => h) (Or.inl ⟨?w1p, ?y1p⟩) (by assumption) ?t1p
  case h1p => simp only [List.getElem?_toArray]; rfl
  case f1p => kernel_rfl
  case r1p => kernel_rfl
  case w1p => rfl
  case y1p => (intro u hu; (go_simp) <;> with_reducible rfl)
  try simp only [Act.put, List.setIfInBounds_toArray, List.set_cons_zero, List.set_cons_succ]
  refine wpAnyH_take (i := 2) (oi := ?o2p) (v := ?v2p) ?h2p (by kernel_rfl) ?f2p ?r2p (fun _ _ _ h => h) (Or.inl ⟨?w2p, ?y2p⟩) (by assumption) ?t2p
  case h2p => simp only [List.getElem?_toArray]; rfl
  case f2p => kernel_rfl
  case r2p => kernel_rfl
  case w2p => rfl
  case y2p => (intro u hu; (go_simp) <;> with_reducible rfl)
  try simp only [Act.put, List.setIfInBounds_toArray, List.set_cons_zero, List.set_cons_succ]
  refine wpAnyH_take (i := 3) (oi := ?o3p) (v := .agg (List.map (Value.int .u8) k).toArray) ?h3p (by kernel_rfl) ?f3p ?r3p (fun _ _ _ h => h) ?y3p (by assumption) ?t3p
  case h3p => simp only [List.getElem?_toArray]; rfl
  case f3p => kernel_rfl
  case r3p => kernel_rfl
  case y3p => exact yieldsIf_load_mid (by rfl) 27 (.tmp 12) rfl b 1 rfl (List.map (Value.int .u8) k) _ (fun u hu => range_later hu HS.out.key) Tryd.underlying27 rfl hiK
  try simp only [Act.put, List.setIfInBounds_toArray, List.set_cons_zero, List.set_cons_succ]
  generalize w.drew = y0 at *
  revert hH
  apply cut2 (F := fun u x N => Hid (Ext w u) ∧ Hid (Ow u x 32 (List.replicate 32 0)) ∧ Hid (N = nn6 18446744073709551615) ∧ Hid (Bn 12 N))
  case h =>
    intro hrest hH
    refine wpAnyH_ready (rs := [4, 5]) (by kernel_rfl) (by simp) ?_
    refine AllReadyH.cons (o := ?ok1) ?hk1 (fun K hK => ?sk1) (AllReadyH.cons (o := ?ok2) ?hk2 (fun K hK => ?sk2) AllReadyH.nil)
    case hk1 => simp only [List.getElem?_toArray]; rfl
    case hk2 => simp only [List.getElem?_toArray]; rfl
    case sk1 =>
      go_simp
      refine (rnonce_c 18446744073709551615 (by decide) (by decide) _).mono ?_
      rintro e V4 ⟨N, rfl, HN, HNn, hb⟩
      refine hK.out _ _ (hH.trans hb) (fun hH' => ?_)
      clear hK K hH
      have hH := hH'
      clear hH'
      try simp only [List.setIfInBounds_toArray, List.set]
      clear hb
      refine wpAnyH_ready (rs := [5]) (by kernel_rfl) (by simp) ?_
      refine AllReadyH.cons (o := ?ok5) ?hk5 (fun K hK => ?sk5) AllReadyH.nil
      case hk5 => simp only [List.getElem?_toArray]; rfl
      case sk5 =>
        obtain ⟨V7, hrun, hO, hb⟩ := make_l V4 32 (by decide)
        refine step_make_run rfl (.const (.int .i64 32)) (.const (.int .i64 32)) 31 rfl _ _ rfl rfl _ _ hrun ?_
        have Ox : Hid (Ow V7 V4.heap.size 32 (List.replicate 32 0)) := hO
        refine hK.out _ _ (hH.trans hb) (fun hH' => ?_)
        clear hK K hH
        have hH := hH'
        clear hH'
        try simp only [List.setIfInBounds_toArray, List.set]
        obtain ⟨bx, hbn⟩ : ∃ v, v = V4.heap.size := ⟨_, rfl⟩
        rw [← hbn] at Ox ⊢
        clear hb hrun hO hbn
        exact hrest V7 bx N ⟨hH, Ox, HN, HNn⟩
    case sk2 =>
      obtain ⟨V9, hrun, hO, hb⟩ := make_l y0 32 (by decide)
      refine step_make_run rfl (.const (.int .i64 32)) (.const (.int .i64 32)) 31 rfl _ _ rfl rfl _ _ hrun ?_
      have Ox : Hid (Ow V9 y0.heap.size 32 (List.replicate 32 0)) := hO
      refine hK.out _ _ (hH.trans hb) (fun hH' => ?_)
      clear hK K hH
      have hH := hH'
      clear hH'
      try simp only [List.setIfInBounds_toArray, List.set]
      obtain ⟨bx, hbn⟩ : ∃ v, v = y0.heap.size := ⟨_, rfl⟩
      rw [← hbn] at Ox ⊢
      clear hb hrun hO hbn
      refine wpAnyH_ready (rs := [4]) (by kernel_rfl) (by simp) ?_
      refine AllReadyH.cons (o := ?ok10) ?hk10 (fun K hK => ?sk10) AllReadyH.nil
      case hk10 => simp only [List.getElem?_toArray]; rfl
      case sk10 =>
        go_simp
        refine (rnonce_c 18446744073709551615 (by decide) (by decide) _).mono ?_
        rintro e V12 ⟨N, rfl, HN, HNn, hb⟩
        refine hK.out _ _ (hH.trans hb) (fun hH' => ?_)
        clear hK K hH
        have hH := hH'
        clear hH'
        try simp only [List.setIfInBounds_toArray, List.set]
        replace Ox : Hid (Ow V12 bx 32 (List.replicate 32 0)) := Ox.out.later hb
        clear hb
        exact hrest V12 bx N ⟨hH, Ox, HN, HNn⟩
  case hr =>
    rintro Y2 bx N ⟨hE, Ox, HN, HNn⟩
    have hH := hE.out
    clear hE
    refine wpAnyH_ready (rs := [6]) (by kernel_rfl) (by simp) ?_
    refine AllReadyH.cons (o := ?o6q) ?h6q (fun K hK => ?_) AllReadyH.nil
    case h6q => simp only [List.getElem?_toArray]; rfl
    go_simp
    refine (rseal_c k N none 0 0 [] (some ⟨bx, 0, none⟩) 32 32 (List.replicate 32 0) HS.out.bk HNn.out _ (Rd.nil _ _ _ (fun _ => rfl)) Ox.out.rd (HG.out.later hH) (by decide)).mono ?_
    rintro e V2 ⟨aB, mB, cB, XB, rfl, HmB, HXB, OB, hb⟩
    have hY2 : w.heap.size ≤ Y2.heap.size := hH.size
    refine hK.out _ _ (hH.trans hb) (fun hH' => ?_)
    clear hK K hH
    have hH := hH'
    clear hH'
    try simp only [List.setIfInBounds_toArray, List.set]
    refine wpAnyH_take (i := 7) (oi := ?o7q) (v := ?v7q) ?h7q (by kernel_rfl) ?f7q ?r7q (fun _ _ _ h => h) (Or.inl ⟨?w7q, ?y7q⟩) (by assumption) ?t7q
    case h7q => simp only [List.getElem?_toArray]; rfl
    case f7q => kernel_rfl
    case r7q => kernel_rfl
    case w7q => rfl
    case y7q => (intro u hu; (go_simp) <;> with_reducible rfl)
    try simp only [Act.put, List.setIfInBounds_toArray, List.set_cons_zero, List.set_cons_succ]
    refine wpAnyH_done (by kernel_rfl) ?_ _
    refine NoPanic.normal ?_
    have hlt0 := HS.out.lt
    have hm : mB = 48 := HmB.out
    subst hm
    obtain ⟨K, hKK⟩ : ∃ K, K = XB.take 32 := ⟨_, rfl⟩
    have HKR : Hid (K = rk9 k) := by unfold Hid rk9; rw [hKK, HXB.out, HN.out]
    have HKn : Hid (Bn 32 K) := by unfold Hid; rw [HKR.out]; exact rk9_bn k
    have hXb : Byt XB := by rw [HXB.out]; exact se6_byt _ _ _ (byt_zero 32)
    obtain ⟨gB, haB, hgB, -⟩ := owns_block OB.out (by decide)
    have RX := rd_own hXb OB.out
    obtain ⟨gB', oB, haB', hcB⟩ := RX.cell (by decide)
    have hgb : gB' ≠ b := by
      rw [haB'] at haB
      cases haB
      omega
    have HCB : Hid (∀ i, i < 32 → V2.cell? ⟨gB', oB + i, none⟩ = some (.int .u8 (K[i]?.getD 0)) ∧ 0 ≤ K[i]?.getD 0 ∧ K[i]?.getD 0 ≤ 255) := fun i hi => by
      refine ⟨?_, HKn.out.byt.at i⟩
      rw [hcB i (by omega), hKK, List.getElem?_take_of_lt hi]
    have hkl : k.length = 32 := HS.out.bk.len
    replace HS : Hid (Cx V2 b (K.take 0 ++ k.drop 0) true n) := HS.out.later hH
    have HE : Hid (ExtB b w V2) := ⟨hH.os, hH.tape, hH.output, hH.size, fun i hi _ => hH.block i hi⟩
    have HE2 : Hid (ExtB b V2 V2) := ExtB.refl _ _
    rw [haB'] at haB
    subst haB'
    clear haB hcB RX hXb hKK HXB OB HN HNn Ox HmB hb hH hY2 ch hiK hgB HG
    go_wp2
    go_loopw [4] (fun iv wr => ∃ (j : Nat), iv = .int .i64 j ∧ j ≤ 32 ∧ Hid (Cx wr b (K.take j ++ k.drop j) true n) ∧ Hid (ExtB b w wr) ∧ Hid (ExtB b V2 wr)) (fun iv _ => 32 - (intOf iv).toNat)
    case atStart => exact ⟨0, rfl, by decide, HS, HE, HE2⟩
    case round =>
      clear HS HE HE2
      obtain ⟨j, rfl, hj, HS, HE, HE2⟩ := hrel
      by_cases hlt : j < 32
      · have q1 : (j : Int) < 32 := by omega
        have q2 : (j : Int) < 48 := by omega
        obtain ⟨cx, x0, x1⟩ := HCB.out j hlt
        replace cx := HE2.out.cell hgb cx
        obtain ⟨x, hx⟩ : ∃ x, x = K[j]?.getD 0 := ⟨_, rfl⟩
        rw [← hx] at cx x0 x1
        have HX : Hid (x = K[j]?.getD 0) := hx
        clear hx
        go_upto_region 7 with fail
        refine wp_region_noPanic ?_
        refine wp_region_held_drew (S := ExtB b wr) (by kernel_rfl) (ExtB.refl _ _).drew (fun hH => ?_)
        change wpAnyH _ _ _ _ _ _ #[false, false, false, false, false, false, false, false, false, false] _ _
        have hcx : ∀ u, ExtB b wr u → u.cell? ⟨gB', oB + j, none⟩ = some (.int .u8 x) := fun u hu => hu.cell hgb cx
        refine wpAnyH_take (i := 0) (oi := ?o0z) (v := ?v0z) ?h0z (by kernel_rfl) ?f0z ?r0z (fun _ _ _ h => h) (Or.inl ⟨?w0z, ?y0z⟩) (by assumption) ?t0z
        case h0z => simp only [List.getElem?_toArray]; rfl
        case f0z => kernel_rfl
        case r0z => kernel_rfl
        case w0z => rfl
        case y0z => (intro u hu; (go_simp) <;> with_reducible rfl)
        try simp only [Act.put, List.setIfInBounds_toArray, List.set_cons_zero, List.set_cons_succ]
        refine wpAnyH_take (i := 1) (oi := ?o1z) (v := ?v1z) ?h1z (by kernel_rfl) ?f1z ?r1z (fun _ _ _ h => h) (Or.inl ⟨?w1z, ?y1z⟩) (by assumption) ?t1z
        case h1z => simp only [List.getElem?_toArray]; rfl
        case f1z => kernel_rfl
        case r1z => kernel_rfl
        case w1z => rfl
        case y1z => (intro u hu; (go_simp) <;> with_reducible rfl)
        try simp only [Act.put, List.setIfInBounds_toArray, List.set_cons_zero, List.set_cons_succ]
        refine wpAnyH_take (i := 2) (oi := ?o2z) (v := ?v2z) ?h2z (by kernel_rfl) ?f2z ?r2z (fun _ _ _ h => h) (Or.inl ⟨?w2z, ?y2z⟩) (by assumption) ?t2z
        case h2z => simp only [List.getElem?_toArray]; rfl
        case f2z => kernel_rfl
        case r2z => kernel_rfl
        case w2z => rfl
        case y2z => (intro u hu; (go_simp) <;> with_reducible rfl)
        try simp only [Act.put, List.setIfInBounds_toArray, List.set_cons_zero, List.set_cons_succ]
        refine wpAnyH_take (i := 3) (oi := ?o3z) (v := ?v3z) ?h3z (by kernel_rfl) ?f3z ?r3z (fun _ _ _ h => h) (Or.inl ⟨?w3z, ?y3z⟩) (by assumption) ?t3z
        case h3z => simp only [List.getElem?_toArray]; rfl
        case f3z => kernel_rfl
        case r3z => kernel_rfl
        case w3z => rfl
        case y3z => (intro u hu; (go_simp) <;> with_reducible rfl)
        try simp only [Act.put, List.setIfInBounds_toArray, List.set_cons_zero, List.set_cons_succ]
        refine wpAnyH_take (i := 4) (oi := ?o4z) (v := ?v4z) ?h4z (by kernel_rfl) ?f4z ?r4z (fun _ _ _ h => h) (Or.inl ⟨?w4z, ?y4z⟩) (by assumption) ?t4z
        case h4z => simp only [List.getElem?_toArray]; rfl
        case f4z => kernel_rfl
        case r4z => kernel_rfl
        case w4z => rfl
        case y4z => (intro u hu; (go_simp) <;> with_reducible rfl)
        try simp only [Act.put, List.setIfInBounds_toArray, List.set_cons_zero, List.set_cons_succ]
        refine wpAnyH_take (i := 5) (oi := ?o5z) (v := ?v5z) ?h5z (by kernel_rfl) ?f5z ?r5z (fun _ _ _ h => h) (Or.inl ⟨?w5z, ?y5z⟩) (by assumption) ?t5z
        case h5z => simp only [List.getElem?_toArray]; rfl
        case f5z => kernel_rfl
        case r5z => kernel_rfl
        case w5z => rfl
        case y5z => (intro u hu; (have hx := hcx u hu; go_simp) <;> with_reducible rfl)
        try simp only [Act.put, List.setIfInBounds_toArray, List.set_cons_zero, List.set_cons_succ]
        refine wpAnyH_take (i := 6) (oi := ?o6z) (v := ?v6z) ?h6z (by kernel_rfl) ?f6z ?r6z (fun _ _ _ h => h) (Or.inl ⟨?w6z, ?y6z⟩) (by assumption) ?t6z
        case h6z => simp only [List.getElem?_toArray]; rfl
        case f6z => kernel_rfl
        case r6z => kernel_rfl
        case w6z => rfl
        case y6z => (intro u hu; (go_simp) <;> with_reducible rfl)
        try simp only [Act.put, List.setIfInBounds_toArray, List.set_cons_zero, List.set_cons_succ]
        refine wpAnyH_take (i := 7) (oi := ?o7z) (v := ?v7z) ?h7z (by kernel_rfl) ?f7z ?r7z (fun _ _ _ h => h) (Or.inl ⟨?w7z, ?y7z⟩) (by assumption) ?t7z
        case h7z => simp only [List.getElem?_toArray]; rfl
        case f7z => kernel_rfl
        case r7z => kernel_rfl
        case w7z => rfl
        case y7z => (intro u hu; (go_simp) <;> with_reducible rfl)
        try simp only [Act.put, List.setIfInBounds_toArray, List.set_cons_zero, List.set_cons_succ]
        refine wpAnyH_take (i := 8) (oi := ?o8z) (v := ?v8z) ?h8z (by kernel_rfl) ?f8z ?r8z (fun _ _ _ h => h) (Or.inl ⟨?w8z, ?y8z⟩) (by assumption) ?t8z
        case h8z => simp only [List.getElem?_toArray]; rfl
        case f8z => kernel_rfl
        case r8z => kernel_rfl
        case w8z => rfl
        case y8z => (intro u hu; (go_simp) <;> with_reducible rfl)
        try simp only [Act.put, List.setIfInBounds_toArray, List.set_cons_zero, List.set_cons_succ]
        obtain ⟨y, cy, fy⟩ := HS.out.byte j hlt
        refine wpAnyH_ready (rs := [9]) (by kernel_rfl) (by simp) ?_
        refine AllReadyH.cons (o := ?o9z) ?h9z (fun K hK => ?_) AllReadyH.nil
        case h9z => simp only [List.getElem?_toArray]; rfl
        go_simp
        refine hK.out _ _ ((hH.set (1 + j) _)) (fun hH' => ?_)
        clear hK K hH
        have hH := hH'
        clear hH'
        try simp only [List.setIfInBounds_toArray, List.set]
        refine wpAnyH_done (by kernel_rfl) ?_ _
        refine NoPanic.normal ?_
        have HS2 : Hid (Cx (wr.setCell ⟨b, 1 + j, none⟩ (.int .u8 x)).drew b (K.take (j + 1) ++ k.drop (j + 1)) true n) := by
          have := (HS.out.setOne j hlt ⟨x0, x1⟩).drew
          rwa [HX.out, half9_set K k j (by rw [HKn.out.len]; exact hlt) (by rw [HKn.out.len, hkl]), ← HX.out] at this
        have HE3 : Hid (ExtB b w (wr.setCell ⟨b, 1 + j, none⟩ (.int .u8 x)).drew) := HE.out.comp hH
        have HE4 : Hid (ExtB b V2 (wr.setCell ⟨b, 1 + j, none⟩ (.int .u8 x)).drew) := HE2.out.comp hH
        clear HS HE HE2 hH hcx cx cy fy HX
        go_wp2
        go_roundw
        case rel => exact ⟨j + 1, by go_num, by omega, HS2, HE3, HE4⟩
        case measure => simp [intOf]; omega
      · have e : j = 32 := by omega
        subst e
        have eK : K.take 32 ++ k.drop 32 = K := by rw [List.take_of_length_le (by rw [HKn.out.len]; decide), List.drop_eq_nil_of_le (by omega), List.append_nil]
        rw [eK] at HS
        go_wp2
        go_ret
        exact ⟨K, rfl, HKR, HS, HE.out⟩
end Go.Proofs.YtjmdgmbkkkoamaaDoor
