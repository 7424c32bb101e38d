/-
  What the reference's Apply does: the same text with the stream. No statement of the seat is proved here.
-/
import Derived.Test.YtjmdgmbkkkoamaaDoorPk13
import Derived.Test.YtjmdgmbkkkoamaaDoorRBlk
import Derived.Test.YtjmdgmbkkkoamaaDoorPk10
namespace Go.Proofs.YtjmdgmbkkkoamaaDoor
open Go.RowKit


set_option maxRecDepth 8000 in
theorem owns_below {u v : World} {base : Nat} {e : TypeId} {x : Value} {n : Nat} {xs : List Value} (h : u.ownsRow base e 1 x n xs) (hb : Below u.heap.size u v) : v.ownsRow base e 1 x n xs :=
  h.kept (w' := v) (row := none) ⟨hb.os, hb.tape, hb.output, hb.size, fun k hk _ => hb.block k hk⟩ (Classical.em _)
set_option maxRecDepth 8000 in
theorem min_take (key : List Int) (c : Int) (nonce text : List Int) (k : Nat) (h : 64 * k < text.length) (m : Nat) (hm : m = min 64 (text.length - 64 * k)) (B : List Int) (hB : B = blk key (ad c k) nonce) : (ap key c nonce text).take (64 * k) ++ xorL ((text.drop (64 * k)).take m) B = (ap key c nonce text).take (64 * (k + 1)) := by
  rw [← ap_step key c nonce text k h, ← hB]
  congr 1
  have hl : B.length = 64 := by rw [hB]; exact (blk_bn _ _ _).len
  rcases Nat.le_total 64 (text.length - 64 * k) with h1 | h1
  · rw [show m = 64 by omega]
    exact xorL_cut _ _ 64 (by omega)
  · rw [List.take_of_length_le (by rw [List.length_drop]; omega)]

set_option maxRecDepth 8000 in
set_option maxHeartbeats 8000000 in
theorem rapply_c (key : List Int) (count : Int) (nonce : List Int) (a : Option Addr) (len cap : Nat) (text : List Int) (hk : Bn 32 key) (hc : W32 count) (hn : Bn 12 nonce) (w : World) (hr : Rd w a len cap text) (hm : len ≤ 140737488351232) (hg : Gr w) :
    Calls Tryd.prog 29 #[(.agg (List.map (Value.int .u8) key).toArray), .int .u32 count, (.agg (List.map (Value.int .u8) nonce).toArray), .slice a len cap] w fun e w' => ∃ a' c' X, e = .returned (.slice a' len c') ∧ Hid (X = ap key count nonce text) ∧ Hid (Rd w' a' len c' X) ∧ Below w.heap.size w w' := by
  obtain ⟨i0, hi, hz0, hz1, hz2⟩ := info_parts info5
  have HK : Hid (Bn 32 key) := hk
  have HN : Hid (Bn 12 nonce) := hn
  have HTL : Hid (text.length = len) := hr.hlen
  have HTB : Hid (Byt text) := hr.byt
  have hle := hr.hle
  obtain ⟨c0, c1⟩ := hc
  clear hk hn
  obtain ⟨_, _, hiK⟩ := bn32_cells HK.out
  obtain ⟨_, _, hiN⟩ := bn12_cells HN.out
  go_enter Tryd.func29, Tryd.ntmps29
  go_upto_region 1 with fail
  obtain ⟨W0, hW0⟩ : ∃ W, W = (w.alloc (.cells (List.map (Value.int .u8) key).toArray 27)).alloc (.cells (List.map (Value.int .u8) nonce).toArray 48) := ⟨_, rfl⟩
  obtain ⟨q1, hq1⟩ : ∃ q, q = w.heap.size + 1 := ⟨_, rfl⟩
  rw [← hW0, ← hq1]
  have AK : Hid (Ar W0 w.heap.size 32 (List.map (Value.int .u8) key)) := by unfold Hid; rw [hW0]; exact (ar_box w _ 32 HK.out.map_len _).later (bel1 _ _)
  have AN : Hid (Ar W0 q1 12 (List.map (Value.int .u8) nonce)) := by unfold Hid; rw [hW0, hq1]; have := ar_box (w.alloc (.cells (List.map (Value.int .u8) key).toArray 27)) _ 12 HN.out.map_len 48; simpa using this
  have HB : Hid (Below w.heap.size w W0) := by unfold Hid; rw [hW0]; exact bel2 _ _ _
  have HR : Hid (Rd W0 a len cap text) := hr.below HB.out
  have HG : Hid (Gr W0) := hg.later HB.out
  clear hW0 hq1 hr hg
  go_wp2
  go_loopw [3, 9, 1] (fun tv v c wr => ∃ (k n r : Nat) (d : Int) (a' : Option Addr) (c' : Nat), tv = .slice a' r c' ∧ c = .int .u32 d ∧ 0 ≤ d ∧ d < 4294967296 ∧ Hid (n = min (64 * k) len) ∧ Hid (r = len - n) ∧ Hid (d = ad count k) ∧ Hid (Ext W0 wr) ∧ Hid (Rd W0 a' r c' (text.drop n)) ∧ Hid (wr.ownsRow W0.heap.size 5 1 v n (List.map (Value.int .u8) ((ap key count nonce text).take (64 * k))))) (fun tv _ _ _ => slen tv)
  case atStart => exact ⟨0, 0, len, count, a, cap, rfl, rfl, c0, c1, by simp [Hid], by simp [Hid], by unfold Hid ad; omega, Ext.refl _, HR, by have := World.ownsRow_nil W0 W0.heap.size 5 1; simpa [Hid] using this⟩
  case round =>
    obtain ⟨k, n, r, d, a', c', rfl, rfl, d0, d1, HN2, HRl, HD, HE, HT, HO⟩ := hrel
    by_cases hlt : 0 < r
    · have g1 : (0 : Int) < r := by omega
      have hnk : Hid (n = 64 * k) := by have h1 := HN2.out; have h2 := HRl.out; unfold Hid; omega
      have hnl : n < len := by have h2 := HRl.out; omega
      have hrl : r ≤ len := by have h2 := HRl.out; omega
      obtain ⟨b, off, rfl, hcell⟩ := HT.out.cell hlt
      clear hcell
      have AK' := AK.out.later HE.out
      have AN' := AN.out.later HE.out
      go_wp2_with (first
        | (refine wpList_load_mid rfl 27 (.tmp 4) rfl (w.heap.size) 0 rfl (List.map (Value.int .u8) key) _ AK'.rng Tryd.underlying27 rfl hiK ?_)
        | (refine wpList_load_mid rfl 48 (.tmp 6) rfl q1 0 rfl (List.map (Value.int .u8) nonce) _ AN'.rng Tryd.underlying48 rfl hiN ?_))
      clear AK' AN'
      refine (rblock_c key d nonce HK.out ⟨d0, d1⟩ HN.out _ (HG.out.later HE.out)).mono ?_
      rintro e V ⟨B, rfl, HBk, hB, hb⟩
      have HBn : Hid (Bn 64 B) := hB
      replace HO : Hid (V.ownsRow W0.heap.size 5 1 _ n (List.map (Value.int .u8) ((ap key count nonce text).take (64 * k)))) := owns_below HO.out hb
      replace HE : Hid (Ext W0 V) := Ext.trans HE.out hb
      clear hb hB
      obtain ⟨hlen, hone, hi2⟩ := bn64_cells HBn.out
      obtain ⟨cs, HC⟩ : ∃ cs, Hid (cs = (List.map (Value.int .u8) B)) := ⟨_, rfl⟩
      rw [← HC.out] at hlen hone hi2 ⊢
      have hth := there_new V 64 #[.int .u8 0, .int .u8 0, .int .u8 0, .int .u8 0, .int .u8 0, .int .u8 0, .int .u8 0, .int .u8 0, .int .u8 0, .int .u8 0, .int .u8 0, .int .u8 0, .int .u8 0, .int .u8 0, .int .u8 0, .int .u8 0, .int .u8 0, .int .u8 0, .int .u8 0, .int .u8 0, .int .u8 0, .int .u8 0, .int .u8 0, .int .u8 0, .int .u8 0, .int .u8 0, .int .u8 0, .int .u8 0, .int .u8 0, .int .u8 0, .int .u8 0, .int .u8 0, .int .u8 0, .int .u8 0, .int .u8 0, .int .u8 0, .int .u8 0, .int .u8 0, .int .u8 0, .int .u8 0, .int .u8 0, .int .u8 0, .int .u8 0, .int .u8 0, .int .u8 0, .int .u8 0, .int .u8 0, .int .u8 0, .int .u8 0, .int .u8 0, .int .u8 0, .int .u8 0, .int .u8 0, .int .u8 0, .int .u8 0, .int .u8 0, .int .u8 0, .int .u8 0, .int .u8 0, .int .u8 0, .int .u8 0, .int .u8 0, .int .u8 0, .int .u8 0] rfl 63
      have hcc := HT.out.hle
      by_cases h64 : 64 ≤ r
      · have g64 : ¬ (r : Int) < 64 := by omega
        go_upto_region 5 with (refine wpList_store_mid rfl 63 (.tmp 10) (.tmp 18) rfl (V.heap.size) 0 cs.toArray rfl rfl (by simpa [hlen] using hth) (by simpa using hi2) (all_oneCell_toArray hone) ?_)
        clear hth
        obtain ⟨W5, hW5⟩ : ∃ W, W = (V.alloc (.cells #[.int .u8 0, .int .u8 0, .int .u8 0, .int .u8 0, .int .u8 0, .int .u8 0, .int .u8 0, .int .u8 0, .int .u8 0, .int .u8 0, .int .u8 0, .int .u8 0, .int .u8 0, .int .u8 0, .int .u8 0, .int .u8 0, .int .u8 0, .int .u8 0, .int .u8 0, .int .u8 0, .int .u8 0, .int .u8 0, .int .u8 0, .int .u8 0, .int .u8 0, .int .u8 0, .int .u8 0, .int .u8 0, .int .u8 0, .int .u8 0, .int .u8 0, .int .u8 0, .int .u8 0, .int .u8 0, .int .u8 0, .int .u8 0, .int .u8 0, .int .u8 0, .int .u8 0, .int .u8 0, .int .u8 0, .int .u8 0, .int .u8 0, .int .u8 0, .int .u8 0, .int .u8 0, .int .u8 0, .int .u8 0, .int .u8 0, .int .u8 0, .int .u8 0, .int .u8 0, .int .u8 0, .int .u8 0, .int .u8 0, .int .u8 0, .int .u8 0, .int .u8 0, .int .u8 0, .int .u8 0, .int .u8 0, .int .u8 0, .int .u8 0, .int .u8 0] 63)).setCells V.heap.size 0 cs := ⟨_, rfl⟩
        obtain ⟨b10, hb10⟩ : ∃ b, b = V.heap.size := ⟨_, rfl⟩
        rw [← hW5, ← hb10]
        have A10 : Hid (Ar W5 b10 64 (List.map (Value.int .u8) B)) := by unfold Hid; rw [hW5, hb10, ← HC.out]; exact ar_var V _ 64 rfl _ _ hlen
        have hbl : Below V.heap.size V W5 := by rw [hW5]; exact bel_var _ _ _ _
        replace HO : Hid (W5.ownsRow W0.heap.size 5 1 _ n (List.map (Value.int .u8) ((ap key count nonce text).take (64 * k)))) := owns_below HO.out hbl
        replace HE : Hid (Ext W0 W5) := Ext.trans HE.out hbl
        clear hbl hW5 hb10 hlen hone hi2 HC
        have gmc : (64 : Int) ≤ c' := by omega
        have gmr : (64 : Int) ≤ r := by omega
        refine wp_region_noPanic ?_
        refine wp_region_held_drew (S := Ext W0) (by kernel_rfl) HE.out.drew (fun hH => ?_)
        change wpAnyH _ _ _ _ _ _ #[false, false, false, false, false, false, false, false] _ _
        refine wpAnyH_take (i := 0) (oi := ?o0ra) (v := ?v0ra) ?h0ra (by kernel_rfl) ?f0ra ?r0ra (fun _ _ _ h => h) (Or.inl ⟨?w0ra, ?y0ra⟩) (by assumption) ?t0ra
        case h0ra => simp only [List.getElem?_toArray]; rfl
        case f0ra => kernel_rfl
        case r0ra => kernel_rfl
        case w0ra => rfl
        case y0ra => (intro u hu; (go_simp) <;> with_reducible rfl)
        try simp only [Act.put, List.setIfInBounds_toArray, List.set_cons_zero, List.set_cons_succ]
        refine wpAnyH_take (i := 1) (oi := ?o1ra) (v := ?v1ra) ?h1ra (by kernel_rfl) ?f1ra ?r1ra (fun _ _ _ h => h) (Or.inl ⟨?w1ra, ?y1ra⟩) (by assumption) ?t1ra
        case h1ra => simp only [List.getElem?_toArray]; rfl
        case f1ra => kernel_rfl
        case r1ra => kernel_rfl
        case w1ra => rfl
        case y1ra => (intro u hu; (go_simp) <;> with_reducible rfl)
        try simp only [Act.put, List.setIfInBounds_toArray, List.set_cons_zero, List.set_cons_succ]
        refine wpAnyH_take (i := 2) (oi := ?o2ra) (v := ?v2ra) ?h2ra (by kernel_rfl) ?f2ra ?r2ra (fun _ _ _ h => h) (Or.inl ⟨?w2ra, ?y2ra⟩) (by assumption) ?t2ra
        case h2ra => simp only [List.getElem?_toArray]; rfl
        case f2ra => kernel_rfl
        case r2ra => kernel_rfl
        case w2ra => rfl
        case y2ra => (intro u hu; (go_simp) <;> with_reducible rfl)
        try simp only [Act.put, List.setIfInBounds_toArray, List.set_cons_zero, List.set_cons_succ]
        refine wpAnyH_take (i := 3) (oi := ?o3ra) (v := ?v3ra) ?h3ra (by kernel_rfl) ?f3ra ?r3ra (fun _ _ _ h => h) (Or.inl ⟨?w3ra, ?y3ra⟩) (by assumption) ?t3ra
        case h3ra => simp only [List.getElem?_toArray]; rfl
        case f3ra => kernel_rfl
        case r3ra => kernel_rfl
        case w3ra => rfl
        case y3ra => (intro u hu; (go_simp) <;> with_reducible rfl)
        try simp only [Act.put, List.setIfInBounds_toArray, List.set_cons_zero, List.set_cons_succ]
        refine wpAnyH_take (i := 4) (oi := ?o4ra) (v := ?v4ra) ?h4ra (by kernel_rfl) ?f4ra ?r4ra (fun _ _ _ h => h) (Or.inl ⟨?w4ra, ?y4ra⟩) (by assumption) ?t4ra
        case h4ra => simp only [List.getElem?_toArray]; rfl
        case f4ra => kernel_rfl
        case r4ra => kernel_rfl
        case w4ra => rfl
        case y4ra => (intro u hu; (go_simp) <;> with_reducible rfl)
        try simp only [Act.put, List.setIfInBounds_toArray, List.set_cons_zero, List.set_cons_succ]
        refine wpAnyH_ready (rs := [5]) (by kernel_rfl) (by simp) ?_
        refine AllReadyH.cons (o := ?o5ra) ?h5ra (fun K hK => ?_) AllReadyH.nil
        case h5ra => simp only [List.getElem?_toArray]; rfl
        go_simp
        refine (refxor_g (some ⟨b, off, none⟩) 64 c' ((text.drop n).take 64) (some ⟨b10, 0, none⟩) 64 64 B _ ((HT.out.below hH).cut 64 (by omega)) (A10.out.drew.rd_all HBn.out.byt 64 (by decide)) (by omega) (by decide)).mono ?_
        rintro e V6 ⟨ax, m', cx, rfl, hRx, hb6⟩
        refine hK.out _ _ (Ext.trans hH hb6) (fun hH' => ?_)
        clear hK K hH
        have hH := hH'
        clear hH'
        try simp only [List.setIfInBounds_toArray, List.set]
        replace hb6 : Below W5.heap.size W5 V6 := (Below.refl _ _).drew.trans (hb6.mono (Nat.le_refl _))
        replace HO : Hid (V6.ownsRow W0.heap.size 5 1 _ n (List.map (Value.int .u8) ((ap key count nonce text).take (64 * k)))) := owns_below HO.out hb6
        clear hb6 A10
        have hm' : m' = 64 := by rw [← hRx.hlen, xorL_length, List.length_take, List.length_drop, HTL.out, HBn.out.len]; have := HRl.out; omega
        rw [hm'] at hRx ⊢
        clear hm' m'
        obtain ⟨bx, ox, rfl, hcx⟩ := hRx.cell (by omega)
        clear hcx
        have hnews := hRx.news 64
        rw [List.take_of_length_le (by rw [hRx.hlen]; exact Nat.le_refl _)] at hnews
        obtain ⟨v7, V7, hrun, ho7, hg7, _⟩ := run_append_own (P := Tryd.prog) V6 W0.heap.size 31 31 5 i0 (.int .u8 0) 1 1 Tryd.underlying31 hi hz0 hz1 hz2 rfl (by decide) _ n _ HO.out ⟨bx, ox, none⟩ 64 cx _ (by rw [List.length_map, hRx.hlen, Nat.mul_one]) hnews (bytes_oneCell _) (by unfold maxLen; omega) (by omega) hH.size
        have HB7 : Hid (Below W0.heap.size W0 V7) := Below.grown hH hg7 hH.size (fun j hj => (HO.out.lt j hj).1)
        have HO7 : Hid (V7.ownsRow W0.heap.size 5 1 v7 (n + 64) (List.map (Value.int .u8) ((ap key count nonce text).take (64 * k)) ++ List.map (Value.int .u8) (xorL ((text.drop n).take 64) B))) := ho7
        clear ho7 hg7 hnews hRx HO
        refine wpAnyH_ready (rs := [6]) (by kernel_rfl) (by simp) ?_
        refine AllReadyH.cons (o := ?o6ra) ?h6ra (fun K hK => ?_) AllReadyH.nil
        case h6ra => simp only [List.getElem?_toArray]; rfl
        refine step_append_run rfl (.tmp 22) (.tmp 27) 31 rfl _ _ rfl rfl _ _ hrun ?_
        refine hK.out _ _ HB7.out (fun hH' => ?_)
        clear hK K hH
        have hH := hH'
        clear hH'
        try simp only [List.setIfInBounds_toArray, List.set]
        clear hrun
        refine wpAnyH_take (i := 7) (oi := ?o7ra) (v := ?v7ra) ?h7ra (by kernel_rfl) ?f7ra ?r7ra (fun _ _ _ h => h) (Or.inl ⟨?w7ra, ?y7ra⟩) (by assumption) ?t7ra
        case h7ra => simp only [List.getElem?_toArray]; rfl
        case f7ra => kernel_rfl
        case r7ra => kernel_rfl
        case w7ra => rfl
        case y7ra => (intro u hu; (go_simp) <;> with_reducible rfl)
        try simp only [Act.put, List.setIfInBounds_toArray, List.set_cons_zero, List.set_cons_succ]
        refine wpAnyH_done (by kernel_rfl) ?_ _
        refine NoPanic.normal ?_
        clear hH
        have HM : Hid (64 = min 64 (len - 64 * k)) := by have h1 := HRl.out; have h2 := hnk.out; unfold Hid; omega
        have HO8 : Hid (V7.ownsRow W0.heap.size 5 1 v7 (n + 64) (List.map (Value.int .u8) ((ap key count nonce text).take (64 * (k + 1))))) := by
          have h := HO7.out
          have e2 := hnk.out
          rw [← List.map_append, e2, min_take key count nonce text k (by rw [HTL.out]; omega) 64 (by rw [HTL.out]; exact HM.out) B (by rw [HBk.out, HD.out]), ← e2] at h
          exact h
        have HT8 := HT.out.rest 64 (by omega)
        rw [List.drop_drop] at HT8
        obtain ⟨a8, ha8⟩ : ∃ x, (if c' = 64 then some (⟨b, off, none⟩ : Addr) else some ⟨b, off + 64, none⟩) = x := ⟨_, rfl⟩
        rw [ha8] at HT8
        have HT9 : Hid _ := HT8
        clear HT8 HO7 HT
        have HND : Hid ((d + 1) % 4294967296 = ad count ((k + 1 : Nat) : Int)) := by unfold Hid; rw [HD.out]; exact ad_next _ _
        have HNN : Hid (n + 64 = min (64 * (k + 1)) len) := by have h1 := HRl.out; have h2 := hnk.out; unfold Hid; omega
        have HRN : Hid (r - 64 = len - (n + 64)) := by have h1 := HRl.out; unfold Hid; omega
        go_wp2
        go_roundw
        case rel => exact ⟨k + 1, n + 64, r - 64, (d + 1) % 4294967296, a8, c' - 64, rfl, by go_num, by omega, by omega, HNN, HRN, HND, HB7, HT9, HO8⟩
        case measure => simp [slen]; omega
      · have g64 : (r : Int) < 64 := by omega
        go_upto_region 5 with (refine wpList_store_mid rfl 63 (.tmp 10) (.tmp 18) rfl (V.heap.size) 0 cs.toArray rfl rfl (by simpa [hlen] using hth) (by simpa using hi2) (all_oneCell_toArray hone) ?_)
        clear hth
        obtain ⟨W5, hW5⟩ : ∃ W, W = (V.alloc (.cells #[.int .u8 0, .int .u8 0, .int .u8 0, .int .u8 0, .int .u8 0, .int .u8 0, .int .u8 0, .int .u8 0, .int .u8 0, .int .u8 0, .int .u8 0, .int .u8 0, .int .u8 0, .int .u8 0, .int .u8 0, .int .u8 0, .int .u8 0, .int .u8 0, .int .u8 0, .int .u8 0, .int .u8 0, .int .u8 0, .int .u8 0, .int .u8 0, .int .u8 0, .int .u8 0, .int .u8 0, .int .u8 0, .int .u8 0, .int .u8 0, .int .u8 0, .int .u8 0, .int .u8 0, .int .u8 0, .int .u8 0, .int .u8 0, .int .u8 0, .int .u8 0, .int .u8 0, .int .u8 0, .int .u8 0, .int .u8 0, .int .u8 0, .int .u8 0, .int .u8 0, .int .u8 0, .int .u8 0, .int .u8 0, .int .u8 0, .int .u8 0, .int .u8 0, .int .u8 0, .int .u8 0, .int .u8 0, .int .u8 0, .int .u8 0, .int .u8 0, .int .u8 0, .int .u8 0, .int .u8 0, .int .u8 0, .int .u8 0, .int .u8 0, .int .u8 0] 63)).setCells V.heap.size 0 cs := ⟨_, rfl⟩
        obtain ⟨b10, hb10⟩ : ∃ b, b = V.heap.size := ⟨_, rfl⟩
        rw [← hW5, ← hb10]
        have A10 : Hid (Ar W5 b10 64 (List.map (Value.int .u8) B)) := by unfold Hid; rw [hW5, hb10, ← HC.out]; exact ar_var V _ 64 rfl _ _ hlen
        have hbl : Below V.heap.size V W5 := by rw [hW5]; exact bel_var _ _ _ _
        replace HO : Hid (W5.ownsRow W0.heap.size 5 1 _ n (List.map (Value.int .u8) ((ap key count nonce text).take (64 * k)))) := owns_below HO.out hbl
        replace HE : Hid (Ext W0 W5) := Ext.trans HE.out hbl
        clear hbl hW5 hb10 hlen hone hi2 HC
        have gmc : (r : Int) ≤ c' := by omega
        have gmr : (r : Int) ≤ r := by omega
        refine wp_region_noPanic ?_
        refine wp_region_held_drew (S := Ext W0) (by kernel_rfl) HE.out.drew (fun hH => ?_)
        change wpAnyH _ _ _ _ _ _ #[false, false, false, false, false, false, false, false] _ _
        refine wpAnyH_take (i := 0) (oi := ?o0rb) (v := ?v0rb) ?h0rb (by kernel_rfl) ?f0rb ?r0rb (fun _ _ _ h => h) (Or.inl ⟨?w0rb, ?y0rb⟩) (by assumption) ?t0rb
        case h0rb => simp only [List.getElem?_toArray]; rfl
        case f0rb => kernel_rfl
        case r0rb => kernel_rfl
        case w0rb => rfl
        case y0rb => (intro u hu; (go_simp) <;> with_reducible rfl)
        try simp only [Act.put, List.setIfInBounds_toArray, List.set_cons_zero, List.set_cons_succ]
        refine wpAnyH_take (i := 1) (oi := ?o1rb) (v := ?v1rb) ?h1rb (by kernel_rfl) ?f1rb ?r1rb (fun _ _ _ h => h) (Or.inl ⟨?w1rb, ?y1rb⟩) (by assumption) ?t1rb
        case h1rb => simp only [List.getElem?_toArray]; rfl
        case f1rb => kernel_rfl
        case r1rb => kernel_rfl
        case w1rb => rfl
        case y1rb => (intro u hu; (go_simp) <;> with_reducible rfl)
        try simp only [Act.put, List.setIfInBounds_toArray, List.set_cons_zero, List.set_cons_succ]
        refine wpAnyH_take (i := 2) (oi := ?o2rb) (v := ?v2rb) ?h2rb (by kernel_rfl) ?f2rb ?r2rb (fun _ _ _ h => h) (Or.inl ⟨?w2rb, ?y2rb⟩) (by assumption) ?t2rb
        case h2rb => simp only [List.getElem?_toArray]; rfl
        case f2rb => kernel_rfl
        case r2rb => kernel_rfl
        case w2rb => rfl
        case y2rb => (intro u hu; (go_simp) <;> with_reducible rfl)
        try simp only [Act.put, List.setIfInBounds_toArray, List.set_cons_zero, List.set_cons_succ]
        refine wpAnyH_take (i := 3) (oi := ?o3rb) (v := ?v3rb) ?h3rb (by kernel_rfl) ?f3rb ?r3rb (fun _ _ _ h => h) (Or.inl ⟨?w3rb, ?y3rb⟩) (by assumption) ?t3rb
        case h3rb => simp only [List.getElem?_toArray]; rfl
        case f3rb => kernel_rfl
        case r3rb => kernel_rfl
        case w3rb => rfl
        case y3rb => (intro u hu; (go_simp) <;> with_reducible rfl)
        try simp only [Act.put, List.setIfInBounds_toArray, List.set_cons_zero, List.set_cons_succ]
        refine wpAnyH_take (i := 4) (oi := ?o4rb) (v := ?v4rb) ?h4rb (by kernel_rfl) ?f4rb ?r4rb (fun _ _ _ h => h) (Or.inl ⟨?w4rb, ?y4rb⟩) (by assumption) ?t4rb
        case h4rb => simp only [List.getElem?_toArray]; rfl
        case f4rb => kernel_rfl
        case r4rb => kernel_rfl
        case w4rb => rfl
        case y4rb => (intro u hu; (go_simp) <;> with_reducible rfl)
        try simp only [Act.put, List.setIfInBounds_toArray, List.set_cons_zero, List.set_cons_succ]
        refine wpAnyH_ready (rs := [5]) (by kernel_rfl) (by simp) ?_
        refine AllReadyH.cons (o := ?o5rb) ?h5rb (fun K hK => ?_) AllReadyH.nil
        case h5rb => simp only [List.getElem?_toArray]; rfl
        go_simp
        refine (refxor_g (some ⟨b, off, none⟩) r c' ((text.drop n).take r) (some ⟨b10, 0, none⟩) 64 64 B _ ((HT.out.below hH).cut r (by omega)) (A10.out.drew.rd_all HBn.out.byt 64 (by decide)) (by omega) (by decide)).mono ?_
        rintro e V6 ⟨ax, m', cx, rfl, hRx, hb6⟩
        refine hK.out _ _ (Ext.trans hH hb6) (fun hH' => ?_)
        clear hK K hH
        have hH := hH'
        clear hH'
        try simp only [List.setIfInBounds_toArray, List.set]
        replace hb6 : Below W5.heap.size W5 V6 := (Below.refl _ _).drew.trans (hb6.mono (Nat.le_refl _))
        replace HO : Hid (V6.ownsRow W0.heap.size 5 1 _ n (List.map (Value.int .u8) ((ap key count nonce text).take (64 * k)))) := owns_below HO.out hb6
        clear hb6 A10
        have hm' : m' = r := by rw [← hRx.hlen, xorL_length, List.length_take, List.length_drop, HTL.out, HBn.out.len]; have := HRl.out; omega
        rw [hm'] at hRx ⊢
        clear hm' m'
        obtain ⟨bx, ox, rfl, hcx⟩ := hRx.cell (by omega)
        clear hcx
        have hnews := hRx.news r
        rw [List.take_of_length_le (by rw [hRx.hlen]; exact Nat.le_refl _)] at hnews
        obtain ⟨v7, V7, hrun, ho7, hg7, _⟩ := run_append_own (P := Tryd.prog) V6 W0.heap.size 31 31 5 i0 (.int .u8 0) 1 1 Tryd.underlying31 hi hz0 hz1 hz2 rfl (by decide) _ n _ HO.out ⟨bx, ox, none⟩ r cx _ (by rw [List.length_map, hRx.hlen, Nat.mul_one]) hnews (bytes_oneCell _) (by unfold maxLen; omega) (by omega) hH.size
        have HB7 : Hid (Below W0.heap.size W0 V7) := Below.grown hH hg7 hH.size (fun j hj => (HO.out.lt j hj).1)
        have HO7 : Hid (V7.ownsRow W0.heap.size 5 1 v7 (n + r) (List.map (Value.int .u8) ((ap key count nonce text).take (64 * k)) ++ List.map (Value.int .u8) (xorL ((text.drop n).take r) B))) := ho7
        clear ho7 hg7 hnews hRx HO
        refine wpAnyH_ready (rs := [6]) (by kernel_rfl) (by simp) ?_
        refine AllReadyH.cons (o := ?o6rb) ?h6rb (fun K hK => ?_) AllReadyH.nil
        case h6rb => simp only [List.getElem?_toArray]; rfl
        refine step_append_run rfl (.tmp 22) (.tmp 27) 31 rfl _ _ rfl rfl _ _ hrun ?_
        refine hK.out _ _ HB7.out (fun hH' => ?_)
        clear hK K hH
        have hH := hH'
        clear hH'
        try simp only [List.setIfInBounds_toArray, List.set]
        clear hrun
        refine wpAnyH_take (i := 7) (oi := ?o7rb) (v := ?v7rb) ?h7rb (by kernel_rfl) ?f7rb ?r7rb (fun _ _ _ h => h) (Or.inl ⟨?w7rb, ?y7rb⟩) (by assumption) ?t7rb
        case h7rb => simp only [List.getElem?_toArray]; rfl
        case f7rb => kernel_rfl
        case r7rb => kernel_rfl
        case w7rb => rfl
        case y7rb => (intro u hu; (go_simp) <;> with_reducible rfl)
        try simp only [Act.put, List.setIfInBounds_toArray, List.set_cons_zero, List.set_cons_succ]
        refine wpAnyH_done (by kernel_rfl) ?_ _
        refine NoPanic.normal ?_
        clear hH
        have HM : Hid (r = min 64 (len - 64 * k)) := by have h1 := HRl.out; have h2 := hnk.out; unfold Hid; omega
        have HO8 : Hid (V7.ownsRow W0.heap.size 5 1 v7 (n + r) (List.map (Value.int .u8) ((ap key count nonce text).take (64 * (k + 1))))) := by
          have h := HO7.out
          have e2 := hnk.out
          rw [← List.map_append, e2, min_take key count nonce text k (by rw [HTL.out]; omega) r (by rw [HTL.out]; exact HM.out) B (by rw [HBk.out, HD.out]), ← e2] at h
          exact h
        have HT8 := HT.out.rest r (by omega)
        rw [List.drop_drop] at HT8
        obtain ⟨a8, ha8⟩ : ∃ x, (if c' = r then some (⟨b, off, none⟩ : Addr) else some ⟨b, off + r, none⟩) = x := ⟨_, rfl⟩
        rw [ha8] at HT8
        rw [Nat.sub_self] at HT8
        have HT9 : Hid _ := HT8
        clear HT8 HO7 HT
        have HND : Hid ((d + 1) % 4294967296 = ad count ((k + 1 : Nat) : Int)) := by unfold Hid; rw [HD.out]; exact ad_next _ _
        have HNN : Hid (n + r = min (64 * (k + 1)) len) := by have h1 := HRl.out; have h2 := hnk.out; unfold Hid; omega
        have HRN : Hid (0 = len - (n + r)) := by have h1 := HRl.out; unfold Hid; omega
        go_wp2
        go_roundw
        case rel => exact ⟨k + 1, n + r, 0, (d + 1) % 4294967296, a8, c' - r, rfl, by go_num, by omega, by omega, HNN, HRN, HND, HB7, HT9, HO8⟩
        case measure => simp [slen]; omega
    · have e : r = 0 := by omega
      subst e
      have hfull : Hid ((ap key count nonce text).take (64 * k) = ap key count nonce text) := List.take_of_length_le (by rw [ap_len, HTL.out]; have h1 := HN2.out; have h2 := HRl.out; omega)
      have hnl : Hid (n = len) := by have h1 := HN2.out; have h2 := HRl.out; unfold Hid; omega
      go_wp2
      go_ret
      have h := HO.out
      rw [hfull.out, hnl.out] at h
      obtain ⟨x, y, rfl⟩ := owns_shape h
      exact ⟨x, y, _, rfl, rfl, Rd.owns (ap_byt _ _ _ HTB.out) h, HB.out.trans (Below.mono HE.out HB.out.size)⟩
end Go.Proofs.YtjmdgmbkkkoamaaDoor
