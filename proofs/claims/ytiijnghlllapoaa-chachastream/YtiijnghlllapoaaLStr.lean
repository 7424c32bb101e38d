/-
  ChachaStream's walk. No statement of the seat is proved here.
-/
import Derived.Test.YtiijnghlllapoaaQHand
import Derived.Test.YtiijnghlllapoaaQKn
namespace Go.Proofs.Ytiijnghlllapoaa
open Go.RowKit

/-- The byte of the stream that stands i bytes in. -/
theorem sk_at (key nonce : List Int) (c : Int) (N i : Nat) (h : i < 64 * N) : (sk key nonce c N)[i]? = (blk key (ad c ((i / 64 : Nat) : Int)) nonce)[i % 64]? := by
  have hp := sk_part key nonce c (i / 64) N (by omega)
  rw [← hp, List.getElem?_take_of_lt (by omega), List.getElem?_drop]
  congr 1
  omega
theorem ap_zero_at (key : List Int) (c : Int) (nonce : List Int) (n i : Nat) (h : i < n) : (ap key c nonce (List.replicate n 0))[i]? = (blk key (ad c ((i / 64 : Nat) : Int)) nonce)[i % 64]? := by
  have hl : i < 64 * n := by omega
  have e := sk_at key nonce c n i hl
  have hb := (sk_byt key nonce c n).at i
  unfold ap
  rw [List.length_replicate, xorL_at (by rw [List.length_replicate]; exact h) (by rw [sk_len]; exact hl), ← e, List.getElem?_eq_getElem (l := sk key nonce c n) (by rw [sk_len]; exact hl)]
  rw [List.getElem?_eq_getElem (by rw [sk_len]; exact hl)] at hb
  simp only [Option.getD_some] at hb ⊢
  rw [List.getElem?_replicate, if_pos h, Option.getD_some, u8_xor _ _ (by omega) (by omega) (by omega) (by omega)]
  simp
  omega
structure Ms (w : World) (q1 g k : Nat) (key nonce X : List Int) (u : World) : Prop where
  ak : Ar u w.heap.size 32 (List.map (Value.int .u8) key)
  an : Ar u q1 12 (List.map (Value.int .u8) nonce)
  rd : Rd u (some ⟨g, 0, none⟩) k k X
  bel : Below w.heap.size w u
theorem Ms.later {w : World} {q1 g k : Nat} {key nonce X : List Int} {u v : World} (h : Ms w q1 g k key nonce X u) (hb : Below u.heap.size u v) : Ms w q1 g k key nonce X v := ⟨h.ak.later hb, h.an.later hb, h.rd.below hb, h.bel.trans (hb.mono h.bel.size)⟩

set_option maxRecDepth 8000 in
set_option maxHeartbeats 4000000 in
theorem chachaStream_walk (key : List Int) (count : Int) (nonce : List Int) (n : Int) (hk : Bn 32 key) (hc : 0 ≤ count ∧ count < 4294967296) (hn : Bn 12 nonce) (hi : -9223372036854775808 ≤ n ∧ n ≤ 9223372036854775807) (w : World) :
    Calls Try.prog 6 #[(.agg (List.map (Value.int .u8) key).toArray), .int .u32 count, (.agg (List.map (Value.int .u8) nonce).toArray), .int .i64 n] w fun e w' => e = .returned (.bool true) ∧ Below w.heap.size w w' := by
  obtain ⟨i0, hi5, hz0, hz1, hz2⟩ := info_parts info5
  have HK : Hid (Bn 32 key) := hk
  have HN : Hid (Bn 12 nonce) := hn
  have HWC : Hid (W32 count) := hc
  obtain ⟨c0, c1⟩ := hc
  clear hk hn
  obtain ⟨_, _, hiK⟩ := bn32_cells HK.out
  obtain ⟨_, _, hiN⟩ := bn12_cells HN.out
  go_enter Try.func6, Try.ntmps6
  go_upto_region 1 with fail
  have AK : Hid (Ar ((w.alloc (.cells (List.map (Value.int .u8) key).toArray 22)).alloc (.cells (List.map (Value.int .u8) nonce).toArray 26)) w.heap.size 32 (List.map (Value.int .u8) key)) := (ar_box w _ 32 HK.out.map_len _).later (bel1 _ _)
  have AN : Hid (Ar ((w.alloc (.cells (List.map (Value.int .u8) key).toArray 22)).alloc (.cells (List.map (Value.int .u8) nonce).toArray 26)) (w.heap.size + 1) 12 (List.map (Value.int .u8) nonce)) := by have := ar_box (w.alloc (.cells (List.map (Value.int .u8) key).toArray 22)) _ 12 HN.out.map_len 26; simpa [Hid] using this
  have HB : Hid (Below w.heap.size w ((w.alloc (.cells (List.map (Value.int .u8) key).toArray 22)).alloc (.cells (List.map (Value.int .u8) nonce).toArray 26))) := bel2 _ _ _
  generalize (w.alloc (.cells (List.map (Value.int .u8) key).toArray 22)).alloc (.cells (List.map (Value.int .u8) nonce).toArray 26) = W0 at *
  have k1 : w.heap.size < w.heap.size + 1 := by omega
  generalize w.heap.size + 1 = q1 at *
  go_wp2_with fail
  refine (pick_any n 260 hi (by decide) _).mono ?_
  rintro e w' ⟨k, rfl, p0, p1, hw⟩
  rw [hw]
  clear hw w'
  obtain ⟨k, rfl⟩ := Int.eq_ofNat_of_zero_le p0
  go_upto_region 2 with fail
  have hm := run_make_full (P := Try.prog) W0.drew w.heap.size 28 5 i0 (.int .u8 0) 1 Try.underlying28 hi5 hz0 hz1 .i64 .i64 k (by rw [hz2]; omega) (by unfold maxLen; omega) HB.out.size
  refine wp_region_noPanic ?_
  refine wp_region_held_drew (S := Ext W0) (by kernel_rfl) (Ext.refl _).drew (fun hH => ?_)
  change wpAnyH _ _ _ _ _ _ #[false, false, false, false, false, false, false] _ _
  refine wpAnyH_take (i := 0) (oi := ?o0s) (v := .agg (List.map (Value.int .u8) key).toArray) ?h0s (by kernel_rfl) ?f0s ?r0s (fun _ _ _ h => h) ?y0s (by assumption) ?t0s
  case h0s => simp only [List.getElem?_toArray]; rfl
  case f0s => kernel_rfl
  case r0s => kernel_rfl
  case y0s => exact yieldsIf_load_mid (by rfl) 22 (.tmp 4) rfl w.heap.size 0 rfl (List.map (Value.int .u8) key) _ (fun u hu => range_later hu AK.out.rng) Try.underlying22 rfl hiK
  try simp only [Act.put, List.setIfInBounds_toArray, List.set_cons_zero, List.set_cons_succ]
  refine wpAnyH_take (i := 1) (oi := ?o1s) (v := ?v1s) ?h1s (by kernel_rfl) ?f1s ?r1s (fun _ _ _ h => h) (Or.inl ⟨?w1s, ?y1s⟩) (by assumption) ?t1s
  case h1s => simp only [List.getElem?_toArray]; rfl
  case f1s => kernel_rfl
  case r1s => kernel_rfl
  case w1s => rfl
  case y1s => (intro u hu; (go_simp) <;> with_reducible rfl)
  try simp only [Act.put, List.setIfInBounds_toArray, List.set_cons_zero, List.set_cons_succ]
  refine wpAnyH_take (i := 2) (oi := ?o2s) (v := .agg (List.map (Value.int .u8) nonce).toArray) ?h2s (by kernel_rfl) ?f2s ?r2s (fun _ _ _ h => h) ?y2s (by assumption) ?t2s
  case h2s => simp only [List.getElem?_toArray]; rfl
  case f2s => kernel_rfl
  case r2s => kernel_rfl
  case y2s => exact yieldsIf_load_mid (by rfl) 26 (.tmp 6) rfl q1 0 rfl (List.map (Value.int .u8) nonce) _ (fun u hu => range_later hu AN.out.rng) Try.underlying26 rfl hiN
  try simp only [Act.put, List.setIfInBounds_toArray, List.set_cons_zero, List.set_cons_succ]
  refine wpAnyH_take (i := 3) (oi := ?o3s) (v := ?v3s) ?h3s (by kernel_rfl) ?f3s ?r3s (fun _ _ _ h => h) (Or.inl ⟨?w3s, ?y3s⟩) (by assumption) ?t3s
  case h3s => simp only [List.getElem?_toArray]; rfl
  case f3s => kernel_rfl
  case r3s => kernel_rfl
  case w3s => rfl
  case y3s => (intro u hu; (go_simp) <;> with_reducible rfl)
  try simp only [Act.put, List.setIfInBounds_toArray, List.set_cons_zero, List.set_cons_succ]
  obtain ⟨V, hrun, ho, hg⟩ := hm
  rw [made_zero] at ho
  have hbV : Below W0.drew.heap.size W0.drew V := (Below.refl _ _).grown hg (Nat.le_refl _) (fun k h => by cases h)
  clear hg
  refine wpAnyH_ready (rs := [4]) (by kernel_rfl) (by simp) ?_
  refine AllReadyH.cons (o := ?o4s) ?h4s (fun K hK => ?_) AllReadyH.nil
  case h4s => simp only [List.getElem?_toArray]; rfl
  refine step_make_run rfl (.tmp 17) (.tmp 17) 28 rfl _ _ rfl rfl _ _ hrun ?_
  refine hK.out _ _ (hH.trans hbV) (fun hH' => ?_)
  clear hK K hH
  have hH := hH'
  clear hH'
  try simp only [List.setIfInBounds_toArray, List.set]
  clear hrun hbV
  refine wpAnyH_ready (rs := [5]) (by kernel_rfl) (by simp) ?_
  refine AllReadyH.cons (o := ?o5s) ?h5s (fun K hK => ?_) AllReadyH.nil
  case h5s => simp only [List.getElem?_toArray]; rfl
  go_simp
  refine (apply_any key count nonce _ k k (List.replicate k 0) HK.out HWC.out HN.out _ (Rd.owns (byt_zero k) ho) (by omega)).mono ?_
  rintro e V2 ⟨g, X, rfl, HX, ho2, hb2⟩
  refine hK.out _ _ (hH.trans hb2) (fun hH' => ?_)
  clear hK K hH
  have hH := hH'
  clear hH'
  try simp only [List.setIfInBounds_toArray, List.set]
  refine wpAnyH_take (i := 6) (oi := ?o6s) (v := ?v6s) ?h6s (by kernel_rfl) ?f6s ?r6s (fun _ _ _ h => h) (Or.inl ⟨?w6s, ?y6s⟩) (by assumption) ?t6s
  case h6s => simp only [List.getElem?_toArray]; rfl
  case f6s => kernel_rfl
  case r6s => kernel_rfl
  case w6s => rfl
  case y6s => (intro u hu; (go_simp) <;> with_reducible rfl)
  try simp only [Act.put, List.setIfInBounds_toArray, List.set_cons_zero, List.set_cons_succ]
  refine wpAnyH_done (by kernel_rfl) ?_ _
  refine NoPanic.normal ?_
  have hXB : Byt X := by rw [HX.out]; exact ap_byt _ _ _ (byt_zero k)
  have HM : Hid (Ms w q1 g k key nonce X V2) := ⟨AK.out.later hH, AN.out.later hH, Rd.owns hXB ho2, HB.out.trans (Below.mono hH HB.out.size)⟩
  clear ho ho2 hb2 hH AK AN HB hXB
  go_wp2_with fail
  refine (known4_any _).mono ?_
  rintro e V3 ⟨rfl, hb⟩
  replace HM : Hid (Ms w q1 g k key nonce X V3) := HM.out.later hb
  clear hb
  go_wp2
  go_loopw [10] (fun i wr => ∃ j : Nat, j ≤ k ∧ i = .int .i64 j ∧ Hid (Ms w q1 g k key nonce X wr)) (fun i _ => k - (intOf i).toNat)
  case atStart => exact ⟨0, Nat.zero_le _, rfl, HM⟩
  case round =>
    clear HM
    obtain ⟨j, hj, rfl, HM⟩ := hrel
    by_cases hlt : j < k
    · have g1 : (j : Int) < k := by omega
      go_wp2_with (first
        | (refine wpList_load_mid rfl 22 (.tmp 4) rfl (w.heap.size) 0 rfl (List.map (Value.int .u8) key) _ HM.out.ak.rng Try.underlying22 rfl hiK ?_)
        | (refine wpList_load_mid rfl 26 (.tmp 6) rfl q1 0 rfl (List.map (Value.int .u8) nonce) _ HM.out.an.rng Try.underlying26 rfl hiN ?_))
      have d0 : 0 ≤ (count + (j : Int) / 64) % 4294967296 := by omega
      have d1 : (count + (j : Int) / 64) % 4294967296 < 4294967296 := by omega
      have HD : Hid ((count + (j : Int) / 64) % 4294967296 = ad count ((j / 64 : Nat) : Int)) := by unfold Hid ad; omega
      generalize (count + (j : Int) / 64) % 4294967296 = d at *
      refine (block_c key d nonce HK.out ⟨d0, d1⟩ HN.out _).mono ?_
      rintro e V ⟨B, rfl, HBk, hB, hb⟩
      replace HM : Hid (Ms w q1 g k key nonce X V) := HM.out.later hb
      have HBn : Hid (Bn 64 B) := hB
      clear hb hB
      obtain ⟨hlen, hone, hi2⟩ := bn64_cells HBn.out
      generalize hcs : (List.map (Value.int .u8) B) = cs at *
      have HC : Hid ((List.map (Value.int .u8) B) = cs) := hcs
      clear hcs
      have hth := there_new V 64 #[.int .u8 0, .int .u8 0, .int .u8 0, .int .u8 0, .int .u8 0, .int .u8 0, .int .u8 0, .int .u8 0, .int .u8 0, .int .u8 0, .int .u8 0, .int .u8 0, .int .u8 0, .int .u8 0, .int .u8 0, .int .u8 0, .int .u8 0, .int .u8 0, .int .u8 0, .int .u8 0, .int .u8 0, .int .u8 0, .int .u8 0, .int .u8 0, .int .u8 0, .int .u8 0, .int .u8 0, .int .u8 0, .int .u8 0, .int .u8 0, .int .u8 0, .int .u8 0, .int .u8 0, .int .u8 0, .int .u8 0, .int .u8 0, .int .u8 0, .int .u8 0, .int .u8 0, .int .u8 0, .int .u8 0, .int .u8 0, .int .u8 0, .int .u8 0, .int .u8 0, .int .u8 0, .int .u8 0, .int .u8 0, .int .u8 0, .int .u8 0, .int .u8 0, .int .u8 0, .int .u8 0, .int .u8 0, .int .u8 0, .int .u8 0, .int .u8 0, .int .u8 0, .int .u8 0, .int .u8 0, .int .u8 0, .int .u8 0, .int .u8 0, .int .u8 0] rfl 23
      have A11 : Hid (Ar ((V.alloc (.cells #[.int .u8 0, .int .u8 0, .int .u8 0, .int .u8 0, .int .u8 0, .int .u8 0, .int .u8 0, .int .u8 0, .int .u8 0, .int .u8 0, .int .u8 0, .int .u8 0, .int .u8 0, .int .u8 0, .int .u8 0, .int .u8 0, .int .u8 0, .int .u8 0, .int .u8 0, .int .u8 0, .int .u8 0, .int .u8 0, .int .u8 0, .int .u8 0, .int .u8 0, .int .u8 0, .int .u8 0, .int .u8 0, .int .u8 0, .int .u8 0, .int .u8 0, .int .u8 0, .int .u8 0, .int .u8 0, .int .u8 0, .int .u8 0, .int .u8 0, .int .u8 0, .int .u8 0, .int .u8 0, .int .u8 0, .int .u8 0, .int .u8 0, .int .u8 0, .int .u8 0, .int .u8 0, .int .u8 0, .int .u8 0, .int .u8 0, .int .u8 0, .int .u8 0, .int .u8 0, .int .u8 0, .int .u8 0, .int .u8 0, .int .u8 0, .int .u8 0, .int .u8 0, .int .u8 0, .int .u8 0, .int .u8 0, .int .u8 0, .int .u8 0, .int .u8 0] 23)).setCells V.heap.size 0 cs) V.heap.size 64 cs) := ar_var V _ 64 rfl _ _ hlen
      have HX' : Hid (Below V.heap.size V ((V.alloc (.cells #[.int .u8 0, .int .u8 0, .int .u8 0, .int .u8 0, .int .u8 0, .int .u8 0, .int .u8 0, .int .u8 0, .int .u8 0, .int .u8 0, .int .u8 0, .int .u8 0, .int .u8 0, .int .u8 0, .int .u8 0, .int .u8 0, .int .u8 0, .int .u8 0, .int .u8 0, .int .u8 0, .int .u8 0, .int .u8 0, .int .u8 0, .int .u8 0, .int .u8 0, .int .u8 0, .int .u8 0, .int .u8 0, .int .u8 0, .int .u8 0, .int .u8 0, .int .u8 0, .int .u8 0, .int .u8 0, .int .u8 0, .int .u8 0, .int .u8 0, .int .u8 0, .int .u8 0, .int .u8 0, .int .u8 0, .int .u8 0, .int .u8 0, .int .u8 0, .int .u8 0, .int .u8 0, .int .u8 0, .int .u8 0, .int .u8 0, .int .u8 0, .int .u8 0, .int .u8 0, .int .u8 0, .int .u8 0, .int .u8 0, .int .u8 0, .int .u8 0, .int .u8 0, .int .u8 0, .int .u8 0, .int .u8 0, .int .u8 0, .int .u8 0, .int .u8 0] 23)).setCells V.heap.size 0 cs)) := bel_var _ _ _ _
      go_wp2_with (refine wpList_store_mid rfl 23 (.tmp 11) (.tmp 40) rfl (V.heap.size) 0 cs.toArray rfl rfl (by simpa [hlen] using hth) (by simpa using hi2) (all_oneCell_toArray hone) ?_)
      clear hth
      replace HM : Hid (Ms w q1 g k key nonce X ((V.alloc (.cells #[.int .u8 0, .int .u8 0, .int .u8 0, .int .u8 0, .int .u8 0, .int .u8 0, .int .u8 0, .int .u8 0, .int .u8 0, .int .u8 0, .int .u8 0, .int .u8 0, .int .u8 0, .int .u8 0, .int .u8 0, .int .u8 0, .int .u8 0, .int .u8 0, .int .u8 0, .int .u8 0, .int .u8 0, .int .u8 0, .int .u8 0, .int .u8 0, .int .u8 0, .int .u8 0, .int .u8 0, .int .u8 0, .int .u8 0, .int .u8 0, .int .u8 0, .int .u8 0, .int .u8 0, .int .u8 0, .int .u8 0, .int .u8 0, .int .u8 0, .int .u8 0, .int .u8 0, .int .u8 0, .int .u8 0, .int .u8 0, .int .u8 0, .int .u8 0, .int .u8 0, .int .u8 0, .int .u8 0, .int .u8 0, .int .u8 0, .int .u8 0, .int .u8 0, .int .u8 0, .int .u8 0, .int .u8 0, .int .u8 0, .int .u8 0, .int .u8 0, .int .u8 0, .int .u8 0, .int .u8 0, .int .u8 0, .int .u8 0, .int .u8 0, .int .u8 0] 23)).setCells V.heap.size 0 cs)) := HM.out.later HX'.out
      clear HX'
      generalize (V.alloc (.cells #[.int .u8 0, .int .u8 0, .int .u8 0, .int .u8 0, .int .u8 0, .int .u8 0, .int .u8 0, .int .u8 0, .int .u8 0, .int .u8 0, .int .u8 0, .int .u8 0, .int .u8 0, .int .u8 0, .int .u8 0, .int .u8 0, .int .u8 0, .int .u8 0, .int .u8 0, .int .u8 0, .int .u8 0, .int .u8 0, .int .u8 0, .int .u8 0, .int .u8 0, .int .u8 0, .int .u8 0, .int .u8 0, .int .u8 0, .int .u8 0, .int .u8 0, .int .u8 0, .int .u8 0, .int .u8 0, .int .u8 0, .int .u8 0, .int .u8 0, .int .u8 0, .int .u8 0, .int .u8 0, .int .u8 0, .int .u8 0, .int .u8 0, .int .u8 0, .int .u8 0, .int .u8 0, .int .u8 0, .int .u8 0, .int .u8 0, .int .u8 0, .int .u8 0, .int .u8 0, .int .u8 0, .int .u8 0, .int .u8 0, .int .u8 0, .int .u8 0, .int .u8 0, .int .u8 0, .int .u8 0, .int .u8 0, .int .u8 0, .int .u8 0, .int .u8 0] 23)).setCells V.heap.size 0 cs = W5 at *
      generalize V.heap.size = b11 at *
      have HC' := HC.out
      subst HC'
      clear HC hlen hone hi2
      have hj64 : j % 64 < 64 := by omega
      obtain ⟨cb, fb⟩ := A11.out.cell (j % 64) hj64
      rw [List.getElem_map] at cb
      have hxb : Hid (X[j]? = some (B[j % 64]'(by rw [HBn.out.len]; exact hj64))) := by
        unfold Hid
        rw [HX.out, ap_zero_at key count nonce k j hlt, ← HD.out, ← HBk.out, List.getElem?_eq_getElem]
      obtain ⟨b', o', hbo, hcx⟩ := HM.out.rd.cell (by omega)
      cases hbo
      have cx := hcx j hlt
      rw [Nat.zero_add, hxb.out, Option.getD_some] at cx
      clear hcx hxb fb
      generalize B[j % 64]'(by rw [HBn.out.len]; exact hj64) = x at *
      obtain ⟨r, hr⟩ : ∃ r, r = j % 64 := ⟨_, rfl⟩
      have htm : Int.tmod (j : Int) 64 = (r : Int) := by rw [hr, Int.tmod_eq_emod_of_nonneg (by omega)]; omega
      rw [← hr] at cb hj64
      clear hr
      have gr : (r : Int) < 64 := by omega
      clear HBk HD A11
      go_wp2
      go_quiet (fail)
      clear cb cx hj64
      by_cases h63 : r = 63
      · subst h63
        go_wp2
        go_roundw
        case rel => exact ⟨j + 1, by omega, by go_num, by unfold Hid; exact HM.out.later (below_drewN (Below.refl _ _) _)⟩
        case measure => simp [intOf]; omega
      · have h64 : ¬ ((r : Int) = 63) := by omega
        clear h63
        go_wp2
        go_roundw
        case rel => exact ⟨j + 1, by omega, by go_num, by unfold Hid; exact HM.out.later (below_drewN (Below.refl _ _) _)⟩
        case measure => simp [intOf]; omega
    · have e : j = k := by omega
      subst e
      go_wp2
      go_ret
      exact ⟨rfl, HM.out.bel⟩
end Go.Proofs.Ytiijnghlllapoaa
