/-
  What the reference's Sub does. No statement of the seat is proved here.
-/
import Derived.Test.YtggjifpcoidipaaDoorRInv
import Derived.Deep.QuietTactic
import Derived.BigQuiet
namespace Go.Proofs.YtggjifpcoidipaaDoor
open Go.RowKit

theorem sub_step (a b D : List Int) (bv e nb : Int) (i : Nat) (T : Int) (hD : D.length = i) (ha : i < a.length) (hb : i < b.length) (hp : i < pd.length) (he : e - 65536 * nb = a[i] + 2 * pd[i] - b[i] - bv)
    (h : nv D + 65536 ^ i * (nv (a.drop i) + 2 * nv (pd.drop i) - nv (b.drop i) - bv) = T) :
    nv (D ++ [e]) + 65536 ^ (i + 1) * (nv (a.drop (i + 1)) + 2 * nv (pd.drop (i + 1)) - nv (b.drop (i + 1)) - nb) = T := by
  rw [← h, drop_cons ha, drop_cons hb, drop_cons hp, nv_app, hD]
  simp only [nv]
  rw [Int.pow_succ, Int.mul_assoc, Int.add_assoc, ← Int.mul_add]
  congr 2
  omega
theorem top15 (b : List Int) (hb : b.length = 16) (db : Dg b) (h : nv b < 57896044618658097711785492504343953926634992332820282019728792003956564819949) (h15 : 15 < b.length) : b[15] ≤ 32767 := by
  have e : b = b.take 15 ++ [b[15]] := by rw [← take_snoc _ _ h15, List.take_of_length_le (by omega)]
  have ht : (b.take 15).length = 15 := by rw [List.length_take]; omega
  have hbd := nv_bound (b.take 15) (fun x hx => db x (List.mem_of_mem_take hx))
  have hv := nv_app (b.take 15) [b[15]]
  rw [← e, ht, show (65536 : Int) ^ 15 = 1766847064778384329583297500742918515827483896875618958121606201292619776 from by decide] at hv
  simp only [nv] at hv
  have := db.at 15 h15
  generalize b[15] = y at *
  omega
theorem rep_len (j : Nat) : ((List.replicate 16 (0 : Int)).drop j).length = 16 - j := by rw [List.length_drop, List.length_replicate]

set_option maxHeartbeats 8000000 in
theorem rsub_any (a b : List Int) (ha : a.length = 16) (hb : b.length = 16) (da : Dg a) (db : Dg b) (la : nv a < 57896044618658097711785492504343953926634992332820282019728792003956564819949) (lb : nv b < 57896044618658097711785492504343953926634992332820282019728792003956564819949) (w : World) (hg : Gp w) :
    Calls Tryd.prog 43 #[.agg (List.map (Value.int .u64) a).toArray, .agg (List.map (Value.int .u64) b).toArray] w fun e w' => ∃ z, e = .returned (.agg (List.map (Value.int .u64) z).toArray) ∧ Hid (z = dg 16 ((nv a - nv b) % 57896044618658097711785492504343953926634992332820282019728792003956564819949)) ∧ Below w.heap.size w w' := by
  have HLA : Hid (nv a < 57896044618658097711785492504343953926634992332820282019728792003956564819949) := la
  have HLB : Hid (nv b < 57896044618658097711785492504343953926634992332820282019728792003956564819949) := lb
  clear la lb
  go_enter Tryd.func43, Tryd.ntmps43
  go_wp2
  have HL : Hid (Wrd ((((w.alloc (.cells (List.map (Value.int .u64) a).toArray 31)).alloc (.cells (List.map (Value.int .u64) b).toArray 31)).alloc (.cells #[.int .u64 0, .int .u64 0, .int .u64 0, .int .u64 0, .int .u64 0, .int .u64 0, .int .u64 0, .int .u64 0, .int .u64 0, .int .u64 0, .int .u64 0, .int .u64 0, .int .u64 0, .int .u64 0, .int .u64 0, .int .u64 0] 31)).alloc (.cells #[.int .u64 0, .int .u64 0, .int .u64 0, .int .u64 0, .int .u64 0, .int .u64 0, .int .u64 0, .int .u64 0, .int .u64 0, .int .u64 0, .int .u64 0, .int .u64 0, .int .u64 0, .int .u64 0, .int .u64 0, .int .u64 0] 31)) (w.heap.size) a) := (((wrd_box w a ha _).later (bel1 _ (.cells (List.map (Value.int .u64) b).toArray 31))).later (bel1 _ _)).later (bel1 _ _)
  have HK : Hid (Wrd ((((w.alloc (.cells (List.map (Value.int .u64) a).toArray 31)).alloc (.cells (List.map (Value.int .u64) b).toArray 31)).alloc (.cells #[.int .u64 0, .int .u64 0, .int .u64 0, .int .u64 0, .int .u64 0, .int .u64 0, .int .u64 0, .int .u64 0, .int .u64 0, .int .u64 0, .int .u64 0, .int .u64 0, .int .u64 0, .int .u64 0, .int .u64 0, .int .u64 0] 31)).alloc (.cells #[.int .u64 0, .int .u64 0, .int .u64 0, .int .u64 0, .int .u64 0, .int .u64 0, .int .u64 0, .int .u64 0, .int .u64 0, .int .u64 0, .int .u64 0, .int .u64 0, .int .u64 0, .int .u64 0, .int .u64 0, .int .u64 0] 31)) (w.heap.size + 1) b) := by have := ((wrd_box (w.alloc (.cells (List.map (Value.int .u64) a).toArray 31)) b hb 31).later (bel1 _ (.cells #[.int .u64 0, .int .u64 0, .int .u64 0, .int .u64 0, .int .u64 0, .int .u64 0, .int .u64 0, .int .u64 0, .int .u64 0, .int .u64 0, .int .u64 0, .int .u64 0, .int .u64 0, .int .u64 0, .int .u64 0, .int .u64 0] 31))).later (bel1 _ (.cells #[.int .u64 0, .int .u64 0, .int .u64 0, .int .u64 0, .int .u64 0, .int .u64 0, .int .u64 0, .int .u64 0, .int .u64 0, .int .u64 0, .int .u64 0, .int .u64 0, .int .u64 0, .int .u64 0, .int .u64 0, .int .u64 0] 31)); simpa [Hid] using this
  have HD : Hid (((((w.alloc (.cells (List.map (Value.int .u64) a).toArray 31)).alloc (.cells (List.map (Value.int .u64) b).toArray 31)).alloc (.cells #[.int .u64 0, .int .u64 0, .int .u64 0, .int .u64 0, .int .u64 0, .int .u64 0, .int .u64 0, .int .u64 0, .int .u64 0, .int .u64 0, .int .u64 0, .int .u64 0, .int .u64 0, .int .u64 0, .int .u64 0, .int .u64 0] 31)).alloc (.cells #[.int .u64 0, .int .u64 0, .int .u64 0, .int .u64 0, .int .u64 0, .int .u64 0, .int .u64 0, .int .u64 0, .int .u64 0, .int .u64 0, .int .u64 0, .int .u64 0, .int .u64 0, .int .u64 0, .int .u64 0, .int .u64 0] 31)).there (w.heap.size + 1 + 1) 0 16) := by have := there_later (bel1 _ (.cells #[.int .u64 0, .int .u64 0, .int .u64 0, .int .u64 0, .int .u64 0, .int .u64 0, .int .u64 0, .int .u64 0, .int .u64 0, .int .u64 0, .int .u64 0, .int .u64 0, .int .u64 0, .int .u64 0, .int .u64 0, .int .u64 0] 31)) (there_new ((w.alloc (.cells (List.map (Value.int .u64) a).toArray 31)).alloc (.cells (List.map (Value.int .u64) b).toArray 31)) 16 #[.int .u64 0, .int .u64 0, .int .u64 0, .int .u64 0, .int .u64 0, .int .u64 0, .int .u64 0, .int .u64 0, .int .u64 0, .int .u64 0, .int .u64 0, .int .u64 0, .int .u64 0, .int .u64 0, .int .u64 0, .int .u64 0] rfl 31); simpa [Hid] using this
  have HN : Hid (Wrd ((((w.alloc (.cells (List.map (Value.int .u64) a).toArray 31)).alloc (.cells (List.map (Value.int .u64) b).toArray 31)).alloc (.cells #[.int .u64 0, .int .u64 0, .int .u64 0, .int .u64 0, .int .u64 0, .int .u64 0, .int .u64 0, .int .u64 0, .int .u64 0, .int .u64 0, .int .u64 0, .int .u64 0, .int .u64 0, .int .u64 0, .int .u64 0, .int .u64 0] 31)).alloc (.cells #[.int .u64 0, .int .u64 0, .int .u64 0, .int .u64 0, .int .u64 0, .int .u64 0, .int .u64 0, .int .u64 0, .int .u64 0, .int .u64 0, .int .u64 0, .int .u64 0, .int .u64 0, .int .u64 0, .int .u64 0, .int .u64 0] 31)) (w.heap.size + 1 + 1 + 1) (List.replicate 16 (0 : Int))) := by
    have := wrd_box (((w.alloc (.cells (List.map (Value.int .u64) a).toArray 31)).alloc (.cells (List.map (Value.int .u64) b).toArray 31)).alloc (.cells #[.int .u64 0, .int .u64 0, .int .u64 0, .int .u64 0, .int .u64 0, .int .u64 0, .int .u64 0, .int .u64 0, .int .u64 0, .int .u64 0, .int .u64 0, .int .u64 0, .int .u64 0, .int .u64 0, .int .u64 0, .int .u64 0] 31)) (List.replicate 16 (0 : Int)) List.length_replicate 31
    have e : (List.map (Value.int .u64) (List.replicate 16 (0 : Int))).toArray = #[.int .u64 0, .int .u64 0, .int .u64 0, .int .u64 0, .int .u64 0, .int .u64 0, .int .u64 0, .int .u64 0, .int .u64 0, .int .u64 0, .int .u64 0, .int .u64 0, .int .u64 0, .int .u64 0, .int .u64 0, .int .u64 0] := rfl
    rw [e] at this
    simpa [Hid] using this
  have HG : Hid (Gp ((((w.alloc (.cells (List.map (Value.int .u64) a).toArray 31)).alloc (.cells (List.map (Value.int .u64) b).toArray 31)).alloc (.cells #[.int .u64 0, .int .u64 0, .int .u64 0, .int .u64 0, .int .u64 0, .int .u64 0, .int .u64 0, .int .u64 0, .int .u64 0, .int .u64 0, .int .u64 0, .int .u64 0, .int .u64 0, .int .u64 0, .int .u64 0, .int .u64 0] 31)).alloc (.cells #[.int .u64 0, .int .u64 0, .int .u64 0, .int .u64 0, .int .u64 0, .int .u64 0, .int .u64 0, .int .u64 0, .int .u64 0, .int .u64 0, .int .u64 0, .int .u64 0, .int .u64 0, .int .u64 0, .int .u64 0, .int .u64 0] 31))) := (((hg.later (bel1 _ _)).later (bel1 _ _)).later (bel1 _ _)).later (bel1 _ _)
  have HB : Hid (Below w.heap.size w ((((w.alloc (.cells (List.map (Value.int .u64) a).toArray 31)).alloc (.cells (List.map (Value.int .u64) b).toArray 31)).alloc (.cells #[.int .u64 0, .int .u64 0, .int .u64 0, .int .u64 0, .int .u64 0, .int .u64 0, .int .u64 0, .int .u64 0, .int .u64 0, .int .u64 0, .int .u64 0, .int .u64 0, .int .u64 0, .int .u64 0, .int .u64 0, .int .u64 0] 31)).alloc (.cells #[.int .u64 0, .int .u64 0, .int .u64 0, .int .u64 0, .int .u64 0, .int .u64 0, .int .u64 0, .int .u64 0, .int .u64 0, .int .u64 0, .int .u64 0, .int .u64 0, .int .u64 0, .int .u64 0, .int .u64 0, .int .u64 0] 31))) := bel4 _ _ _ _ _
  have hpos : 0 < w.heap.size := hg.pos
  generalize (((w.alloc (.cells (List.map (Value.int .u64) a).toArray 31)).alloc (.cells (List.map (Value.int .u64) b).toArray 31)).alloc (.cells #[.int .u64 0, .int .u64 0, .int .u64 0, .int .u64 0, .int .u64 0, .int .u64 0, .int .u64 0, .int .u64 0, .int .u64 0, .int .u64 0, .int .u64 0, .int .u64 0, .int .u64 0, .int .u64 0, .int .u64 0, .int .u64 0] 31)).alloc (.cells #[.int .u64 0, .int .u64 0, .int .u64 0, .int .u64 0, .int .u64 0, .int .u64 0, .int .u64 0, .int .u64 0, .int .u64 0, .int .u64 0, .int .u64 0, .int .u64 0, .int .u64 0, .int .u64 0, .int .u64 0, .int .u64 0] 31) = W0 at *
  have k1 : w.heap.size < w.heap.size + 1 := by omega
  have k2 : w.heap.size + 1 < w.heap.size + 1 + 1 := by omega
  have k3 : w.heap.size + 1 + 1 < w.heap.size + 1 + 1 + 1 := by omega
  generalize w.heap.size + 1 + 1 + 1 = b3 at *
  generalize w.heap.size + 1 + 1 = b2 at *
  generalize w.heap.size + 1 = b1 at *
  go_loopw [5, 7, 8] (fun bo i d wl => ∃ (j : Nat) (D : List Int) (bv : Int) (t8 : Value), j ≤ 16 ∧ i = .int .i64 j ∧ bo = .int .u64 bv ∧ d = t8 ∧ 0 ≤ bv ∧ bv ≤ 1 ∧ D.length = j ∧ Hid (j = 16 → bv = 0) ∧ Hid (Dw D) ∧ Hid (nv D + 65536 ^ j * (nv (a.drop j) + 2 * nv (pd.drop j) - nv (b.drop j) - bv) = nv a + 2 * 57896044618658097711785492504343953926634992332820282019728792003956564819949 - nv b) ∧ Hid (Wrd wl b3 (D ++ (List.replicate 16 (0 : Int)).drop j)) ∧ Hid (Wrd wl (w.heap.size) a) ∧ Hid (Wrd wl b1 b) ∧ Hid (wl.there b2 0 16) ∧ Hid (Gp wl) ∧ Hid (Below w.heap.size w wl)) (fun _ i _ _ => 16 - (intOf i).toNat)
  case atStart => exact ⟨0, [], 0, _, by decide, rfl, rfl, rfl, by decide, by decide, rfl, fun _ => rfl, (fun _ h => by cases h), by unfold Hid; simp only [nv, List.drop_zero, nv_pd]; omega, HN, HL, HK, HD, HG, HB⟩
  case round =>
    clear HL HK HD HG HB HN
    obtain ⟨j, D, bv, t8, hj, rfl, rfl, rfl, v0, v1, hDl, HT, HDw, HE, HN, HL, HK, HD, HG, HB⟩ := hrel
    by_cases hlt : j < 16
    · have h1 : j < a.length := by omega
      have h2 : j < b.length := by omega
      have h3 : j < pd.length := by rw [pd_len]; exact hlt
      have ra := da.at j h1
      have rb := db.at j h2
      have rp := pd_dg.at j h3
      have HSS : Hid (∀ e nb : Int, e - 65536 * nb = a[j] + 2 * pd[j] - b[j] - bv → nv (D ++ [e]) + 65536 ^ (j + 1) * (nv (a.drop (j + 1)) + 2 * nv (pd.drop (j + 1)) - nv (b.drop (j + 1)) - nb) = nv a + 2 * 57896044618658097711785492504343953926634992332820282019728792003956564819949 - nv b) := fun e nb he => sub_step a b D bv e nb j _ hDl h1 h2 h3 he HE.out
      have H15 : Hid (j = 15 → b[j] ≤ 32767 ∧ pd[j] = 32767) := fun e => by
        subst e
        exact ⟨top15 b hb db HLB.out h2, rfl⟩
      have c1 := (HL.out.cell j h1 ha).1
      have c2 := (HK.out.cell j h2 hb).1
      have c3 := HG.out.cell j h3
      have hjr : j < (List.replicate 16 (0 : Int)).length := by simpa using hlt
      have er : (List.replicate 16 (0 : Int))[j] = 0 := List.getElem_replicate _
      have HN' : Hid (Wrd wr b3 (D ++ 0 :: (List.replicate 16 (0 : Int)).drop (j + 1))) := by
        unfold Hid
        have := HN.out
        rw [drop_cons hjr, er] at this
        exact this
      have hlen : (D ++ 0 :: (List.replicate 16 (0 : Int)).drop (j + 1)).length = 16 := by rw [List.length_append, List.length_cons, rep_len, hDl]; omega
      clear HN er hjr
      generalize a[j] = r at *
      generalize b[j] = q at *
      generalize pd[j] = pj at *
      subst hDl
      obtain ⟨c4, f4⟩ := HN'.out.mid hlen
      obtain ⟨r0, r1⟩ := ra
      obtain ⟨q0, q1⟩ := rb
      obtain ⟨p0, p1⟩ := rp
      have g1 : (D.length : Int) < 16 := by omega
      go_wp2
      go_quiet (fail)
      replace HL : Hid (Wrd (wr.drewN nq) (w.heap.size) a) := HL.out.later (below_drewN (Below.refl _ _) _)
      replace HK : Hid (Wrd (wr.drewN nq) b1 b) := HK.out.later (below_drewN (Below.refl _ _) _)
      replace HN' : Hid (Wrd (wr.drewN nq) b3 (D ++ 0 :: (List.replicate 16 (0 : Int)).drop (D.length + 1))) := HN'.out.later (below_drewN (Below.refl _ _) _)
      replace HD : Hid ((wr.drewN nq).there b2 0 16) := there_later (below_drewN (Below.refl _ _) _) HD.out
      replace HG : Hid (Gp (wr.drewN nq)) := HG.out.later (below_drewN (Below.refl _ _) _)
      replace HB : Hid (Below w.heap.size w (wr.drewN nq)) := below_drewN HB.out _
      clear c1 c2 c3 c4 f4
      generalize wr.drewN nq = y0 at *
      obtain ⟨c4, f4⟩ := HN'.out.mid hlen
      obtain ⟨d, hd⟩ : ∃ d, d = r + 2 * pj + 131072 - q - bv := ⟨_, rfl⟩
      rw [← hd]
      have d0 : 65536 ≤ d := by omega
      have d1 : d < 327680 := by omega
      have HDD : Hid (d = r + 2 * pj + 131072 - q - bv) := hd
      clear hd
      by_cases hge : 131072 ≤ d
      · go_wp2
        go_roundw
        case rel => exact ⟨D.length + 1, D ++ [d - 131072], 0, _, by omega, by go_num, rfl, rfl, by decide, by decide, by simp, fun _ => rfl, (fun x hx => by
          rcases List.mem_append.1 hx with h | h
          · exact HDw.out x h
          · rw [List.mem_singleton.1 h]
            omega), HSS.out _ _ (by have := HDD.out; omega), by
          have := HN'.out.setMid (d - 131072)
          unfold Hid
          rw [List.append_assoc]
          exact this, HL.out.other (by omega) _ _, HK.out.other (by omega) _ _, there_set HD.out _ _ _, HG.out.set _ (by dsimp only; omega) _, HB.out.setCell (p := ⟨b3, D.length, none⟩) (by dsimp only; omega) _⟩
        case measure => simp [intOf]; omega
      · have hlt2 : d < 131072 := by omega
        obtain ⟨gg, hgg⟩ : ∃ gg, gg = d - 131072 + 18446744073709551616 := ⟨_, rfl⟩
        have hw1 : IntKind.u64.wrap (d - 131072) = gg := by
          rw [IntKind.wrap_u64, hgg]
          omega
        obtain ⟨e2, he2⟩ : ∃ e2, e2 = d - 65536 := ⟨_, rfl⟩
        have hw2 : IntKind.u64.wrap (gg + 65536) = e2 := by
          rw [IntKind.wrap_u64, hgg, he2]
          omega
        have gg0 : 0 ≤ gg := by omega
        have e20 : 0 ≤ e2 ∧ e2 < 65536 := by omega
        have HE2 : Hid (e2 = d - 65536) := he2
        clear hgg he2
        go_upto_region 8 with fail
        have HN2 : Hid (Wrd (y0.setCell ⟨b3, D.length, none⟩ (.int .u64 gg)) b3 (D ++ gg :: (List.replicate 16 (0 : Int)).drop (D.length + 1))) := HN'.out.setMid gg
        replace HL : Hid (Wrd (y0.setCell ⟨b3, D.length, none⟩ (.int .u64 gg)) (w.heap.size) a) := HL.out.other (by omega) _ _
        replace HK : Hid (Wrd (y0.setCell ⟨b3, D.length, none⟩ (.int .u64 gg)) b1 b) := HK.out.other (by omega) _ _
        replace HD : Hid ((y0.setCell ⟨b3, D.length, none⟩ (.int .u64 gg)).there b2 0 16) := there_set HD.out _ _ _
        replace HG : Hid (Gp (y0.setCell ⟨b3, D.length, none⟩ (.int .u64 gg))) := HG.out.set _ (by dsimp only; omega) _
        replace HB : Hid (Below w.heap.size w (y0.setCell ⟨b3, D.length, none⟩ (.int .u64 gg))) := HB.out.setCell (p := ⟨b3, D.length, none⟩) (by dsimp only; omega) _
        clear c4 f4 HN'
        generalize y0.setCell ⟨b3, D.length, none⟩ (.int .u64 gg) = y1 at *
        have hlen2 : (D ++ gg :: (List.replicate 16 (0 : Int)).drop (D.length + 1)).length = 16 := by rw [List.length_append, List.length_cons, rep_len]; omega
        obtain ⟨c4, f4⟩ := HN2.out.mid hlen2
        go_wp2
        go_roundw
        case rel => exact ⟨D.length + 1, D ++ [e2], 1, _, by omega, by go_num, rfl, rfl, by decide, by decide, by simp, (fun h => by
          exfalso
          have h15 := H15.out (by omega)
          have := HDD.out
          omega), (fun x hx => by
          rcases List.mem_append.1 hx with h | h
          · exact HDw.out x h
          · rw [List.mem_singleton.1 h]
            omega), HSS.out _ _ (by have := HDD.out; have := HE2.out; omega), by
          have := HN2.out.setMid e2
          unfold Hid
          rw [List.append_assoc]
          exact this, HL.out.other (by omega) _ _, HK.out.other (by omega) _ _, there_set HD.out _ _ _, HG.out.set _ (by dsimp only; omega) _, HB.out.setCell (p := ⟨b3, D.length, none⟩) (by dsimp only; omega) _⟩
        case measure => simp [intOf]; omega
    · have e : j = 16 := by omega
      subst e
      have za : a.drop 16 = [] := List.drop_eq_nil_of_le (by omega)
      have zb : b.drop 16 = [] := List.drop_eq_nil_of_le (by omega)
      have zp : pd.drop 16 = [] := rfl
      have zr : (List.replicate 16 (0 : Int)).drop 16 = [] := rfl
      have HN' : Hid (Wrd wr b3 D) := by have := HN.out; rw [zr, List.append_nil] at this; exact this
      have HV : Hid (nv D % 57896044618658097711785492504343953926634992332820282019728792003956564819949 = (nv a - nv b) % 57896044618658097711785492504343953926634992332820282019728792003956564819949) := by
        have h := HE.out
        rw [za, zb, zp, HT.out rfl] at h
        simp only [nv] at h
        unfold Hid
        omega
      clear HN za zb zp zr HE HT
      obtain ⟨_, _, hi⟩ := no_cells hDl
      go_wp2_with (refine wpList_load_mid rfl 31 (.tmp 6) rfl b3 0 rfl (List.map (Value.int .u64) D) _ HN'.out.rng Tryd.underlying31 rfl hi ?_)
      refine (freeze_any D hDl HDw.out _ HG.out).mono ?_
      rintro e w1 ⟨z, rfl, HZ, hb'⟩
      replace HD : Hid (w1.there b2 0 16) := there_later hb' HD.out
      replace HB : Hid (Below w.heap.size w w1) := HB.out.trans (hb'.mono HB.out.size)
      have HZ' : Hid (z = dg 16 ((nv a - nv b) % 57896044618658097711785492504343953926634992332820282019728792003956564819949)) := by unfold Hid; rw [HZ.out, HV.out]
      have hzl : z.length = 16 := by rw [HZ.out, dg_length]
      clear hb' hi
      obtain ⟨hlenS, honeS, hiS⟩ := no_cells hzl
      generalize hcs : (List.map (Value.int .u64) z) = cs at *
      have HC : Hid ((List.map (Value.int .u64) z) = cs) := hcs
      clear hcs
      go_wp2_with (refine wpList_store_mid rfl 31 (.tmp 4) (.tmp 40) rfl (b2) 0 cs.toArray rfl rfl (by simpa [hlenS] using HD.out) (by simpa using hiS) (all_oneCell_toArray honeS) ?_)
      have HR2 : Hid ((w1.setCells (b2) 0 cs).rangeAt (b2) 0 cs) := World.rangeAt_setCells_same _ _ _ _ (by rw [hlenS]; exact HD.out)
      have hld := run_loadVar_mid (P := Tryd.prog) _ _ 0 31 _ _ HR2.out Tryd.underlying31 rfl hiS
      exact bodyPost_ret (v := .agg cs.toArray) (by simp [results, Tryd.results43]; exact hld) rfl ⟨z, by rw [HC.out], HZ', below_setCells _ (by omega) _ _ _ HB.out⟩
/-- Sums and differences of two numbers below p. -/
theorem radd_el (a b : List Int) (x y : Int) (hx : El x) (hy : El y) (HA : Hid (a = dg 16 x)) (HY : Hid (b = dg 16 y)) (w : World) (hg : Gp w) :
    Calls Tryd.prog 42 #[.agg (List.map (Value.int .u64) a).toArray, .agg (List.map (Value.int .u64) b).toArray] w fun e w' => ∃ z, e = .returned (.agg (List.map (Value.int .u64) z).toArray) ∧ Hid (z = dg 16 ((x + y) % 57896044618658097711785492504343953926634992332820282019728792003956564819949)) ∧ Below w.heap.size w w' := by
  refine (radd_any a b (by rw [HA.out, dg_length]) (by rw [HY.out, dg_length]) (by rw [HA.out]; exact dg_dg _ _) (by rw [HY.out]; exact dg_dg _ _) w hg).mono ?_
  rintro e w' ⟨z, rfl, HZ, hb⟩
  refine ⟨z, rfl, ?_, hb⟩
  unfold Hid
  rw [HZ.out, HA.out, HY.out, nv_el hx, nv_el hy]
theorem rsub_el (a b : List Int) (x y : Int) (hx : El x) (hy : El y) (HA : Hid (a = dg 16 x)) (HY : Hid (b = dg 16 y)) (w : World) (hg : Gp w) :
    Calls Tryd.prog 43 #[.agg (List.map (Value.int .u64) a).toArray, .agg (List.map (Value.int .u64) b).toArray] w fun e w' => ∃ z, e = .returned (.agg (List.map (Value.int .u64) z).toArray) ∧ Hid (z = dg 16 ((x - y) % 57896044618658097711785492504343953926634992332820282019728792003956564819949)) ∧ Below w.heap.size w w' := by
  refine (rsub_any a b (by rw [HA.out, dg_length]) (by rw [HY.out, dg_length]) (by rw [HA.out]; exact dg_dg _ _) (by rw [HY.out]; exact dg_dg _ _) (by rw [HA.out, nv_el hx]; exact hx.h1) (by rw [HY.out, nv_el hy]; exact hy.h1) w hg).mono ?_
  rintro e w' ⟨z, rfl, HZ, hb⟩
  refine ⟨z, rfl, ?_, hb⟩
  unfold Hid
  rw [HZ.out, HA.out, HY.out, nv_el hx, nv_el hy]
end Go.Proofs.YtggjifpcoidipaaDoor
