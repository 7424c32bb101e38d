/-
  What the reference's Add and From do. No statement of the seat is proved here.
-/
import Derived.Test.YtggjifpcoidipaaDoorRFreeze
namespace Go.Proofs.YtggjifpcoidipaaDoor
open Go.RowKit

/-! ### Add -/
def zs (a b : List Int) : List Int := List.zipWith (· + ·) a b
theorem zs_len {a b : List Int} (ha : a.length = 16) (hb : b.length = 16) : (zs a b).length = 16 := by rw [zs, List.length_zipWith, ha, hb]; rfl
theorem nv_zs : ∀ (a b : List Int), a.length = b.length → nv (zs a b) = nv a + nv b
  | [], [], _ => rfl
  | x :: a, y :: b, h => by
    have ih := nv_zs a b (by simpa using h)
    unfold zs at *
    rw [List.zipWith_cons_cons, nv, nv, nv, ih]
    omega
  | [], _ :: _, h => by simp at h
  | _ :: _, [], h => by simp at h
theorem zs_at (a b : List Int) (i : Nat) (h1 : i < a.length) (h2 : i < b.length) (h3 : i < (zs a b).length) : (zs a b)[i] = a[i] + b[i] := by simp [zs]
theorem zs_dw {a b : List Int} (ha : Dg a) (hb : Dg b) : Dw (zs a b) := by
  intro x hx
  obtain ⟨i, hi, rfl⟩ := List.getElem_of_mem hx
  have h1 : i < a.length := by rw [zs, List.length_zipWith] at hi; omega
  have h2 : i < b.length := by rw [zs, List.length_zipWith] at hi; omega
  rw [zs_at a b i h1 h2 hi]
  have := ha.at i h1
  have := hb.at i h2
  omega
theorem take_snoc (l : List Int) (i : Nat) (h : i < l.length) : l.take (i + 1) = l.take i ++ [l[i]] := List.take_succ_eq_append_getElem h

set_option maxHeartbeats 4000000 in
theorem radd_any (a b : List Int) (ha : a.length = 16) (hb : b.length = 16) (da : Dg a) (db : Dg b) (w : World) (hg : Gp w) :
    Calls Tryd.prog 42 #[.agg (List.map (Value.int .u64) a).toArray, .agg (List.map (Value.int .u64) b).toArray] w fun e w' => ∃ z, e = .returned (.agg (List.map (Value.int .u64) z).toArray) ∧ Hid (z = dg 16 ((nv a + nv b) % 57896044618658097711785492504343953926634992332820282019728792003956564819949)) ∧ Below w.heap.size w w' := by
  go_enter Tryd.func42, Tryd.ntmps42
  go_wp2
  have HL : Hid (Wrd (((w.alloc (.cells (List.map (Value.int .u64) a).toArray 31)).alloc (.cells (List.map (Value.int .u64) b).toArray 31)).alloc (.cells #[.int .u64 0, .int .u64 0, .int .u64 0, .int .u64 0, .int .u64 0, .int .u64 0, .int .u64 0, .int .u64 0, .int .u64 0, .int .u64 0, .int .u64 0, .int .u64 0, .int .u64 0, .int .u64 0, .int .u64 0, .int .u64 0] 31)) (w.heap.size) a) := ((wrd_box w a ha _).later (bel1 _ (.cells (List.map (Value.int .u64) b).toArray 31))).later (bel1 _ _)
  have HK : Hid (Wrd (((w.alloc (.cells (List.map (Value.int .u64) a).toArray 31)).alloc (.cells (List.map (Value.int .u64) b).toArray 31)).alloc (.cells #[.int .u64 0, .int .u64 0, .int .u64 0, .int .u64 0, .int .u64 0, .int .u64 0, .int .u64 0, .int .u64 0, .int .u64 0, .int .u64 0, .int .u64 0, .int .u64 0, .int .u64 0, .int .u64 0, .int .u64 0, .int .u64 0] 31)) (w.heap.size + 1) b) := by have := (wrd_box (w.alloc (.cells (List.map (Value.int .u64) a).toArray 31)) b hb 31).later (bel1 _ (.cells #[.int .u64 0, .int .u64 0, .int .u64 0, .int .u64 0, .int .u64 0, .int .u64 0, .int .u64 0, .int .u64 0, .int .u64 0, .int .u64 0, .int .u64 0, .int .u64 0, .int .u64 0, .int .u64 0, .int .u64 0, .int .u64 0] 31)); simpa [Hid] using this
  have HD : Hid ((((w.alloc (.cells (List.map (Value.int .u64) a).toArray 31)).alloc (.cells (List.map (Value.int .u64) b).toArray 31)).alloc (.cells #[.int .u64 0, .int .u64 0, .int .u64 0, .int .u64 0, .int .u64 0, .int .u64 0, .int .u64 0, .int .u64 0, .int .u64 0, .int .u64 0, .int .u64 0, .int .u64 0, .int .u64 0, .int .u64 0, .int .u64 0, .int .u64 0] 31)).there (w.heap.size + 1 + 1) 0 16) := by have := there_new ((w.alloc (.cells (List.map (Value.int .u64) a).toArray 31)).alloc (.cells (List.map (Value.int .u64) b).toArray 31)) 16 #[.int .u64 0, .int .u64 0, .int .u64 0, .int .u64 0, .int .u64 0, .int .u64 0, .int .u64 0, .int .u64 0, .int .u64 0, .int .u64 0, .int .u64 0, .int .u64 0, .int .u64 0, .int .u64 0, .int .u64 0, .int .u64 0] rfl 31; simpa [Hid] using this
  have HG : Hid (Gp (((w.alloc (.cells (List.map (Value.int .u64) a).toArray 31)).alloc (.cells (List.map (Value.int .u64) b).toArray 31)).alloc (.cells #[.int .u64 0, .int .u64 0, .int .u64 0, .int .u64 0, .int .u64 0, .int .u64 0, .int .u64 0, .int .u64 0, .int .u64 0, .int .u64 0, .int .u64 0, .int .u64 0, .int .u64 0, .int .u64 0, .int .u64 0, .int .u64 0] 31))) := ((hg.later (bel1 _ _)).later (bel1 _ _)).later (bel1 _ _)
  have HB : Hid (Below w.heap.size w (((w.alloc (.cells (List.map (Value.int .u64) a).toArray 31)).alloc (.cells (List.map (Value.int .u64) b).toArray 31)).alloc (.cells #[.int .u64 0, .int .u64 0, .int .u64 0, .int .u64 0, .int .u64 0, .int .u64 0, .int .u64 0, .int .u64 0, .int .u64 0, .int .u64 0, .int .u64 0, .int .u64 0, .int .u64 0, .int .u64 0, .int .u64 0, .int .u64 0] 31))) := bel3 _ _ _ _
  have hpos : 0 < w.heap.size := hg.pos
  generalize ((w.alloc (.cells (List.map (Value.int .u64) a).toArray 31)).alloc (.cells (List.map (Value.int .u64) b).toArray 31)).alloc (.cells #[.int .u64 0, .int .u64 0, .int .u64 0, .int .u64 0, .int .u64 0, .int .u64 0, .int .u64 0, .int .u64 0, .int .u64 0, .int .u64 0, .int .u64 0, .int .u64 0, .int .u64 0, .int .u64 0, .int .u64 0, .int .u64 0] 31) = W0 at *
  have k1 : w.heap.size < w.heap.size + 1 := by omega
  have k2 : w.heap.size + 1 < w.heap.size + 1 + 1 := by omega
  generalize w.heap.size + 1 + 1 = b2 at *
  generalize w.heap.size + 1 = b1 at *
  have hz := zs_len ha hb
  go_loopw [5] (fun i wl => ∃ j : Nat, j ≤ 16 ∧ i = .int .i64 j ∧ Hid (Wrd wl (w.heap.size) ((zs a b).take j ++ a.drop j)) ∧ Hid (Wrd wl b1 b) ∧ Hid (wl.there b2 0 16) ∧ Hid (Gp wl) ∧ Hid (Below w.heap.size w wl)) (fun i _ => 16 - (intOf i).toNat)
  case atStart => exact ⟨0, by decide, rfl, by simpa [Hid] using HL, HK, HD, HG, HB⟩
  case round =>
    clear HL HK HD HG HB
    obtain ⟨j, hj, rfl, HL, HK, HD, HG, HB⟩ := hrel
    by_cases hlt : j < 16
    · have h1 : j < a.length := by omega
      have h2 : j < b.length := by omega
      have h3 : j < (zs a b).length := by omega
      have HS : Hid ((zs a b).take (j + 1) = (zs a b).take j ++ [a[j] + b[j]]) := by unfold Hid; rw [take_snoc _ _ h3, zs_at a b j h1 h2 h3]
      have ra := da.at j h1
      have rb := db.at j h2
      have c2 := (HK.out.cell j h2 hb).1
      have htl : ((zs a b).take j).length = j := by rw [List.length_take]; omega
      have HL' : Hid (Wrd wr (w.heap.size) ((zs a b).take j ++ a[j] :: a.drop (j + 1))) := by unfold Hid; rw [← drop_cons h1]; exact HL.out
      have hlen : ((zs a b).take j ++ a[j] :: a.drop (j + 1)).length = 16 := by rw [← drop_cons h1, List.length_append, List.length_drop, htl]; omega
      obtain ⟨c1, f1⟩ := HL'.out.mid hlen
      rw [htl] at c1 f1
      generalize a[j] = r at *
      generalize b[j] = q at *
      obtain ⟨r0, r1⟩ := ra
      obtain ⟨q0, q1⟩ := rb
      have g1 : (j : Int) < 16 := by omega
      clear HL
      go_wp2
      go_region
      all_goals
        go_wp2
        go_roundw
        case rel => exact ⟨j + 1, by omega, by go_num, by
          have := HL'.out.drew.setMid (r + q)
          rw [htl] at this
          unfold Hid
          rw [HS.out, List.append_assoc]
          exact this, HK.out.drew.other (by omega) _ _, there_set (there_later (Below.refl _ _).drew HD.out) _ _ _, (HG.out.later (Below.refl _ _).drew).set _ (by dsimp only; omega) _, HB.out.drew.setCell (p := ⟨w.heap.size, j, none⟩) (Nat.le_refl _) _⟩
        case measure => simp [intOf]; omega
    · have e : j = 16 := by omega
      subst e
      have HL' : Hid (Wrd wr (w.heap.size) (zs a b)) := by
        have := HL.out
        rw [List.take_of_length_le (by omega), List.drop_eq_nil_of_le (by omega), List.append_nil] at this
        exact this
      obtain ⟨_, _, hi⟩ := no_cells hz
      clear HL
      go_wp2_with (refine wpList_load_mid rfl 31 (.tmp 2) rfl (w.heap.size) 0 rfl (List.map (Value.int .u64) (zs a b)) _ HL'.out.rng Tryd.underlying31 rfl hi ?_)
      refine (freeze_any (zs a b) hz (zs_dw da db) _ HG.out).mono ?_
      rintro e w1 ⟨z, rfl, HZ, hb'⟩
      replace HD : Hid (w1.there b2 0 16) := there_later hb' HD.out
      replace HB : Hid (Below w.heap.size w w1) := HB.out.trans (hb'.mono HB.out.size)
      have HZ' : Hid (z = dg 16 ((nv a + nv b) % 57896044618658097711785492504343953926634992332820282019728792003956564819949)) := by unfold Hid; rw [HZ.out, nv_zs a b (by omega)]
      have hzl : z.length = 16 := by rw [HZ.out, dg_length]
      clear hb' hi
      obtain ⟨hlenS, honeS, hiS⟩ := no_cells hzl
      generalize hcs : (List.map (Value.int .u64) z) = cs at *
      have HC : Hid ((List.map (Value.int .u64) z) = cs) := hcs
      clear hcs
      go_wp2_with (refine wpList_store_mid rfl 31 (.tmp 4) (.tmp 20) rfl (b2) 0 cs.toArray rfl rfl (by simpa [hlenS] using HD.out) (by simpa using hiS) (all_oneCell_toArray honeS) ?_)
      have HR2 : Hid ((w1.setCells (b2) 0 cs).rangeAt (b2) 0 cs) := World.rangeAt_setCells_same _ _ _ _ (by rw [hlenS]; exact HD.out)
      have hld := run_loadVar_mid (P := Tryd.prog) _ _ 0 31 _ _ HR2.out Tryd.underlying31 rfl hiS
      exact bodyPost_ret (v := .agg cs.toArray) (by simp [results, Tryd.results42]; exact hld) rfl ⟨z, by rw [HC.out], HZ', below_setCells _ (by omega) _ _ _ HB.out⟩
end Go.Proofs.YtggjifpcoidipaaDoor
