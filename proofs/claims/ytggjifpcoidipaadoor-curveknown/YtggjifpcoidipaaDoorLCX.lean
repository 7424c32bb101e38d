/-
  What the reference's X and Public do, by letters; CurveX's walk. No statement of the seat is proved here.
-/
import Derived.Test.YtggjifpcoidipaaDoorRX
import Derived.Test.YtggjifpcoidipaaDoorCKnw
import Derived.Test.YtggjifpcoidipaaDoorCLaw
import Derived.Test.YtggjifpcoidipaaDoorRClamp
import Derived.Deep.CutBlock
namespace Go.Proofs.YtggjifpcoidipaaDoor
open Go.RowKit

theorem rx_l (k l : List Int) (hk : By k) (hl : By l) (w : World) (hg : Gp w) : Calls Tryd.prog 23 #[(.agg (List.map (Value.int .u8) k).toArray), (.agg (List.map (Value.int .u8) l).toArray)] w fun e w' => ∃ z, e = .returned (.agg (List.map (Value.int .u8) (lay 32 z)).toArray) ∧ El z ∧ Hid (z = xn (leN (cl k)) (num l)) ∧ Below w.heap.size w w' := by
  refine (rx_c k l hk hl w hg).mono ?_
  rintro e w' ⟨rfl, hb⟩
  exact ⟨_, rfl, Ed.xn_el _ _, rfl, hb⟩
theorem el_zero : El 0 := ⟨by decide, by decide⟩
theorem lay_ne {z : Int} (hz : El z) (h : z ≠ 0) : lay 32 z ≠ lay 32 0 := fun e => h (by have := congrArg num e; rwa [num_laid z hz, num_laid 0 el_zero] at this)
theorem bz_lay : bz 0 = lay 32 0 := rfl
structure Mk (w : World) (q1 : Nat) (k l : List Int) (u : World) : Prop where
  ak : Arr u w.heap.size (List.map (Value.int .u8) k)
  al : Arr u q1 (List.map (Value.int .u8) l)
  bel : Below w.heap.size w u
theorem Mk.later {w : World} {q1 : Nat} {k l : List Int} {u v : World} (h : Mk w q1 k l u) (hb : Below u.heap.size u v) : Mk w q1 k l v := ⟨h.ak.later hb, h.al.later hb, h.bel.trans (hb.mono h.bel.size)⟩
theorem arr_else {u : World} {b c i : Nat} {cs : List Value} (h : Arr u b cs) (hc : b ≠ c) (v : Value) : Arr (u.setCell ⟨c, i, none⟩ v) b cs := ⟨range_else h.rng hc v, there_set h.all _ _ _⟩
theorem arr_else_cells {b c : Nat} {cs : List Value} (hc : b ≠ c) : ∀ (vs : List Value) (o : Nat) {u : World}, Arr u b cs → Arr (u.setCells c o vs) b cs
  | [], _, _, h => h
  | v :: vs, o, _, h => arr_else_cells hc vs (o + 1) (arr_else h hc v)
theorem arr_all {u : World} {b : Nat} {cs : List Value} (h : u.there b 0 32) (hl : cs.length = 32) : Arr (u.setCells b 0 cs) b cs := ⟨World.rangeAt_setCells_same _ _ _ _ (by rw [hl]; exact h), World.there_setCells h _ _ _⟩
theorem by_set {l : List Int} (h : By l) (i : Nat) {x : Int} (h0 : 0 ≤ x) (h1 : x ≤ 255) : By (l.set i x) := ⟨by rw [List.length_set, h.len], fun y hy => by
  rcases List.mem_or_eq_of_mem_set hy with hy | rfl
  · exact h.byt y hy
  · exact ⟨h0, h1⟩⟩


set_option maxRecDepth 8000 in
set_option maxHeartbeats 16000000 in
theorem curveX_walk (k l : List Int) (n : Int) (hk : By k) (hl : By l) (hn : -9223372036854775808 ≤ n ∧ n ≤ 9223372036854775807) (w : World) (hg : Gp w) :
    Calls Tryd.prog 5 #[(.agg (List.map (Value.int .u8) k).toArray), (.agg (List.map (Value.int .u8) l).toArray), .int .i64 n] w fun e w' => e = .returned (.bool true) ∧ Below w.heap.size w w' := by
  have HK : Hid (By k) := hk
  have HL : Hid (By l) := hl
  clear hk hl
  go_enter Tryd.func5, Tryd.ntmps5
  go_upto_region 1 with fail
  obtain ⟨W0, hW0⟩ : ∃ W, W = (w.alloc (.cells (List.map (Value.int .u8) k).toArray 22)).alloc (.cells (List.map (Value.int .u8) l).toArray 22) := ⟨_, rfl⟩
  obtain ⟨q1, hq1⟩ : ∃ q, q = w.heap.size + 1 := ⟨_, rfl⟩
  rw [← hW0, ← hq1]
  have HB : Hid (Below w.heap.size w W0) := by unfold Hid; rw [hW0]; exact bel2 _ _ _
  have HM : Hid (Mk w q1 k l W0) := ⟨by rw [hW0]; exact (arr_box w k HK.out).later (bel1 _ _), by rw [hW0, hq1]; have := arr_box (w.alloc (.cells (List.map (Value.int .u8) k).toArray 22)) l HL.out; simpa using this, HB.out⟩
  have HG : Hid (Gp W0) := hg.later HB.out
  have k1 : w.heap.size < q1 := by omega
  have hwp : Hid (0 < w.heap.size) := hg.pos
  clear hW0 hq1 hg HB
  go_wp2_with fail
  refine (pick_any n 6 hn (by decide) _).mono ?_
  rintro e w' ⟨c, rfl, p0, p1, hw⟩
  rw [hw]
  clear hw w'
  obtain ⟨c, rfl⟩ := Int.eq_ofNat_of_zero_le p0
  obtain ⟨b, hb0⟩ : ∃ b, IntKind.u8.wrap (n.tdiv 6) = b := ⟨_, rfl⟩
  have hbd : 0 ≤ b ∧ b ≤ 255 := by rw [IntKind.wrap_u8] at hb0; omega
  obtain ⟨bd0, bd1⟩ := hbd
  go_upto_block 0 with fail
  go_cut [7] from 8 (fun _ wx => ∃ k' l' : List Int, Hid (By k') ∧ Hid (By l') ∧ Hid (Mk w q1 k' l' wx) ∧ Hid (Gp wx))
  case first =>
    rcases (show c = 0 ∨ c = 1 ∨ c = 2 ∨ c = 3 ∨ 4 ≤ c by omega) with rfl | rfl | rfl | rfl | hc4
    · obtain ⟨hlen, hone, hi⟩ := by_cells (bz_by b bd0 bd1)
      have hth := HM.out.al.all
      go_wp2_with (refine wpList_store_mid rfl 22 (.tmp 4) (.tmp 19) rfl q1 0 (List.map (Value.int .u8) (bz b)).toArray rfl rfl (by simpa [hlen] using hth) (by simpa using hi) (all_oneCell_toArray hone) ?_)
      go_meet
      exact ⟨k, bz b, HK, bz_by b bd0 bd1, ⟨arr_else_cells (by omega) _ _ HM.out.ak, arr_all hth hlen, below_setCells _ (by omega) _ _ _ HM.out.bel⟩, World.rangeAt_setCells_apart HG.out _ _ _ (.inl (by omega))⟩
    · go_wp2
      go_loopw [7] (fun i wr => ∃ j : Nat, j ≤ 32 ∧ i = .int .i64 j ∧ Hid (wr.there q1 0 32) ∧ Hid (wr.rangeAt q1 0 (List.map (Value.int .u8) (ff j))) ∧ Hid (Arr wr w.heap.size (List.map (Value.int .u8) k)) ∧ Hid (Gp wr) ∧ Hid (Below w.heap.size w wr)) (fun i _ => 32 - (intOf i).toNat)
      case atStart => exact ⟨0, by decide, rfl, HM.out.al.all, (fun j v hv => by simp [ff] at hv), HM.out.ak, HG, HM.out.bel⟩
      case round =>
        clear HM HG
        obtain ⟨j, hj, rfl, HT, HR, HA, HG, HB⟩ := hrel
        by_cases hlt : j < 32
        · obtain ⟨cc, hcc, hff⟩ := there_cell HT.out j hlt
          have g1 : (j : Int) < 32 := by omega
          go_wp2
          go_roundw
          case rel => exact ⟨j + 1, by omega, by go_num, there_set HT.out _ _ _, by
            unfold Hid
            rw [← ff_snoc]
            exact range_snoc HR.out (k := j) (by rw [List.length_map, ff_len]) HT.out hlt (.int .u8 255), arr_else HA.out (by omega) _, HG.out.set _ (by dsimp only; omega) _, HB.out.setCell (p := ⟨q1, j, none⟩) (by dsimp only; omega) _⟩
          case measure => simp [intOf]; omega
        · have e : j = 32 := by omega
          subst e
          obtain ⟨cc, hcc, hff⟩ := there_cell HT.out 0 (by decide)
          have A : Arr wr q1 (List.map (Value.int .u8) (ff 32)) := ⟨HR.out, HT.out⟩
          have HA4 : Hid (Arr (wr.setCell ⟨q1, 0, none⟩ (.int .u8 b)) q1 (List.map (Value.int .u8) ((ff 32).set 0 b))) := arr_set A 0 (by rw [ff_len]; decide) b
          clear A
          go_wp2
          go_meet
          exact ⟨k, (ff 32).set 0 b, HK, by_set ff_by32 0 bd0 bd1, ⟨arr_else HA.out (by omega) _, HA4.out, HB.out.setCell (p := ⟨q1, 0, none⟩) (by dsimp only; omega) _⟩, HG.out.set _ (by dsimp only; omega) _⟩
    · have n31 : 31 < l.length := by rw [HL.out.len]; decide
      obtain ⟨cc, ff0⟩ := arr_cell HM.out.al 31 n31 (by decide)
      have hbq := HL.out.byt _ (List.getElem_mem n31)
      obtain ⟨q, hq⟩ : ∃ q, q = l[31] := ⟨_, rfl⟩
      rw [← hq] at cc hbq
      obtain ⟨v, hv⟩ : ∃ v, bits .or .u8 q 128 = v := ⟨_, rfl⟩
      have hvb := or8 q 128 hbq (by decide)
      rw [hv] at hvb
      clear hq
      have HA4 : Hid (Arr (W0.setCell ⟨q1, 31, none⟩ (.int .u8 v)) q1 (List.map (Value.int .u8) (l.set 31 v))) := arr_set HM.out.al 31 n31 v
      go_wp2
      go_meet
      exact ⟨k, l.set 31 v, HK, by_set HL.out 31 hvb.1 hvb.2.1, ⟨arr_else HM.out.ak (by omega) _, HA4.out, HM.out.bel.setCell (p := ⟨q1, 31, none⟩) (by dsimp only; omega) _⟩, HG.out.set _ (by dsimp only; omega) _⟩
    · obtain ⟨hlen, hone, hi⟩ := by_cells (bz_by b bd0 bd1)
      have hth := HM.out.ak.all
      have hw0 := hwp.out
      go_wp2_with (refine wpList_store_mid rfl 22 (.tmp 3) (.tmp 43) rfl w.heap.size 0 (List.map (Value.int .u8) (bz b)).toArray rfl rfl (by simpa [hlen] using hth) (by simpa using hi) (all_oneCell_toArray hone) ?_)
      go_meet
      exact ⟨bz b, l, bz_by b bd0 bd1, HL, ⟨arr_all hth hlen, arr_else_cells (by omega) _ _ HM.out.al, below_setCells _ (Nat.le_refl _) _ _ _ HM.out.bel⟩, World.rangeAt_setCells_apart HG.out _ _ _ (.inl (by omega))⟩
    · have c0 : ¬ (c : Int) = 0 := by omega
      have c1 : ¬ (c : Int) = 1 := by omega
      have c2 : ¬ (c : Int) = 2 := by omega
      have c3 : ¬ (c : Int) = 3 := by omega
      go_wp2
      go_meet
      exact ⟨k, l, HK, HL, HM, HG⟩
  case rest =>
    clear hb0 bd0 bd1 HM HG HK HL
    obtain ⟨k', l', HK, HL, HM, HG⟩ := hcut
    obtain ⟨_, _, hiK⟩ := by_cells HK.out
    obtain ⟨_, _, hiL⟩ := by_cells HL.out
    go_wp2_with (first
      | (refine wpList_load_mid rfl 22 (.tmp 3) rfl (w.heap.size) 0 rfl (List.map (Value.int .u8) k') _ HM.out.ak.rng Tryd.underlying22 rfl hiK ?_)
      | (refine wpList_load_mid rfl 22 (.tmp 4) rfl q1 0 rfl (List.map (Value.int .u8) l') _ HM.out.al.rng Tryd.underlying22 rfl hiL ?_))
    refine (x_l k' l' HK.out HL.out _).mono ?_
    rintro e V1 ⟨z, rfl, hz, HZ, hb⟩
    replace HM : Hid (Mk w q1 k' l' V1) := HM.out.later hb
    replace HG : Hid (Gp V1) := HG.out.later hb
    have HEz : Hid (El z) := hz
    clear hb hz
    obtain ⟨hlen, hone, hi⟩ := by_cells (lay_by z)
    obtain ⟨cs, HCcs⟩ : ∃ c, Hid (c = (List.map (Value.int .u8) (lay 32 z))) := ⟨_, rfl⟩
    rw [← HCcs.out] at hlen hone hi ⊢
    have hth := there_new V1 32 #[.int .u8 0, .int .u8 0, .int .u8 0, .int .u8 0, .int .u8 0, .int .u8 0, .int .u8 0, .int .u8 0, .int .u8 0, .int .u8 0, .int .u8 0, .int .u8 0, .int .u8 0, .int .u8 0, .int .u8 0, .int .u8 0, .int .u8 0, .int .u8 0, .int .u8 0, .int .u8 0, .int .u8 0, .int .u8 0, .int .u8 0, .int .u8 0, .int .u8 0, .int .u8 0, .int .u8 0, .int .u8 0, .int .u8 0, .int .u8 0, .int .u8 0, .int .u8 0] rfl 22
    go_upto_region 15 with (refine wpList_store_mid rfl 22 (.tmp 8) (.tmp 46) rfl (V1.heap.size) 0 cs.toArray rfl rfl (by simpa [hlen] using hth) (by simpa using hi) (all_oneCell_toArray hone) ?_)
    clear hth
    obtain ⟨W3, hW3⟩ : ∃ W, W = (V1.alloc (.cells #[.int .u8 0, .int .u8 0, .int .u8 0, .int .u8 0, .int .u8 0, .int .u8 0, .int .u8 0, .int .u8 0, .int .u8 0, .int .u8 0, .int .u8 0, .int .u8 0, .int .u8 0, .int .u8 0, .int .u8 0, .int .u8 0, .int .u8 0, .int .u8 0, .int .u8 0, .int .u8 0, .int .u8 0, .int .u8 0, .int .u8 0, .int .u8 0, .int .u8 0, .int .u8 0, .int .u8 0, .int .u8 0, .int .u8 0, .int .u8 0, .int .u8 0, .int .u8 0] 22)).setCells V1.heap.size 0 cs := ⟨_, rfl⟩
    obtain ⟨b8, hb8⟩ : ∃ b, b = V1.heap.size := ⟨_, rfl⟩
    rw [← hW3, ← hb8]
    have A8 : Hid (Arr W3 b8 (List.map (Value.int .u8) (lay 32 z))) := by unfold Hid; rw [hW3, hb8, ← HCcs.out]; exact arr_new V1 _ rfl _ hlen
    have hbl : Below V1.heap.size V1 W3 := by rw [hW3]; exact bel_new _ _ _
    replace HM : Hid (Mk w q1 k' l' W3) := HM.out.later hbl
    replace HG : Hid (Gp W3) := HG.out.later hbl
    clear hbl hW3 hb8 hlen hone hi HCcs
    go_wp2_with (first
      | (refine wpList_load_mid rfl 22 (.tmp 3) rfl (w.heap.size) 0 rfl (List.map (Value.int .u8) k') _ HM.out.ak.rng Tryd.underlying22 rfl hiK ?_)
      | (refine wpList_load_mid rfl 22 (.tmp 4) rfl q1 0 rfl (List.map (Value.int .u8) l') _ HM.out.al.rng Tryd.underlying22 rfl hiL ?_))
    refine (shared_l k' l' HK.out HL.out _).mono ?_
    rintro e V4 ⟨z2, hz2, HZ2, hcase, hb⟩
    have ez : z2 = z := HZ2.out.trans HZ.out.symm
    subst ez
    replace HM : Hid (Mk w q1 k' l' V4) := HM.out.later hb
    replace HG : Hid (Gp V4) := HG.out.later hb
    replace A8 : Hid (Arr V4 b8 (List.map (Value.int .u8) (lay 32 z2))) := A8.out.later hb
    clear hb hz2 HZ2
    rcases hcase with ⟨h0, rfl⟩ | ⟨h0, rfl⟩
    · have H0 : Hid (z2 = 0) := h0
      clear h0
      obtain ⟨hlen, hone, hi⟩ := by_cells (bz_by 0 (by decide) (by decide))
      obtain ⟨ct, HCct⟩ : ∃ c, Hid (c = (List.map (Value.int .u8) (bz 0))) := ⟨_, rfl⟩
      rw [← HCct.out] at hlen hone hi ⊢
      have hth := there_new V4 32 #[.int .u8 0, .int .u8 0, .int .u8 0, .int .u8 0, .int .u8 0, .int .u8 0, .int .u8 0, .int .u8 0, .int .u8 0, .int .u8 0, .int .u8 0, .int .u8 0, .int .u8 0, .int .u8 0, .int .u8 0, .int .u8 0, .int .u8 0, .int .u8 0, .int .u8 0, .int .u8 0, .int .u8 0, .int .u8 0, .int .u8 0, .int .u8 0, .int .u8 0, .int .u8 0, .int .u8 0, .int .u8 0, .int .u8 0, .int .u8 0, .int .u8 0, .int .u8 0] rfl 22
      go_upto_region 16 with (refine wpList_store_mid rfl 22 (.tmp 9) (.tmp 51) rfl (V4.heap.size) 0 ct.toArray rfl rfl (by simpa [hlen] using hth) (by simpa using hi) (all_oneCell_toArray hone) ?_)
      clear hth
      obtain ⟨W5, hW5⟩ : ∃ W, W = (V4.alloc (.cells #[.int .u8 0, .int .u8 0, .int .u8 0, .int .u8 0, .int .u8 0, .int .u8 0, .int .u8 0, .int .u8 0, .int .u8 0, .int .u8 0, .int .u8 0, .int .u8 0, .int .u8 0, .int .u8 0, .int .u8 0, .int .u8 0, .int .u8 0, .int .u8 0, .int .u8 0, .int .u8 0, .int .u8 0, .int .u8 0, .int .u8 0, .int .u8 0, .int .u8 0, .int .u8 0, .int .u8 0, .int .u8 0, .int .u8 0, .int .u8 0, .int .u8 0, .int .u8 0] 22)).setCells V4.heap.size 0 ct := ⟨_, rfl⟩
      obtain ⟨b9, hb9⟩ : ∃ b, b = V4.heap.size := ⟨_, rfl⟩
      rw [← hW5, ← hb9]
      have A9 : Hid (Arr W5 b9 (List.map (Value.int .u8) (bz 0))) := by unfold Hid; rw [hW5, hb9, ← HCct.out]; exact arr_new V4 _ rfl _ hlen
      have hbl : Below V4.heap.size V4 W5 := by rw [hW5]; exact bel_new _ _ _
      replace HM : Hid (Mk w q1 k' l' W5) := HM.out.later hbl
      replace HG : Hid (Gp W5) := HG.out.later hbl
      replace A8 : Hid (Arr W5 b8 (List.map (Value.int .u8) (lay 32 z2))) := A8.out.later hbl
      clear hbl hW5 hb9 hlen hone hi HCct
      obtain ⟨_, _, hi8⟩ := by_cells (lay_by z2)
      have heq : ∀ u, Sem.run Tryd.prog (binOp .eql 22 (.agg (List.map (Value.int .u8) (lay 32 z2)).toArray) (.agg #[.int .u8 0, .int .u8 0, .int .u8 0, .int .u8 0, .int .u8 0, .int .u8 0, .int .u8 0, .int .u8 0, .int .u8 0, .int .u8 0, .int .u8 0, .int .u8 0, .int .u8 0, .int .u8 0, .int .u8 0, .int .u8 0, .int .u8 0, .int .u8 0, .int .u8 0, .int .u8 0, .int .u8 0, .int .u8 0, .int .u8 0, .int .u8 0, .int .u8 0, .int .u8 0, .int .u8 0, .int .u8 0, .int .u8 0, .int .u8 0, .int .u8 0, .int .u8 0])) u = .ok (.bool true) u := fun u => by
        rw [zs_eq, eql_arr _ _ (lay_by z2) (lay_by 0)]
        have hd : alike (lay 32 z2) (lay 32 0) = true := by
          unfold alike
          rw [H0.out]; simp
        rw [hd]
      go_upto_region 17 with (refine wpList_load_mid rfl 22 (.tmp 8) rfl b8 0 rfl (List.map (Value.int .u8) (lay 32 z2)) _ A8.out.rng Tryd.underlying22 rfl hi8 ?_)
      clear heq
      refine wp_region_noPanic ?_
      refine wp_region_held_drew (S := Ext W5) (by kernel_rfl) (Ext.refl _).drew (fun hH => ?_)
      change wpAnyH _ _ _ _ _ _ #[false, false, false, false, false, false, false, false, false, false, false, false, false, false, false, false, false, false, false, false, false, false, false, false, false, false, false, false, false, false, false, false, false, false, false, false, false] _ _
      refine wpAnyH_ready (rs := [0]) (by kernel_rfl) (by simp) ?_
      refine AllReadyH.cons (o := ?o0xa) ?h0xa (fun K hK => ?_) AllReadyH.nil
      case h0xa => simp only [List.getElem?_toArray]; rfl
      go_simp
      refine (known3_any _).mono ?_
      rintro e V6 ⟨rfl, hb⟩
      refine hK.out _ _ (hH.trans hb) (fun hH' => ?_)
      clear hK K hH
      have hH := hH'
      clear hH'
      try simp only [List.setIfInBounds_toArray, List.set]
      clear hb
      refine wpAnyH_take (i := 1) (oi := ?o1xa) (v := ?v1xa) ?h1xa (by kernel_rfl) ?f1xa ?r1xa (fun _ _ _ h => h) (Or.inl ⟨?w1xa, ?y1xa⟩) (by assumption) ?t1xa
      case h1xa => simp only [List.getElem?_toArray]; rfl
      case f1xa => kernel_rfl
      case r1xa => kernel_rfl
      case w1xa => rfl
      case y1xa => (intro u hu; (go_simp) <;> with_reducible rfl)
      try simp only [Act.put, List.setIfInBounds_toArray, List.set_cons_zero, List.set_cons_succ]
      refine wpAnyH_take (i := 2) (oi := ?o2xa) (v := .agg (List.map (Value.int .u8) (lay 32 z2)).toArray) ?h2xa (by kernel_rfl) ?f2xa ?r2xa (fun _ _ _ h => h) ?y2xa (by assumption) ?t2xa
      case h2xa => simp only [List.getElem?_toArray]; rfl
      case f2xa => kernel_rfl
      case r2xa => kernel_rfl
      case y2xa => exact yieldsIf_load_mid (by rfl) 22 (.tmp 8) rfl b8 0 rfl (List.map (Value.int .u8) (lay 32 z2)) _ (fun u hu => range_later hu A8.out.rng) Tryd.underlying22 rfl hi8
      try simp only [Act.put, List.setIfInBounds_toArray, List.set_cons_zero, List.set_cons_succ]
      refine wpAnyH_take (i := 3) (oi := ?o3xa) (v := .agg (List.map (Value.int .u8) k').toArray) ?h3xa (by kernel_rfl) ?f3xa ?r3xa (fun _ _ _ h => h) ?y3xa (by assumption) ?t3xa
      case h3xa => simp only [List.getElem?_toArray]; rfl
      case f3xa => kernel_rfl
      case r3xa => kernel_rfl
      case y3xa => exact yieldsIf_load_mid (by rfl) 22 (.tmp 3) rfl w.heap.size 0 rfl (List.map (Value.int .u8) k') _ (fun u hu => range_later hu HM.out.ak.rng) Tryd.underlying22 rfl hiK
      try simp only [Act.put, List.setIfInBounds_toArray, List.set_cons_zero, List.set_cons_succ]
      refine wpAnyH_take (i := 4) (oi := ?o4xa) (v := .agg (List.map (Value.int .u8) l').toArray) ?h4xa (by kernel_rfl) ?f4xa ?r4xa (fun _ _ _ h => h) ?y4xa (by assumption) ?t4xa
      case h4xa => simp only [List.getElem?_toArray]; rfl
      case f4xa => kernel_rfl
      case r4xa => kernel_rfl
      case y4xa => exact yieldsIf_load_mid (by rfl) 22 (.tmp 4) rfl q1 0 rfl (List.map (Value.int .u8) l') _ (fun u hu => range_later hu HM.out.al.rng) Tryd.underlying22 rfl hiL
      try simp only [Act.put, List.setIfInBounds_toArray, List.set_cons_zero, List.set_cons_succ]
      refine wpAnyH_ready (rs := [5]) (by kernel_rfl) (by simp) ?_
      refine AllReadyH.cons (o := ?o5xa) ?h5xa (fun K hK => ?_) AllReadyH.nil
      case h5xa => simp only [List.getElem?_toArray]; rfl
      go_simp
      refine (rx_l k' l' HK.out HL.out _ (HG.out.later hH)).mono ?_
      rintro e V7 ⟨z3, rfl, -, HZ3, hb⟩
      refine hK.out _ _ (hH.trans hb) (fun hH' => ?_)
      clear hK K hH
      have hH := hH'
      clear hH'
      try simp only [List.setIfInBounds_toArray, List.set]
      have ez3 : z3 = z2 := HZ3.out.trans HZ.out.symm
      subst ez3
      clear HZ3 hb
      have heq : ∀ u, Sem.run Tryd.prog (binOp .eql 22 (.agg (List.map (Value.int .u8) (lay 32 z3)).toArray) (.agg (List.map (Value.int .u8) (lay 32 z3)).toArray)) u = .ok (.bool true) u := fun u => eql_same _ _ (lay_by _) (lay_by _) rfl u
      refine wpAnyH_take (i := 6) (oi := ?o6xa) (v := ?v6xa) ?h6xa (by kernel_rfl) ?f6xa ?r6xa (fun _ _ _ h => h) (Or.inl ⟨?w6xa, ?y6xa⟩) (by assumption) ?t6xa
      case h6xa => simp only [List.getElem?_toArray]; rfl
      case f6xa => kernel_rfl
      case r6xa => kernel_rfl
      case w6xa => rfl
      case y6xa => (intro u hu; (go_simp) <;> with_reducible rfl)
      try simp only [Act.put, List.setIfInBounds_toArray, List.set_cons_zero, List.set_cons_succ]
      clear heq
      refine wpAnyH_take (i := 7) (oi := ?o7xa) (v := ?v7xa) ?h7xa (by kernel_rfl) ?f7xa ?r7xa (fun _ _ _ h => h) (Or.inl ⟨?w7xa, ?y7xa⟩) (by assumption) ?t7xa
      case h7xa => simp only [List.getElem?_toArray]; rfl
      case f7xa => kernel_rfl
      case r7xa => kernel_rfl
      case w7xa => rfl
      case y7xa => (intro u hu; (go_simp) <;> with_reducible rfl)
      try simp only [Act.put, List.setIfInBounds_toArray, List.set_cons_zero, List.set_cons_succ]
      refine wpAnyH_take (i := 8) (oi := ?o8xa) (v := ?v8xa) ?h8xa (by kernel_rfl) ?f8xa ?r8xa (fun _ _ _ h => h) (Or.inl ⟨?w8xa, ?y8xa⟩) (by assumption) ?t8xa
      case h8xa => simp only [List.getElem?_toArray]; rfl
      case f8xa => kernel_rfl
      case r8xa => kernel_rfl
      case w8xa => rfl
      case y8xa => (intro u hu; (go_simp) <;> with_reducible rfl)
      try simp only [Act.put, List.setIfInBounds_toArray, List.set_cons_zero, List.set_cons_succ]
      refine wpAnyH_take (i := 9) (oi := ?o9xa) (v := .agg (List.map (Value.int .u8) k').toArray) ?h9xa (by kernel_rfl) ?f9xa ?r9xa (fun _ _ _ h => h) ?y9xa (by assumption) ?t9xa
      case h9xa => simp only [List.getElem?_toArray]; rfl
      case f9xa => kernel_rfl
      case r9xa => kernel_rfl
      case y9xa => exact yieldsIf_load_mid (by rfl) 22 (.tmp 3) rfl w.heap.size 0 rfl (List.map (Value.int .u8) k') _ (fun u hu => range_later hu HM.out.ak.rng) Tryd.underlying22 rfl hiK
      try simp only [Act.put, List.setIfInBounds_toArray, List.set_cons_zero, List.set_cons_succ]
      refine wpAnyH_take (i := 11) (oi := ?o11xa) (v := .agg (List.map (Value.int .u8) k').toArray) ?h11xa (by kernel_rfl) ?f11xa ?r11xa (fun _ _ _ h => h) ?y11xa (by assumption) ?t11xa
      case h11xa => simp only [List.getElem?_toArray]; rfl
      case f11xa => kernel_rfl
      case r11xa => kernel_rfl
      case y11xa => exact yieldsIf_load_mid (by rfl) 22 (.tmp 3) rfl w.heap.size 0 rfl (List.map (Value.int .u8) k') _ (fun u hu => range_later hu HM.out.ak.rng) Tryd.underlying22 rfl hiK
      try simp only [Act.put, List.setIfInBounds_toArray, List.set_cons_zero, List.set_cons_succ]
      refine wpAnyH_ready (rs := [10]) (by kernel_rfl) (by simp) ?_
      refine AllReadyH.cons (o := ?o10xa) ?h10xa (fun K hK => ?_) AllReadyH.nil
      case h10xa => simp only [List.getElem?_toArray]; rfl
      go_simp
      refine (clamp_c k' HK.out _).mono ?_
      rintro e V8 ⟨rfl, hb⟩
      refine hK.out _ _ (hH.trans hb) (fun hH' => ?_)
      clear hK K hH
      have hH := hH'
      clear hH'
      try simp only [List.setIfInBounds_toArray, List.set]
      clear hb
      refine wpAnyH_ready (rs := [12]) (by kernel_rfl) (by simp) ?_
      refine AllReadyH.cons (o := ?o12xa) ?h12xa (fun K hK => ?_) AllReadyH.nil
      case h12xa => simp only [List.getElem?_toArray]; rfl
      go_simp
      refine (rclamp_c k' HK.out _).mono ?_
      rintro e V9 ⟨rfl, hb⟩
      refine hK.out _ _ (hH.trans hb) (fun hH' => ?_)
      clear hK K hH
      have hH := hH'
      clear hH'
      try simp only [List.setIfInBounds_toArray, List.set]
      clear hb
      have heq : ∀ u, Sem.run Tryd.prog (binOp .eql 22 (.agg (List.map (Value.int .u8) (cl k')).toArray) (.agg (List.map (Value.int .u8) (cl k')).toArray)) u = .ok (.bool true) u := fun u => eql_same _ _ (cl_by HK.out) (cl_by HK.out) rfl u
      refine wpAnyH_take (i := 13) (oi := ?o13xa) (v := ?v13xa) ?h13xa (by kernel_rfl) ?f13xa ?r13xa (fun _ _ _ h => h) (Or.inl ⟨?w13xa, ?y13xa⟩) (by assumption) ?t13xa
      case h13xa => simp only [List.getElem?_toArray]; rfl
      case f13xa => kernel_rfl
      case r13xa => kernel_rfl
      case w13xa => rfl
      case y13xa => (intro u hu; (go_simp) <;> with_reducible rfl)
      try simp only [Act.put, List.setIfInBounds_toArray, List.set_cons_zero, List.set_cons_succ]
      clear heq
      refine wpAnyH_take (i := 14) (oi := ?o14xa) (v := ?v14xa) ?h14xa (by kernel_rfl) ?f14xa ?r14xa (fun _ _ _ h => h) (Or.inl ⟨?w14xa, ?y14xa⟩) (by assumption) ?t14xa
      case h14xa => simp only [List.getElem?_toArray]; rfl
      case f14xa => kernel_rfl
      case r14xa => kernel_rfl
      case w14xa => rfl
      case y14xa => (intro u hu; (go_simp) <;> with_reducible rfl)
      try simp only [Act.put, List.setIfInBounds_toArray, List.set_cons_zero, List.set_cons_succ]
      refine wpAnyH_take (i := 15) (oi := ?o15xa) (v := ?v15xa) ?h15xa (by kernel_rfl) ?f15xa ?r15xa (fun _ _ _ h => h) (Or.inl ⟨?w15xa, ?y15xa⟩) (by assumption) ?t15xa
      case h15xa => simp only [List.getElem?_toArray]; rfl
      case f15xa => kernel_rfl
      case r15xa => kernel_rfl
      case w15xa => rfl
      case y15xa => (intro u hu; (go_simp) <;> with_reducible rfl)
      try simp only [Act.put, List.setIfInBounds_toArray, List.set_cons_zero, List.set_cons_succ]
      refine wpAnyH_take (i := 16) (oi := ?o16xa) (v := ?v16xa) ?h16xa (by kernel_rfl) ?f16xa ?r16xa (fun _ _ _ h => h) (Or.inl ⟨?w16xa, ?y16xa⟩) (by assumption) ?t16xa
      case h16xa => simp only [List.getElem?_toArray]; rfl
      case f16xa => kernel_rfl
      case r16xa => kernel_rfl
      case w16xa => rfl
      case y16xa => (intro u hu; (go_simp) <;> with_reducible rfl)
      try simp only [Act.put, List.setIfInBounds_toArray, List.set_cons_zero, List.set_cons_succ]
      refine wpAnyH_take (i := 17) (oi := ?o17xa) (v := ?v17xa) ?h17xa (by kernel_rfl) ?f17xa ?r17xa (fun _ _ _ h => h) (Or.inl ⟨?w17xa, ?y17xa⟩) (by assumption) ?t17xa
      case h17xa => simp only [List.getElem?_toArray]; rfl
      case f17xa => kernel_rfl
      case r17xa => kernel_rfl
      case w17xa => rfl
      case y17xa => (intro u hu; (go_simp) <;> with_reducible rfl)
      try simp only [Act.put, List.setIfInBounds_toArray, List.set_cons_zero, List.set_cons_succ]
      refine wpAnyH_take (i := 18) (oi := ?o18xa) (v := ?v18xa) ?h18xa (by kernel_rfl) ?f18xa ?r18xa (fun _ _ _ h => h) (Or.inl ⟨?w18xa, ?y18xa⟩) (by assumption) ?t18xa
      case h18xa => simp only [List.getElem?_toArray]; rfl
      case f18xa => kernel_rfl
      case r18xa => kernel_rfl
      case w18xa => rfl
      case y18xa => (intro u hu; (go_simp) <;> with_reducible rfl)
      try simp only [Act.put, List.setIfInBounds_toArray, List.set_cons_zero, List.set_cons_succ]
      refine wpAnyH_take (i := 19) (oi := ?o19xa) (v := ?v19xa) ?h19xa (by kernel_rfl) ?f19xa ?r19xa (fun _ _ _ h => h) (Or.inl ⟨?w19xa, ?y19xa⟩) (by assumption) ?t19xa
      case h19xa => simp only [List.getElem?_toArray]; rfl
      case f19xa => kernel_rfl
      case r19xa => kernel_rfl
      case w19xa => rfl
      case y19xa => (intro u hu; (go_simp) <;> with_reducible rfl)
      try simp only [Act.put, List.setIfInBounds_toArray, List.set_cons_zero, List.set_cons_succ]
      refine wpAnyH_take (i := 20) (oi := ?o20xa) (v := ?v20xa) ?h20xa (by kernel_rfl) ?f20xa ?r20xa (fun _ _ _ h => h) (Or.inl ⟨?w20xa, ?y20xa⟩) (by assumption) ?t20xa
      case h20xa => simp only [List.getElem?_toArray]; rfl
      case f20xa => kernel_rfl
      case r20xa => kernel_rfl
      case w20xa => rfl
      case y20xa => (intro u hu; (go_simp) <;> with_reducible rfl)
      try simp only [Act.put, List.setIfInBounds_toArray, List.set_cons_zero, List.set_cons_succ]
      refine wpAnyH_take (i := 21) (oi := ?o21xa) (v := ?v21xa) ?h21xa (by kernel_rfl) ?f21xa ?r21xa (fun _ _ _ h => h) (Or.inl ⟨?w21xa, ?y21xa⟩) (by assumption) ?t21xa
      case h21xa => simp only [List.getElem?_toArray]; rfl
      case f21xa => kernel_rfl
      case r21xa => kernel_rfl
      case w21xa => rfl
      case y21xa => (intro u hu; (go_simp) <;> with_reducible rfl)
      try simp only [Act.put, List.setIfInBounds_toArray, List.set_cons_zero, List.set_cons_succ]
      refine wpAnyH_take (i := 22) (oi := ?o22xa) (v := ?v22xa) ?h22xa (by kernel_rfl) ?f22xa ?r22xa (fun _ _ _ h => h) (Or.inl ⟨?w22xa, ?y22xa⟩) (by assumption) ?t22xa
      case h22xa => simp only [List.getElem?_toArray]; rfl
      case f22xa => kernel_rfl
      case r22xa => kernel_rfl
      case w22xa => rfl
      case y22xa => (intro u hu; (go_simp) <;> with_reducible rfl)
      try simp only [Act.put, List.setIfInBounds_toArray, List.set_cons_zero, List.set_cons_succ]
      refine wpAnyH_take (i := 23) (oi := ?o23xa) (v := ?v23xa) ?h23xa (by kernel_rfl) ?f23xa ?r23xa (fun _ _ _ h => h) (Or.inl ⟨?w23xa, ?y23xa⟩) (by assumption) ?t23xa
      case h23xa => simp only [List.getElem?_toArray]; rfl
      case f23xa => kernel_rfl
      case r23xa => kernel_rfl
      case w23xa => rfl
      case y23xa => (intro u hu; (go_simp) <;> with_reducible rfl)
      try simp only [Act.put, List.setIfInBounds_toArray, List.set_cons_zero, List.set_cons_succ]
      refine wpAnyH_take (i := 24) (oi := ?o24xa) (v := undef) ?h24xa (by kernel_rfl) ?f24xa ?r24xa (fun _ _ _ h => h) (Or.inr ⟨?w24xa, rfl⟩) (by assumption) ?t24xa
      case h24xa => simp only [List.getElem?_toArray]; rfl
      case f24xa => kernel_rfl
      case r24xa => kernel_rfl
      case w24xa => rfl
      try simp only [Act.put, List.setIfInBounds_toArray, List.set_cons_zero, List.set_cons_succ]
      refine wpAnyH_take (i := 25) (oi := ?o25xa) (v := undef) ?h25xa (by kernel_rfl) ?f25xa ?r25xa (fun _ _ _ h => h) (Or.inr ⟨?w25xa, rfl⟩) (by assumption) ?t25xa
      case h25xa => simp only [List.getElem?_toArray]; rfl
      case f25xa => kernel_rfl
      case r25xa => kernel_rfl
      case w25xa => rfl
      try simp only [Act.put, List.setIfInBounds_toArray, List.set_cons_zero, List.set_cons_succ]
      refine wpAnyH_take (i := 26) (oi := ?o26xa) (v := ?v26xa) ?h26xa (by kernel_rfl) ?f26xa ?r26xa (fun _ _ _ h => h) (Or.inl ⟨?w26xa, ?y26xa⟩) (by assumption) ?t26xa
      case h26xa => simp only [List.getElem?_toArray]; rfl
      case f26xa => kernel_rfl
      case r26xa => kernel_rfl
      case w26xa => rfl
      case y26xa => (intro u hu; (go_simp) <;> with_reducible rfl)
      try simp only [Act.put, List.setIfInBounds_toArray, List.set_cons_zero, List.set_cons_succ]
      refine wpAnyH_take (i := 27) (oi := ?o27xa) (v := ?v27xa) ?h27xa (by kernel_rfl) ?f27xa ?r27xa (fun _ _ _ h => h) (Or.inl ⟨?w27xa, ?y27xa⟩) (by assumption) ?t27xa
      case h27xa => simp only [List.getElem?_toArray]; rfl
      case f27xa => kernel_rfl
      case r27xa => kernel_rfl
      case w27xa => rfl
      case y27xa => (intro u hu; (go_simp) <;> with_reducible rfl)
      try simp only [Act.put, List.setIfInBounds_toArray, List.set_cons_zero, List.set_cons_succ]
      refine wpAnyH_take (i := 28) (oi := ?o28xa) (v := ?v28xa) ?h28xa (by kernel_rfl) ?f28xa ?r28xa (fun _ _ _ h => h) (Or.inl ⟨?w28xa, ?y28xa⟩) (by assumption) ?t28xa
      case h28xa => simp only [List.getElem?_toArray]; rfl
      case f28xa => kernel_rfl
      case r28xa => kernel_rfl
      case w28xa => rfl
      case y28xa => (intro u hu; (go_simp) <;> with_reducible rfl)
      try simp only [Act.put, List.setIfInBounds_toArray, List.set_cons_zero, List.set_cons_succ]
      refine wpAnyH_take (i := 29) (oi := ?o29xa) (v := ?v29xa) ?h29xa (by kernel_rfl) ?f29xa ?r29xa (fun _ _ _ h => h) (Or.inl ⟨?w29xa, ?y29xa⟩) (by assumption) ?t29xa
      case h29xa => simp only [List.getElem?_toArray]; rfl
      case f29xa => kernel_rfl
      case r29xa => kernel_rfl
      case w29xa => rfl
      case y29xa => (intro u hu; (go_simp) <;> with_reducible rfl)
      try simp only [Act.put, List.setIfInBounds_toArray, List.set_cons_zero, List.set_cons_succ]
      refine wpAnyH_take (i := 30) (oi := ?o30xa) (v := ?v30xa) ?h30xa (by kernel_rfl) ?f30xa ?r30xa (fun _ _ _ h => h) (Or.inl ⟨?w30xa, ?y30xa⟩) (by assumption) ?t30xa
      case h30xa => simp only [List.getElem?_toArray]; rfl
      case f30xa => kernel_rfl
      case r30xa => kernel_rfl
      case w30xa => rfl
      case y30xa => (intro u hu; (go_simp) <;> with_reducible rfl)
      try simp only [Act.put, List.setIfInBounds_toArray, List.set_cons_zero, List.set_cons_succ]
      refine wpAnyH_take (i := 31) (oi := ?o31xa) (v := undef) ?h31xa (by kernel_rfl) ?f31xa ?r31xa (fun _ _ _ h => h) (Or.inr ⟨?w31xa, rfl⟩) (by assumption) ?t31xa
      case h31xa => simp only [List.getElem?_toArray]; rfl
      case f31xa => kernel_rfl
      case r31xa => kernel_rfl
      case w31xa => rfl
      try simp only [Act.put, List.setIfInBounds_toArray, List.set_cons_zero, List.set_cons_succ]
      refine wpAnyH_take (i := 32) (oi := ?o32xa) (v := undef) ?h32xa (by kernel_rfl) ?f32xa ?r32xa (fun _ _ _ h => h) (Or.inr ⟨?w32xa, rfl⟩) (by assumption) ?t32xa
      case h32xa => simp only [List.getElem?_toArray]; rfl
      case f32xa => kernel_rfl
      case r32xa => kernel_rfl
      case w32xa => rfl
      try simp only [Act.put, List.setIfInBounds_toArray, List.set_cons_zero, List.set_cons_succ]
      refine wpAnyH_take (i := 33) (oi := ?o33xa) (v := undef) ?h33xa (by kernel_rfl) ?f33xa ?r33xa (fun _ _ _ h => h) (Or.inr ⟨?w33xa, rfl⟩) (by assumption) ?t33xa
      case h33xa => simp only [List.getElem?_toArray]; rfl
      case f33xa => kernel_rfl
      case r33xa => kernel_rfl
      case w33xa => rfl
      try simp only [Act.put, List.setIfInBounds_toArray, List.set_cons_zero, List.set_cons_succ]
      refine wpAnyH_take (i := 34) (oi := ?o34xa) (v := ?v34xa) ?h34xa (by kernel_rfl) ?f34xa ?r34xa (fun _ _ _ h => h) (Or.inl ⟨?w34xa, ?y34xa⟩) (by assumption) ?t34xa
      case h34xa => simp only [List.getElem?_toArray]; rfl
      case f34xa => kernel_rfl
      case r34xa => kernel_rfl
      case w34xa => rfl
      case y34xa => (intro u hu; (go_simp) <;> with_reducible rfl)
      try simp only [Act.put, List.setIfInBounds_toArray, List.set_cons_zero, List.set_cons_succ]
      refine wpAnyH_take (i := 35) (oi := ?o35xa) (v := ?v35xa) ?h35xa (by kernel_rfl) ?f35xa ?r35xa (fun _ _ _ h => h) (Or.inl ⟨?w35xa, ?y35xa⟩) (by assumption) ?t35xa
      case h35xa => simp only [List.getElem?_toArray]; rfl
      case f35xa => kernel_rfl
      case r35xa => kernel_rfl
      case w35xa => rfl
      case y35xa => (intro u hu; (go_simp) <;> with_reducible rfl)
      try simp only [Act.put, List.setIfInBounds_toArray, List.set_cons_zero, List.set_cons_succ]
      refine wpAnyH_take (i := 36) (oi := ?o36xa) (v := ?v36xa) ?h36xa (by kernel_rfl) ?f36xa ?r36xa (fun _ _ _ h => h) (Or.inl ⟨?w36xa, ?y36xa⟩) (by assumption) ?t36xa
      case h36xa => simp only [List.getElem?_toArray]; rfl
      case f36xa => kernel_rfl
      case r36xa => kernel_rfl
      case w36xa => rfl
      case y36xa => (intro u hu; (go_simp) <;> with_reducible rfl)
      try simp only [Act.put, List.setIfInBounds_toArray, List.set_cons_zero, List.set_cons_succ]
      refine wpAnyH_done (by kernel_rfl) ?_ _
      refine NoPanic.normal ?_
      have HB := HM.out.bel.trans (Below.mono hH HM.out.bel.size)
      clear hH
      go_wp2
      go_ret
      exact ⟨rfl, HB⟩
    · have H0 : Hid (z2 ≠ 0) := h0
      clear h0
      obtain ⟨hlen, hone, hi⟩ := by_cells (lay_by z2)
      obtain ⟨ct, HCct⟩ : ∃ c, Hid (c = (List.map (Value.int .u8) (lay 32 z2))) := ⟨_, rfl⟩
      rw [← HCct.out] at hlen hone hi ⊢
      have hth := there_new V4 32 #[.int .u8 0, .int .u8 0, .int .u8 0, .int .u8 0, .int .u8 0, .int .u8 0, .int .u8 0, .int .u8 0, .int .u8 0, .int .u8 0, .int .u8 0, .int .u8 0, .int .u8 0, .int .u8 0, .int .u8 0, .int .u8 0, .int .u8 0, .int .u8 0, .int .u8 0, .int .u8 0, .int .u8 0, .int .u8 0, .int .u8 0, .int .u8 0, .int .u8 0, .int .u8 0, .int .u8 0, .int .u8 0, .int .u8 0, .int .u8 0, .int .u8 0, .int .u8 0] rfl 22
      go_upto_region 16 with (refine wpList_store_mid rfl 22 (.tmp 9) (.tmp 51) rfl (V4.heap.size) 0 ct.toArray rfl rfl (by simpa [hlen] using hth) (by simpa using hi) (all_oneCell_toArray hone) ?_)
      clear hth
      obtain ⟨W5, hW5⟩ : ∃ W, W = (V4.alloc (.cells #[.int .u8 0, .int .u8 0, .int .u8 0, .int .u8 0, .int .u8 0, .int .u8 0, .int .u8 0, .int .u8 0, .int .u8 0, .int .u8 0, .int .u8 0, .int .u8 0, .int .u8 0, .int .u8 0, .int .u8 0, .int .u8 0, .int .u8 0, .int .u8 0, .int .u8 0, .int .u8 0, .int .u8 0, .int .u8 0, .int .u8 0, .int .u8 0, .int .u8 0, .int .u8 0, .int .u8 0, .int .u8 0, .int .u8 0, .int .u8 0, .int .u8 0, .int .u8 0] 22)).setCells V4.heap.size 0 ct := ⟨_, rfl⟩
      obtain ⟨b9, hb9⟩ : ∃ b, b = V4.heap.size := ⟨_, rfl⟩
      rw [← hW5, ← hb9]
      have A9 : Hid (Arr W5 b9 (List.map (Value.int .u8) (lay 32 z2))) := by unfold Hid; rw [hW5, hb9, ← HCct.out]; exact arr_new V4 _ rfl _ hlen
      have hbl : Below V4.heap.size V4 W5 := by rw [hW5]; exact bel_new _ _ _
      replace HM : Hid (Mk w q1 k' l' W5) := HM.out.later hbl
      replace HG : Hid (Gp W5) := HG.out.later hbl
      replace A8 : Hid (Arr W5 b8 (List.map (Value.int .u8) (lay 32 z2))) := A8.out.later hbl
      clear hbl hW5 hb9 hlen hone hi HCct
      obtain ⟨_, _, hi8⟩ := by_cells (lay_by z2)
      have heq : ∀ u, Sem.run Tryd.prog (binOp .eql 22 (.agg (List.map (Value.int .u8) (lay 32 z2)).toArray) (.agg #[.int .u8 0, .int .u8 0, .int .u8 0, .int .u8 0, .int .u8 0, .int .u8 0, .int .u8 0, .int .u8 0, .int .u8 0, .int .u8 0, .int .u8 0, .int .u8 0, .int .u8 0, .int .u8 0, .int .u8 0, .int .u8 0, .int .u8 0, .int .u8 0, .int .u8 0, .int .u8 0, .int .u8 0, .int .u8 0, .int .u8 0, .int .u8 0, .int .u8 0, .int .u8 0, .int .u8 0, .int .u8 0, .int .u8 0, .int .u8 0, .int .u8 0, .int .u8 0])) u = .ok (.bool false) u := fun u => by
        rw [zs_eq, eql_arr _ _ (lay_by z2) (lay_by 0)]
        have hd : alike (lay 32 z2) (lay 32 0) = false := by
          unfold alike
          exact decide_eq_false (lay_ne HEz.out H0.out)
        rw [hd]
      go_upto_region 17 with (refine wpList_load_mid rfl 22 (.tmp 8) rfl b8 0 rfl (List.map (Value.int .u8) (lay 32 z2)) _ A8.out.rng Tryd.underlying22 rfl hi8 ?_)
      clear heq
      refine wp_region_noPanic ?_
      refine wp_region_held_drew (S := Ext W5) (by kernel_rfl) (Ext.refl _).drew (fun hH => ?_)
      change wpAnyH _ _ _ _ _ _ #[false, false, false, false, false, false, false, false, false, false, false, false, false, false, false, false, false, false, false, false, false, false, false, false, false, false, false, false, false, false, false, false, false, false, false, false, false] _ _
      refine wpAnyH_ready (rs := [0]) (by kernel_rfl) (by simp) ?_
      refine AllReadyH.cons (o := ?o0xb) ?h0xb (fun K hK => ?_) AllReadyH.nil
      case h0xb => simp only [List.getElem?_toArray]; rfl
      go_simp
      refine (known3_any _).mono ?_
      rintro e V6 ⟨rfl, hb⟩
      refine hK.out _ _ (hH.trans hb) (fun hH' => ?_)
      clear hK K hH
      have hH := hH'
      clear hH'
      try simp only [List.setIfInBounds_toArray, List.set]
      clear hb
      refine wpAnyH_take (i := 1) (oi := ?o1xb) (v := ?v1xb) ?h1xb (by kernel_rfl) ?f1xb ?r1xb (fun _ _ _ h => h) (Or.inl ⟨?w1xb, ?y1xb⟩) (by assumption) ?t1xb
      case h1xb => simp only [List.getElem?_toArray]; rfl
      case f1xb => kernel_rfl
      case r1xb => kernel_rfl
      case w1xb => rfl
      case y1xb => (intro u hu; (go_simp) <;> with_reducible rfl)
      try simp only [Act.put, List.setIfInBounds_toArray, List.set_cons_zero, List.set_cons_succ]
      refine wpAnyH_take (i := 2) (oi := ?o2xb) (v := .agg (List.map (Value.int .u8) (lay 32 z2)).toArray) ?h2xb (by kernel_rfl) ?f2xb ?r2xb (fun _ _ _ h => h) ?y2xb (by assumption) ?t2xb
      case h2xb => simp only [List.getElem?_toArray]; rfl
      case f2xb => kernel_rfl
      case r2xb => kernel_rfl
      case y2xb => exact yieldsIf_load_mid (by rfl) 22 (.tmp 8) rfl b8 0 rfl (List.map (Value.int .u8) (lay 32 z2)) _ (fun u hu => range_later hu A8.out.rng) Tryd.underlying22 rfl hi8
      try simp only [Act.put, List.setIfInBounds_toArray, List.set_cons_zero, List.set_cons_succ]
      refine wpAnyH_take (i := 3) (oi := ?o3xb) (v := .agg (List.map (Value.int .u8) k').toArray) ?h3xb (by kernel_rfl) ?f3xb ?r3xb (fun _ _ _ h => h) ?y3xb (by assumption) ?t3xb
      case h3xb => simp only [List.getElem?_toArray]; rfl
      case f3xb => kernel_rfl
      case r3xb => kernel_rfl
      case y3xb => exact yieldsIf_load_mid (by rfl) 22 (.tmp 3) rfl w.heap.size 0 rfl (List.map (Value.int .u8) k') _ (fun u hu => range_later hu HM.out.ak.rng) Tryd.underlying22 rfl hiK
      try simp only [Act.put, List.setIfInBounds_toArray, List.set_cons_zero, List.set_cons_succ]
      refine wpAnyH_take (i := 4) (oi := ?o4xb) (v := .agg (List.map (Value.int .u8) l').toArray) ?h4xb (by kernel_rfl) ?f4xb ?r4xb (fun _ _ _ h => h) ?y4xb (by assumption) ?t4xb
      case h4xb => simp only [List.getElem?_toArray]; rfl
      case f4xb => kernel_rfl
      case r4xb => kernel_rfl
      case y4xb => exact yieldsIf_load_mid (by rfl) 22 (.tmp 4) rfl q1 0 rfl (List.map (Value.int .u8) l') _ (fun u hu => range_later hu HM.out.al.rng) Tryd.underlying22 rfl hiL
      try simp only [Act.put, List.setIfInBounds_toArray, List.set_cons_zero, List.set_cons_succ]
      refine wpAnyH_ready (rs := [5]) (by kernel_rfl) (by simp) ?_
      refine AllReadyH.cons (o := ?o5xb) ?h5xb (fun K hK => ?_) AllReadyH.nil
      case h5xb => simp only [List.getElem?_toArray]; rfl
      go_simp
      refine (rx_l k' l' HK.out HL.out _ (HG.out.later hH)).mono ?_
      rintro e V7 ⟨z3, rfl, -, HZ3, hb⟩
      refine hK.out _ _ (hH.trans hb) (fun hH' => ?_)
      clear hK K hH
      have hH := hH'
      clear hH'
      try simp only [List.setIfInBounds_toArray, List.set]
      have ez3 : z3 = z2 := HZ3.out.trans HZ.out.symm
      subst ez3
      clear HZ3 hb
      have heq : ∀ u, Sem.run Tryd.prog (binOp .eql 22 (.agg (List.map (Value.int .u8) (lay 32 z3)).toArray) (.agg (List.map (Value.int .u8) (lay 32 z3)).toArray)) u = .ok (.bool true) u := fun u => eql_same _ _ (lay_by _) (lay_by _) rfl u
      refine wpAnyH_take (i := 6) (oi := ?o6xb) (v := ?v6xb) ?h6xb (by kernel_rfl) ?f6xb ?r6xb (fun _ _ _ h => h) (Or.inl ⟨?w6xb, ?y6xb⟩) (by assumption) ?t6xb
      case h6xb => simp only [List.getElem?_toArray]; rfl
      case f6xb => kernel_rfl
      case r6xb => kernel_rfl
      case w6xb => rfl
      case y6xb => (intro u hu; (go_simp) <;> with_reducible rfl)
      try simp only [Act.put, List.setIfInBounds_toArray, List.set_cons_zero, List.set_cons_succ]
      clear heq
      refine wpAnyH_take (i := 7) (oi := ?o7xb) (v := ?v7xb) ?h7xb (by kernel_rfl) ?f7xb ?r7xb (fun _ _ _ h => h) (Or.inl ⟨?w7xb, ?y7xb⟩) (by assumption) ?t7xb
      case h7xb => simp only [List.getElem?_toArray]; rfl
      case f7xb => kernel_rfl
      case r7xb => kernel_rfl
      case w7xb => rfl
      case y7xb => (intro u hu; (go_simp) <;> with_reducible rfl)
      try simp only [Act.put, List.setIfInBounds_toArray, List.set_cons_zero, List.set_cons_succ]
      refine wpAnyH_take (i := 8) (oi := ?o8xb) (v := ?v8xb) ?h8xb (by kernel_rfl) ?f8xb ?r8xb (fun _ _ _ h => h) (Or.inl ⟨?w8xb, ?y8xb⟩) (by assumption) ?t8xb
      case h8xb => simp only [List.getElem?_toArray]; rfl
      case f8xb => kernel_rfl
      case r8xb => kernel_rfl
      case w8xb => rfl
      case y8xb => (intro u hu; (go_simp) <;> with_reducible rfl)
      try simp only [Act.put, List.setIfInBounds_toArray, List.set_cons_zero, List.set_cons_succ]
      refine wpAnyH_take (i := 9) (oi := ?o9xb) (v := .agg (List.map (Value.int .u8) k').toArray) ?h9xb (by kernel_rfl) ?f9xb ?r9xb (fun _ _ _ h => h) ?y9xb (by assumption) ?t9xb
      case h9xb => simp only [List.getElem?_toArray]; rfl
      case f9xb => kernel_rfl
      case r9xb => kernel_rfl
      case y9xb => exact yieldsIf_load_mid (by rfl) 22 (.tmp 3) rfl w.heap.size 0 rfl (List.map (Value.int .u8) k') _ (fun u hu => range_later hu HM.out.ak.rng) Tryd.underlying22 rfl hiK
      try simp only [Act.put, List.setIfInBounds_toArray, List.set_cons_zero, List.set_cons_succ]
      refine wpAnyH_take (i := 11) (oi := ?o11xb) (v := .agg (List.map (Value.int .u8) k').toArray) ?h11xb (by kernel_rfl) ?f11xb ?r11xb (fun _ _ _ h => h) ?y11xb (by assumption) ?t11xb
      case h11xb => simp only [List.getElem?_toArray]; rfl
      case f11xb => kernel_rfl
      case r11xb => kernel_rfl
      case y11xb => exact yieldsIf_load_mid (by rfl) 22 (.tmp 3) rfl w.heap.size 0 rfl (List.map (Value.int .u8) k') _ (fun u hu => range_later hu HM.out.ak.rng) Tryd.underlying22 rfl hiK
      try simp only [Act.put, List.setIfInBounds_toArray, List.set_cons_zero, List.set_cons_succ]
      refine wpAnyH_ready (rs := [10]) (by kernel_rfl) (by simp) ?_
      refine AllReadyH.cons (o := ?o10xb) ?h10xb (fun K hK => ?_) AllReadyH.nil
      case h10xb => simp only [List.getElem?_toArray]; rfl
      go_simp
      refine (clamp_c k' HK.out _).mono ?_
      rintro e V8 ⟨rfl, hb⟩
      refine hK.out _ _ (hH.trans hb) (fun hH' => ?_)
      clear hK K hH
      have hH := hH'
      clear hH'
      try simp only [List.setIfInBounds_toArray, List.set]
      clear hb
      refine wpAnyH_ready (rs := [12]) (by kernel_rfl) (by simp) ?_
      refine AllReadyH.cons (o := ?o12xb) ?h12xb (fun K hK => ?_) AllReadyH.nil
      case h12xb => simp only [List.getElem?_toArray]; rfl
      go_simp
      refine (rclamp_c k' HK.out _).mono ?_
      rintro e V9 ⟨rfl, hb⟩
      refine hK.out _ _ (hH.trans hb) (fun hH' => ?_)
      clear hK K hH
      have hH := hH'
      clear hH'
      try simp only [List.setIfInBounds_toArray, List.set]
      clear hb
      have heq : ∀ u, Sem.run Tryd.prog (binOp .eql 22 (.agg (List.map (Value.int .u8) (cl k')).toArray) (.agg (List.map (Value.int .u8) (cl k')).toArray)) u = .ok (.bool true) u := fun u => eql_same _ _ (cl_by HK.out) (cl_by HK.out) rfl u
      refine wpAnyH_take (i := 13) (oi := ?o13xb) (v := ?v13xb) ?h13xb (by kernel_rfl) ?f13xb ?r13xb (fun _ _ _ h => h) (Or.inl ⟨?w13xb, ?y13xb⟩) (by assumption) ?t13xb
      case h13xb => simp only [List.getElem?_toArray]; rfl
      case f13xb => kernel_rfl
      case r13xb => kernel_rfl
      case w13xb => rfl
      case y13xb => (intro u hu; (go_simp) <;> with_reducible rfl)
      try simp only [Act.put, List.setIfInBounds_toArray, List.set_cons_zero, List.set_cons_succ]
      clear heq
      refine wpAnyH_take (i := 14) (oi := ?o14xb) (v := ?v14xb) ?h14xb (by kernel_rfl) ?f14xb ?r14xb (fun _ _ _ h => h) (Or.inl ⟨?w14xb, ?y14xb⟩) (by assumption) ?t14xb
      case h14xb => simp only [List.getElem?_toArray]; rfl
      case f14xb => kernel_rfl
      case r14xb => kernel_rfl
      case w14xb => rfl
      case y14xb => (intro u hu; (go_simp) <;> with_reducible rfl)
      try simp only [Act.put, List.setIfInBounds_toArray, List.set_cons_zero, List.set_cons_succ]
      refine wpAnyH_take (i := 15) (oi := ?o15xb) (v := ?v15xb) ?h15xb (by kernel_rfl) ?f15xb ?r15xb (fun _ _ _ h => h) (Or.inl ⟨?w15xb, ?y15xb⟩) (by assumption) ?t15xb
      case h15xb => simp only [List.getElem?_toArray]; rfl
      case f15xb => kernel_rfl
      case r15xb => kernel_rfl
      case w15xb => rfl
      case y15xb => (intro u hu; (go_simp) <;> with_reducible rfl)
      try simp only [Act.put, List.setIfInBounds_toArray, List.set_cons_zero, List.set_cons_succ]
      refine wpAnyH_take (i := 16) (oi := ?o16xb) (v := ?v16xb) ?h16xb (by kernel_rfl) ?f16xb ?r16xb (fun _ _ _ h => h) (Or.inl ⟨?w16xb, ?y16xb⟩) (by assumption) ?t16xb
      case h16xb => simp only [List.getElem?_toArray]; rfl
      case f16xb => kernel_rfl
      case r16xb => kernel_rfl
      case w16xb => rfl
      case y16xb => (intro u hu; (go_simp) <;> with_reducible rfl)
      try simp only [Act.put, List.setIfInBounds_toArray, List.set_cons_zero, List.set_cons_succ]
      refine wpAnyH_take (i := 17) (oi := ?o17xb) (v := ?v17xb) ?h17xb (by kernel_rfl) ?f17xb ?r17xb (fun _ _ _ h => h) (Or.inl ⟨?w17xb, ?y17xb⟩) (by assumption) ?t17xb
      case h17xb => simp only [List.getElem?_toArray]; rfl
      case f17xb => kernel_rfl
      case r17xb => kernel_rfl
      case w17xb => rfl
      case y17xb => (intro u hu; (go_simp) <;> with_reducible rfl)
      try simp only [Act.put, List.setIfInBounds_toArray, List.set_cons_zero, List.set_cons_succ]
      refine wpAnyH_take (i := 18) (oi := ?o18xb) (v := ?v18xb) ?h18xb (by kernel_rfl) ?f18xb ?r18xb (fun _ _ _ h => h) (Or.inl ⟨?w18xb, ?y18xb⟩) (by assumption) ?t18xb
      case h18xb => simp only [List.getElem?_toArray]; rfl
      case f18xb => kernel_rfl
      case r18xb => kernel_rfl
      case w18xb => rfl
      case y18xb => (intro u hu; (go_simp) <;> with_reducible rfl)
      try simp only [Act.put, List.setIfInBounds_toArray, List.set_cons_zero, List.set_cons_succ]
      refine wpAnyH_take (i := 19) (oi := ?o19xb) (v := ?v19xb) ?h19xb (by kernel_rfl) ?f19xb ?r19xb (fun _ _ _ h => h) (Or.inl ⟨?w19xb, ?y19xb⟩) (by assumption) ?t19xb
      case h19xb => simp only [List.getElem?_toArray]; rfl
      case f19xb => kernel_rfl
      case r19xb => kernel_rfl
      case w19xb => rfl
      case y19xb => (intro u hu; (go_simp) <;> with_reducible rfl)
      try simp only [Act.put, List.setIfInBounds_toArray, List.set_cons_zero, List.set_cons_succ]
      refine wpAnyH_take (i := 20) (oi := ?o20xb) (v := ?v20xb) ?h20xb (by kernel_rfl) ?f20xb ?r20xb (fun _ _ _ h => h) (Or.inl ⟨?w20xb, ?y20xb⟩) (by assumption) ?t20xb
      case h20xb => simp only [List.getElem?_toArray]; rfl
      case f20xb => kernel_rfl
      case r20xb => kernel_rfl
      case w20xb => rfl
      case y20xb => (intro u hu; (go_simp) <;> with_reducible rfl)
      try simp only [Act.put, List.setIfInBounds_toArray, List.set_cons_zero, List.set_cons_succ]
      refine wpAnyH_take (i := 21) (oi := ?o21xb) (v := ?v21xb) ?h21xb (by kernel_rfl) ?f21xb ?r21xb (fun _ _ _ h => h) (Or.inl ⟨?w21xb, ?y21xb⟩) (by assumption) ?t21xb
      case h21xb => simp only [List.getElem?_toArray]; rfl
      case f21xb => kernel_rfl
      case r21xb => kernel_rfl
      case w21xb => rfl
      case y21xb => (intro u hu; (go_simp) <;> with_reducible rfl)
      try simp only [Act.put, List.setIfInBounds_toArray, List.set_cons_zero, List.set_cons_succ]
      refine wpAnyH_take (i := 22) (oi := ?o22xb) (v := ?v22xb) ?h22xb (by kernel_rfl) ?f22xb ?r22xb (fun _ _ _ h => h) (Or.inl ⟨?w22xb, ?y22xb⟩) (by assumption) ?t22xb
      case h22xb => simp only [List.getElem?_toArray]; rfl
      case f22xb => kernel_rfl
      case r22xb => kernel_rfl
      case w22xb => rfl
      case y22xb => (intro u hu; (go_simp) <;> with_reducible rfl)
      try simp only [Act.put, List.setIfInBounds_toArray, List.set_cons_zero, List.set_cons_succ]
      refine wpAnyH_take (i := 23) (oi := ?o23xb) (v := ?v23xb) ?h23xb (by kernel_rfl) ?f23xb ?r23xb (fun _ _ _ h => h) (Or.inl ⟨?w23xb, ?y23xb⟩) (by assumption) ?t23xb
      case h23xb => simp only [List.getElem?_toArray]; rfl
      case f23xb => kernel_rfl
      case r23xb => kernel_rfl
      case w23xb => rfl
      case y23xb => (intro u hu; (go_simp) <;> with_reducible rfl)
      try simp only [Act.put, List.setIfInBounds_toArray, List.set_cons_zero, List.set_cons_succ]
      refine wpAnyH_take (i := 24) (oi := ?o24xb) (v := ?v24xb) ?h24xb (by kernel_rfl) ?f24xb ?r24xb (fun _ _ _ h => h) (Or.inl ⟨?w24xb, ?y24xb⟩) (by assumption) ?t24xb
      case h24xb => simp only [List.getElem?_toArray]; rfl
      case f24xb => kernel_rfl
      case r24xb => kernel_rfl
      case w24xb => rfl
      case y24xb => (intro u hu; (go_simp) <;> with_reducible rfl)
      try simp only [Act.put, List.setIfInBounds_toArray, List.set_cons_zero, List.set_cons_succ]
      refine wpAnyH_take (i := 25) (oi := ?o25xb) (v := ?v25xb) ?h25xb (by kernel_rfl) ?f25xb ?r25xb (fun _ _ _ h => h) (Or.inl ⟨?w25xb, ?y25xb⟩) (by assumption) ?t25xb
      case h25xb => simp only [List.getElem?_toArray]; rfl
      case f25xb => kernel_rfl
      case r25xb => kernel_rfl
      case w25xb => rfl
      case y25xb => (intro u hu; (go_simp) <;> with_reducible rfl)
      try simp only [Act.put, List.setIfInBounds_toArray, List.set_cons_zero, List.set_cons_succ]
      refine wpAnyH_take (i := 26) (oi := ?o26xb) (v := ?v26xb) ?h26xb (by kernel_rfl) ?f26xb ?r26xb (fun _ _ _ h => h) (Or.inl ⟨?w26xb, ?y26xb⟩) (by assumption) ?t26xb
      case h26xb => simp only [List.getElem?_toArray]; rfl
      case f26xb => kernel_rfl
      case r26xb => kernel_rfl
      case w26xb => rfl
      case y26xb => (intro u hu; (go_simp) <;> with_reducible rfl)
      try simp only [Act.put, List.setIfInBounds_toArray, List.set_cons_zero, List.set_cons_succ]
      refine wpAnyH_take (i := 27) (oi := ?o27xb) (v := ?v27xb) ?h27xb (by kernel_rfl) ?f27xb ?r27xb (fun _ _ _ h => h) (Or.inl ⟨?w27xb, ?y27xb⟩) (by assumption) ?t27xb
      case h27xb => simp only [List.getElem?_toArray]; rfl
      case f27xb => kernel_rfl
      case r27xb => kernel_rfl
      case w27xb => rfl
      case y27xb => (intro u hu; (go_simp) <;> with_reducible rfl)
      try simp only [Act.put, List.setIfInBounds_toArray, List.set_cons_zero, List.set_cons_succ]
      refine wpAnyH_take (i := 28) (oi := ?o28xb) (v := ?v28xb) ?h28xb (by kernel_rfl) ?f28xb ?r28xb (fun _ _ _ h => h) (Or.inl ⟨?w28xb, ?y28xb⟩) (by assumption) ?t28xb
      case h28xb => simp only [List.getElem?_toArray]; rfl
      case f28xb => kernel_rfl
      case r28xb => kernel_rfl
      case w28xb => rfl
      case y28xb => (intro u hu; (go_simp) <;> with_reducible rfl)
      try simp only [Act.put, List.setIfInBounds_toArray, List.set_cons_zero, List.set_cons_succ]
      refine wpAnyH_take (i := 29) (oi := ?o29xb) (v := ?v29xb) ?h29xb (by kernel_rfl) ?f29xb ?r29xb (fun _ _ _ h => h) (Or.inl ⟨?w29xb, ?y29xb⟩) (by assumption) ?t29xb
      case h29xb => simp only [List.getElem?_toArray]; rfl
      case f29xb => kernel_rfl
      case r29xb => kernel_rfl
      case w29xb => rfl
      case y29xb => (intro u hu; (go_simp) <;> with_reducible rfl)
      try simp only [Act.put, List.setIfInBounds_toArray, List.set_cons_zero, List.set_cons_succ]
      refine wpAnyH_take (i := 30) (oi := ?o30xb) (v := ?v30xb) ?h30xb (by kernel_rfl) ?f30xb ?r30xb (fun _ _ _ h => h) (Or.inl ⟨?w30xb, ?y30xb⟩) (by assumption) ?t30xb
      case h30xb => simp only [List.getElem?_toArray]; rfl
      case f30xb => kernel_rfl
      case r30xb => kernel_rfl
      case w30xb => rfl
      case y30xb => (intro u hu; (go_simp) <;> with_reducible rfl)
      try simp only [Act.put, List.setIfInBounds_toArray, List.set_cons_zero, List.set_cons_succ]
      refine wpAnyH_take (i := 31) (oi := ?o31xb) (v := .agg (List.map (Value.int .u8) (lay 32 z3)).toArray) ?h31xb (by kernel_rfl) ?f31xb ?r31xb (fun _ _ _ h => h) ?y31xb (by assumption) ?t31xb
      case h31xb => simp only [List.getElem?_toArray]; rfl
      case f31xb => kernel_rfl
      case r31xb => kernel_rfl
      case y31xb => exact yieldsIf_load_mid (by rfl) 22 (.tmp 9) rfl b9 0 rfl (List.map (Value.int .u8) (lay 32 z3)) _ (fun u hu => range_later hu A9.out.rng) Tryd.underlying22 rfl hi8
      try simp only [Act.put, List.setIfInBounds_toArray, List.set_cons_zero, List.set_cons_succ]
      refine wpAnyH_take (i := 32) (oi := ?o32xb) (v := .agg (List.map (Value.int .u8) (lay 32 z3)).toArray) ?h32xb (by kernel_rfl) ?f32xb ?r32xb (fun _ _ _ h => h) ?y32xb (by assumption) ?t32xb
      case h32xb => simp only [List.getElem?_toArray]; rfl
      case f32xb => kernel_rfl
      case r32xb => kernel_rfl
      case y32xb => exact yieldsIf_load_mid (by rfl) 22 (.tmp 8) rfl b8 0 rfl (List.map (Value.int .u8) (lay 32 z3)) _ (fun u hu => range_later hu A8.out.rng) Tryd.underlying22 rfl hi8
      try simp only [Act.put, List.setIfInBounds_toArray, List.set_cons_zero, List.set_cons_succ]
      have heq : ∀ u, Sem.run Tryd.prog (binOp .eql 22 (.agg (List.map (Value.int .u8) (lay 32 z3)).toArray) (.agg (List.map (Value.int .u8) (lay 32 z3)).toArray)) u = .ok (.bool true) u := fun u => eql_same _ _ (lay_by _) (lay_by _) rfl u
      refine wpAnyH_take (i := 33) (oi := ?o33xb) (v := ?v33xb) ?h33xb (by kernel_rfl) ?f33xb ?r33xb (fun _ _ _ h => h) (Or.inl ⟨?w33xb, ?y33xb⟩) (by assumption) ?t33xb
      case h33xb => simp only [List.getElem?_toArray]; rfl
      case f33xb => kernel_rfl
      case r33xb => kernel_rfl
      case w33xb => rfl
      case y33xb => (intro u hu; (go_simp) <;> with_reducible rfl)
      try simp only [Act.put, List.setIfInBounds_toArray, List.set_cons_zero, List.set_cons_succ]
      clear heq
      refine wpAnyH_take (i := 34) (oi := ?o34xb) (v := ?v34xb) ?h34xb (by kernel_rfl) ?f34xb ?r34xb (fun _ _ _ h => h) (Or.inl ⟨?w34xb, ?y34xb⟩) (by assumption) ?t34xb
      case h34xb => simp only [List.getElem?_toArray]; rfl
      case f34xb => kernel_rfl
      case r34xb => kernel_rfl
      case w34xb => rfl
      case y34xb => (intro u hu; (go_simp) <;> with_reducible rfl)
      try simp only [Act.put, List.setIfInBounds_toArray, List.set_cons_zero, List.set_cons_succ]
      refine wpAnyH_take (i := 35) (oi := ?o35xb) (v := ?v35xb) ?h35xb (by kernel_rfl) ?f35xb ?r35xb (fun _ _ _ h => h) (Or.inl ⟨?w35xb, ?y35xb⟩) (by assumption) ?t35xb
      case h35xb => simp only [List.getElem?_toArray]; rfl
      case f35xb => kernel_rfl
      case r35xb => kernel_rfl
      case w35xb => rfl
      case y35xb => (intro u hu; (go_simp) <;> with_reducible rfl)
      try simp only [Act.put, List.setIfInBounds_toArray, List.set_cons_zero, List.set_cons_succ]
      refine wpAnyH_take (i := 36) (oi := ?o36xb) (v := ?v36xb) ?h36xb (by kernel_rfl) ?f36xb ?r36xb (fun _ _ _ h => h) (Or.inl ⟨?w36xb, ?y36xb⟩) (by assumption) ?t36xb
      case h36xb => simp only [List.getElem?_toArray]; rfl
      case f36xb => kernel_rfl
      case r36xb => kernel_rfl
      case w36xb => rfl
      case y36xb => (intro u hu; (go_simp) <;> with_reducible rfl)
      try simp only [Act.put, List.setIfInBounds_toArray, List.set_cons_zero, List.set_cons_succ]
      refine wpAnyH_done (by kernel_rfl) ?_ _
      refine NoPanic.normal ?_
      have HB := HM.out.bel.trans (Below.mono hH HM.out.bel.size)
      clear hH
      go_wp2
      go_ret
      exact ⟨rfl, HB⟩
end Go.Proofs.YtggjifpcoidipaaDoor
