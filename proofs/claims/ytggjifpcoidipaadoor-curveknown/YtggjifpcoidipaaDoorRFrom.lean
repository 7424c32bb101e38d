/-
  What the reference's From and Bytes do. No statement of the seat is proved here.
-/
import Derived.Test.YtggjifpcoidipaaDoorRAdd
namespace Go.Proofs.YtggjifpcoidipaaDoor
open Go.RowKit

/-! ### From -/
def dl : List Int → List Int
  | x :: y :: l => (x + y * 256) :: dl l
  | _ => []
theorem dl_len : ∀ (k : Nat) (l : List Int), l.length = 2 * k → (dl l).length = k
  | 0, l, h => by
    have : l = [] := List.eq_nil_of_length_eq_zero (by omega)
    rw [this]
    rfl
  | k + 1, x :: y :: l, h => by
    rw [dl, List.length_cons, dl_len k l (by simp at h; omega)]
  | k + 1, [], h => by simp at h <;> omega
  | k + 1, [x], h => by simp at h <;> omega
theorem nv_dl : ∀ (k : Nat) (l : List Int), l.length = 2 * k → nv (dl l) = leN l
  | 0, l, h => by
    have : l = [] := List.eq_nil_of_length_eq_zero (by omega)
    rw [this]
    rfl
  | k + 1, x :: y :: l, h => by
    rw [dl, nv, nv_dl k l (by simp at h; omega), leN, leN]
    omega
  | k + 1, [], h => by simp at h <;> omega
  | k + 1, [x], h => by simp at h <;> omega
theorem dl_at : ∀ (k : Nat) (l : List Int) (h1 : 2 * k < l.length) (h2 : 2 * k + 1 < l.length) (h3 : k < (dl l).length), (dl l)[k] = l[2 * k] + l[2 * k + 1] * 256
  | 0, x :: y :: l, _, _, _ => rfl
  | k + 1, x :: y :: l, h1, h2, h3 => by
    have e0 : (dl (x :: y :: l))[k + 1] = (dl l)[k]'(by simpa [dl] using h3) := by simp [dl]
    have h1' : 2 * k < l.length := by simp at h1; omega
    have h2' : 2 * k + 1 < l.length := by simp at h2; omega
    have e1 : (x :: y :: l)[2 * (k + 1)] = l[2 * k] := by
      have : 2 * (k + 1) = 2 * k + 1 + 1 := by omega
      simp only [this, List.getElem_cons_succ]
    have e2 : (x :: y :: l)[2 * (k + 1) + 1] = l[2 * k + 1] := by
      have : 2 * (k + 1) + 1 = 2 * k + 1 + 1 + 1 := by omega
      simp only [this, List.getElem_cons_succ]
    rw [e0, dl_at k l h1' h2' (by simpa [dl] using h3), e1, e2]
  | _, [], h1, _, _ => by simp at h1
  | _, [x], _, h2, _ => by simp at h2
theorem dl_dg : ∀ (k : Nat) (l : List Int), l.length = 2 * k → Byt l → Dg (dl l)
  | 0, l, h, _ => by
    have : l = [] := List.eq_nil_of_length_eq_zero (by omega)
    rw [this]
    exact Dg.nil
  | k + 1, x :: y :: l, h, hb => by
    have hx := hb x (by simp)
    have hy := hb y (by simp)
    rw [dl]
    exact Dg.mk (by omega) (by omega) (dl_dg k l (by simp at h; omega) (fun z hz => hb z (by simp [hz])))
  | k + 1, [], h, _ => by simp at h <;> omega
  | k + 1, [x], h, _ => by simp at h <;> omega
theorem nv_top (D : List Int) (x : Int) (hD : D.length = 15) (dd : Dg D) : nv (D ++ [x % 32768]) = nv (D ++ [x]) % 57896044618658097711785492504343953926634992332820282019728792003956564819968 ∧ Dg (D ++ [x % 32768]) := by
  have hb := nv_bound D dd
  rw [hD, show (65536 : Int) ^ 15 = 1766847064778384329583297500742918515827483896875618958121606201292619776 from by decide] at hb
  rw [nv_app, nv_app, hD, show (65536 : Int) ^ 15 = 1766847064778384329583297500742918515827483896875618958121606201292619776 from by decide]
  simp only [nv]
  exact ⟨by omega, dd.app (Dg.mk (by omega) (by omega) Dg.nil)⟩

set_option maxHeartbeats 4000000 in
theorem rfrom_any (l : List Int) (hl : By l) (w : World) (hg : Gp w) :
    Calls Tryd.prog 8 #[.agg (List.map (Value.int .u8) l).toArray] w fun e w' => ∃ z, e = .returned (.agg (List.map (Value.int .u64) z).toArray) ∧ Hid (z = dg 16 (num l)) ∧ Below w.heap.size w w' := by
  go_enter Tryd.func8, Tryd.ntmps8
  go_wp2
  have HL : Hid (Arr (((w.alloc (.cells (List.map (Value.int .u8) l).toArray 22)).alloc (.cells #[.int .u64 0, .int .u64 0, .int .u64 0, .int .u64 0, .int .u64 0, .int .u64 0, .int .u64 0, .int .u64 0, .int .u64 0, .int .u64 0, .int .u64 0, .int .u64 0, .int .u64 0, .int .u64 0, .int .u64 0, .int .u64 0] 31)).alloc (.cells #[.int .u64 0, .int .u64 0, .int .u64 0, .int .u64 0, .int .u64 0, .int .u64 0, .int .u64 0, .int .u64 0, .int .u64 0, .int .u64 0, .int .u64 0, .int .u64 0, .int .u64 0, .int .u64 0, .int .u64 0, .int .u64 0] 31)) (w.heap.size) (List.map (Value.int .u8) l)) := ((arr_box w l hl).later (bel1 _ (.cells #[.int .u64 0, .int .u64 0, .int .u64 0, .int .u64 0, .int .u64 0, .int .u64 0, .int .u64 0, .int .u64 0, .int .u64 0, .int .u64 0, .int .u64 0, .int .u64 0, .int .u64 0, .int .u64 0, .int .u64 0, .int .u64 0] 31))).later (bel1 _ _)
  have HD : Hid ((((w.alloc (.cells (List.map (Value.int .u8) l).toArray 22)).alloc (.cells #[.int .u64 0, .int .u64 0, .int .u64 0, .int .u64 0, .int .u64 0, .int .u64 0, .int .u64 0, .int .u64 0, .int .u64 0, .int .u64 0, .int .u64 0, .int .u64 0, .int .u64 0, .int .u64 0, .int .u64 0, .int .u64 0] 31)).alloc (.cells #[.int .u64 0, .int .u64 0, .int .u64 0, .int .u64 0, .int .u64 0, .int .u64 0, .int .u64 0, .int .u64 0, .int .u64 0, .int .u64 0, .int .u64 0, .int .u64 0, .int .u64 0, .int .u64 0, .int .u64 0, .int .u64 0] 31)).there (w.heap.size + 1) 0 16) := by have := there_later (bel1 _ (.cells #[.int .u64 0, .int .u64 0, .int .u64 0, .int .u64 0, .int .u64 0, .int .u64 0, .int .u64 0, .int .u64 0, .int .u64 0, .int .u64 0, .int .u64 0, .int .u64 0, .int .u64 0, .int .u64 0, .int .u64 0, .int .u64 0] 31)) (there_new (w.alloc (.cells (List.map (Value.int .u8) l).toArray 22)) 16 #[.int .u64 0, .int .u64 0, .int .u64 0, .int .u64 0, .int .u64 0, .int .u64 0, .int .u64 0, .int .u64 0, .int .u64 0, .int .u64 0, .int .u64 0, .int .u64 0, .int .u64 0, .int .u64 0, .int .u64 0, .int .u64 0] rfl 31); simpa [Hid] using this
  have HN : Hid (Wrd (((w.alloc (.cells (List.map (Value.int .u8) l).toArray 22)).alloc (.cells #[.int .u64 0, .int .u64 0, .int .u64 0, .int .u64 0, .int .u64 0, .int .u64 0, .int .u64 0, .int .u64 0, .int .u64 0, .int .u64 0, .int .u64 0, .int .u64 0, .int .u64 0, .int .u64 0, .int .u64 0, .int .u64 0] 31)).alloc (.cells #[.int .u64 0, .int .u64 0, .int .u64 0, .int .u64 0, .int .u64 0, .int .u64 0, .int .u64 0, .int .u64 0, .int .u64 0, .int .u64 0, .int .u64 0, .int .u64 0, .int .u64 0, .int .u64 0, .int .u64 0, .int .u64 0] 31)) (w.heap.size + 1 + 1) (List.replicate 16 0)) := by have := wrd_box ((w.alloc (.cells (List.map (Value.int .u8) l).toArray 22)).alloc (.cells #[.int .u64 0, .int .u64 0, .int .u64 0, .int .u64 0, .int .u64 0, .int .u64 0, .int .u64 0, .int .u64 0, .int .u64 0, .int .u64 0, .int .u64 0, .int .u64 0, .int .u64 0, .int .u64 0, .int .u64 0, .int .u64 0] 31)) (List.replicate 16 0) rfl 31; simpa [Hid] using this
  have HG : Hid (Gp (((w.alloc (.cells (List.map (Value.int .u8) l).toArray 22)).alloc (.cells #[.int .u64 0, .int .u64 0, .int .u64 0, .int .u64 0, .int .u64 0, .int .u64 0, .int .u64 0, .int .u64 0, .int .u64 0, .int .u64 0, .int .u64 0, .int .u64 0, .int .u64 0, .int .u64 0, .int .u64 0, .int .u64 0] 31)).alloc (.cells #[.int .u64 0, .int .u64 0, .int .u64 0, .int .u64 0, .int .u64 0, .int .u64 0, .int .u64 0, .int .u64 0, .int .u64 0, .int .u64 0, .int .u64 0, .int .u64 0, .int .u64 0, .int .u64 0, .int .u64 0, .int .u64 0] 31))) := ((hg.later (bel1 _ _)).later (bel1 _ _)).later (bel1 _ _)
  have HB : Hid (Below w.heap.size w (((w.alloc (.cells (List.map (Value.int .u8) l).toArray 22)).alloc (.cells #[.int .u64 0, .int .u64 0, .int .u64 0, .int .u64 0, .int .u64 0, .int .u64 0, .int .u64 0, .int .u64 0, .int .u64 0, .int .u64 0, .int .u64 0, .int .u64 0, .int .u64 0, .int .u64 0, .int .u64 0, .int .u64 0] 31)).alloc (.cells #[.int .u64 0, .int .u64 0, .int .u64 0, .int .u64 0, .int .u64 0, .int .u64 0, .int .u64 0, .int .u64 0, .int .u64 0, .int .u64 0, .int .u64 0, .int .u64 0, .int .u64 0, .int .u64 0, .int .u64 0, .int .u64 0] 31))) := bel3 _ _ _ _
  have hpos : 0 < w.heap.size := hg.pos
  generalize ((w.alloc (.cells (List.map (Value.int .u8) l).toArray 22)).alloc (.cells #[.int .u64 0, .int .u64 0, .int .u64 0, .int .u64 0, .int .u64 0, .int .u64 0, .int .u64 0, .int .u64 0, .int .u64 0, .int .u64 0, .int .u64 0, .int .u64 0, .int .u64 0, .int .u64 0, .int .u64 0, .int .u64 0] 31)).alloc (.cells #[.int .u64 0, .int .u64 0, .int .u64 0, .int .u64 0, .int .u64 0, .int .u64 0, .int .u64 0, .int .u64 0, .int .u64 0, .int .u64 0, .int .u64 0, .int .u64 0, .int .u64 0, .int .u64 0, .int .u64 0, .int .u64 0] 31) = W0 at *
  have k1 : w.heap.size < w.heap.size + 1 := by omega
  have k2 : w.heap.size + 1 < w.heap.size + 1 + 1 := by omega
  generalize w.heap.size + 1 + 1 = b2 at *
  generalize w.heap.size + 1 = b1 at *
  have hz := dl_len 16 l hl.len
  have hdg := dl_dg 16 l hl.len hl.byt
  go_loopw [4] (fun i wl => ∃ j : Nat, j ≤ 16 ∧ i = .int .i64 j ∧ Hid (Wrd wl b2 ((dl l).take j ++ (List.replicate 16 (0 : Int)).drop j)) ∧ Hid (Arr wl (w.heap.size) (List.map (Value.int .u8) l)) ∧ Hid (wl.there b1 0 16) ∧ Hid (Gp wl) ∧ Hid (Below w.heap.size w wl)) (fun i _ => 16 - (intOf i).toNat)
  case atStart => exact ⟨0, by decide, rfl, by simpa [Hid] using HN, HL, HD, HG, HB⟩
  case round =>
    clear HL HN HD HG HB
    obtain ⟨j, hj, rfl, HN, HL, HD, HG, HB⟩ := hrel
    by_cases hlt : j < 16
    · have h1 : 2 * j < l.length := by rw [hl.len]; omega
      have h2 : 2 * j + 1 < l.length := by rw [hl.len]; omega
      have h3 : j < (dl l).length := by omega
      have HS : Hid ((dl l).take (j + 1) = (dl l).take j ++ [l[2 * j] + l[2 * j + 1] * 256]) := by unfold Hid; rw [take_snoc _ _ h3, dl_at j l h1 h2 h3]
      have r1 := hl.byt _ (List.getElem_mem h1)
      have r2 := hl.byt _ (List.getElem_mem h2)
      have c1 := HL.out.rng (2 * j) (.int .u8 l[2 * j]) (by rw [List.getElem?_map, List.getElem?_eq_getElem h1]; rfl)
      have c2 := HL.out.rng (2 * j + 1) (.int .u8 l[2 * j + 1]) (by rw [List.getElem?_map, List.getElem?_eq_getElem h2]; rfl)
      rw [Nat.zero_add] at c1 c2
      have htl : ((dl l).take j).length = j := by rw [List.length_take]; omega
      have hjr : j < (List.replicate 16 (0 : Int)).length := by simpa using hlt
      have er : (List.replicate 16 (0 : Int))[j] = 0 := List.getElem_replicate _
      have HN' : Hid (Wrd wr b2 ((dl l).take j ++ 0 :: (List.replicate 16 (0 : Int)).drop (j + 1))) := by
        unfold Hid
        have := HN.out
        rw [drop_cons hjr, er] at this
        exact this
      have hlen : ((dl l).take j ++ 0 :: (List.replicate 16 (0 : Int)).drop (j + 1)).length = 16 := by simp only [List.length_append, List.length_cons, List.length_drop, List.length_replicate, htl]; omega
      obtain ⟨c3, f3⟩ := HN'.out.mid hlen
      rw [htl] at c3 f3
      generalize l[2 * j] = r at *
      generalize l[2 * j + 1] = q at *
      have g1 : (j : Int) < 16 := by omega
      have g2 : 2 * (j : Int) < 32 := by omega
      have g3 : 2 * (j : Int) + 1 < 32 := by omega
      clear HN er
      go_wp2
      go_region
      all_goals
        go_wp2
        go_roundw
        case rel => exact ⟨j + 1, by omega, by go_num, by
          have := HN'.out.drew.setMid (r + q * 256)
          rw [htl] at this
          unfold Hid
          rw [HS.out, List.append_assoc]
          exact this, ⟨range_else (range_later (Below.refl _ _).drew HL.out.rng) (by omega) _, there_set (there_later (Below.refl _ _).drew HL.out.all) _ _ _⟩, there_set (there_later (Below.refl _ _).drew HD.out) _ _ _, (HG.out.later (Below.refl _ _).drew).set _ (by dsimp only; omega) _, HB.out.drew.setCell (p := ⟨b2, j, none⟩) (by dsimp only; omega) _⟩
        case measure => simp [intOf]; omega
    · have e : j = 16 := by omega
      subst e
      have HN' : Hid (Wrd wr b2 (dl l)) := by
        have := HN.out
        rw [List.take_of_length_le (by omega), List.drop_eq_nil_of_le (by simp), List.append_nil] at this
        exact this
      clear HN
      have h15 : 15 < (dl l).length := by omega
      have es : dl l = (dl l).take 15 ++ [(dl l)[15]] := by rw [← take_snoc _ _ h15, List.take_of_length_le (by omega)]
      have hD15 : ((dl l).take 15).length = 15 := by rw [List.length_take]; omega
      have hDd : Dg ((dl l).take 15) := fun x hx => hdg x (List.mem_of_mem_take hx)
      have hx := hdg.at 15 h15
      obtain ⟨t1, t2⟩ := nv_top _ ((dl l)[15]) hD15 hDd
      have HT : Hid (nv ((dl l).take 15 ++ [(dl l)[15] % 32768]) % 57896044618658097711785492504343953926634992332820282019728792003956564819949 = num l) := by
        unfold Hid num
        rw [t1, ← es, nv_dl 16 l hl.len]
      have HW : Hid (Wrd wr b2 ((dl l).take 15 ++ (dl l)[15] :: [])) := by unfold Hid; rw [← es]; exact HN'.out
      have HT2 : Hid (Dg ((dl l).take 15 ++ [(dl l)[15] % 32768])) := t2
      have hln : ((dl l).take 15 ++ (dl l)[15] :: []).length = 16 := by rw [← es]; exact hz
      obtain ⟨c3, f3⟩ := HW.out.mid hln
      rw [hD15] at c3 f3
      clear t1 t2 es HN' hdg
      generalize (dl l)[15] = x at *
      generalize (dl l).take 15 = D at *
      obtain ⟨x0, x1⟩ := hx
      have hx3 : 0 ≤ x % 32768 := by omega
      go_upto_region 7 with fail
      have HW2 : Hid (Wrd (wr.setCell ⟨b2, 15, none⟩ (.int .u64 (x % 32768))) b2 (D ++ [x % 32768])) := by have := HW.out.setMid (x % 32768); rw [hD15] at this; exact this
      have HD2 : Hid ((wr.setCell ⟨b2, 15, none⟩ (.int .u64 (x % 32768))).there b1 0 16) := there_set HD.out _ _ _
      have HG2 : Hid (Gp (wr.setCell ⟨b2, 15, none⟩ (.int .u64 (x % 32768)))) := HG.out.set _ (by dsimp only; omega) _
      have HB2 : Hid (Below w.heap.size w (wr.setCell ⟨b2, 15, none⟩ (.int .u64 (x % 32768)))) := HB.out.setCell (p := ⟨b2, 15, none⟩) (by dsimp only; omega) _
      clear HW HD HG HB c3 f3
      generalize wr.setCell ⟨b2, 15, none⟩ (.int .u64 (x % 32768)) = y1 at *
      have hlF : (D ++ [x % 32768]).length = 16 := by rw [List.length_append, hD15]; rfl
      generalize D ++ [x % 32768] = F at *
      obtain ⟨_, _, hi⟩ := no_cells hlF
      go_wp2_with (refine wpList_load_mid rfl 31 (.tmp 3) rfl b2 0 rfl (List.map (Value.int .u64) F) _ HW2.out.rng Tryd.underlying31 rfl hi ?_)
      refine (freeze_any F hlF HT2.out.dw _ HG2.out).mono ?_
      rintro e w1 ⟨z, rfl, HZ, hb'⟩
      have HD : Hid (w1.there b1 0 16) := there_later hb' HD2.out
      have HB : Hid (Below w.heap.size w w1) := HB2.out.trans (hb'.mono HB2.out.size)
      have HZ' : Hid (z = dg 16 (num l)) := by unfold Hid; rw [HZ.out, HT.out]
      have hzl : z.length = 16 := by rw [HZ.out, dg_length]
      clear hb' hi HD2 HB2
      obtain ⟨hlenS, honeS, hiS⟩ := no_cells hzl
      generalize hcs : (List.map (Value.int .u64) z) = cs at *
      have HC : Hid ((List.map (Value.int .u64) z) = cs) := hcs
      clear hcs
      go_wp2_with (refine wpList_store_mid rfl 31 (.tmp 2) (.tmp 29) rfl (b1) 0 cs.toArray rfl rfl (by simpa [hlenS] using HD.out) (by simpa using hiS) (all_oneCell_toArray honeS) ?_)
      have HR2 : Hid ((w1.setCells (b1) 0 cs).rangeAt (b1) 0 cs) := World.rangeAt_setCells_same _ _ _ _ (by rw [hlenS]; exact HD.out)
      have hld := run_loadVar_mid (P := Tryd.prog) _ _ 0 31 _ _ HR2.out Tryd.underlying31 rfl hiS
      exact bodyPost_ret (v := .agg cs.toArray) (by simp [results, Tryd.results8]; exact hld) rfl ⟨z, by rw [HC.out], HZ', below_setCells _ (by omega) _ _ _ HB.out⟩
end Go.Proofs.YtggjifpcoidipaaDoor
