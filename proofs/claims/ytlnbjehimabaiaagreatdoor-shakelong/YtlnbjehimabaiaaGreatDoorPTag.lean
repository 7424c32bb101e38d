/-
 What poly's Tag does, for whatever key and text. No statement of the seat is proved here.
-/
import Derived.Test.YtlnbjehimabaiaaGreatDoorPk1
import Derived.Test.YtlnbjehimabaiaaGreatDoorPMark
import Derived.Test.YtlnbjehimabaiaaGreatDoorPk14
namespace Go.Proofs.YtlnbjehimabaiaaGreatDoor
open Go.RowKit
set_option maxRecDepth 8000

/-- The key's r. -/
def cl5 (key : List Int) : Int := bits .and .u64 (leN (key.take 8)) 1152921487695413247 + bits .and .u64 (leN ((key.drop 8).take 8)) 1152921487695413244 * 18446744073709551616
/-- What is reckoned so far, over what is left of the text. -/
def po (r : Int) : Nat → Int → List Int → Int
 | 0, a, _ => a
 | n + 1, a, t => if t.length = 0 then a else po r n ((a + (leN (t.take 16) + 256 ^ (min t.length 16))) * r % 1361129467683753853853498429727072845819) (t.drop 16)
/-- The tag. -/
def tg (key text : List Int) : List Int := lay 16 (po (cl5 key) text.length 0 text + leN (key.drop 16))
theorem kept_w {x : Int} (h : Wq x) (m : Int) (h0 : 0 ≤ m) (h1 : m < 18446744073709551616) : Wq (bits .and .u64 x m) := by
 obtain ⟨n, rfl⟩ := Int.eq_ofNat_of_zero_le h.1
 obtain ⟨k, rfl⟩ := Int.eq_ofNat_of_zero_le h0
 have hn : n < 18446744073709551616 := by have := h.2; omega
 rw [bits_and_u64_nat n k hn (by omega)]
 have := Nat.and_le_left (n := n) (m := k)
 exact ⟨by omega, by omega⟩
theorem po_nil (r : Int) (a : Int) : ∀ n, po r n a [] = a
 | 0 => rfl
 | _ + 1 => by rw [po]; simp
theorem po_step (r a : Int) (n : Nat) (t : List Int) (h : 0 < t.length) : po r (n + 1) a t = po r n ((a + (leN (t.take 16) + 256 ^ (min t.length 16))) * r % 1361129467683753853853498429727072845819) (t.drop 16) := by rw [po, if_neg (by omega)]
theorem em_step (x y z : Int) : (x % 1361129467683753853853498429727072845819 + y) * z % 1361129467683753853853498429727072845819 = (x + y) * z % 1361129467683753853853498429727072845819 := by rw [Int.mul_emod, Int.emod_add_emod, ← Int.mul_emod]
theorem lv_add (a b c d e f g h i j : Int) : lv (a + f) (b + g) (c + h) (d + i) (e + j) = lv a b c d e + lv f g h i j := by unfold lv; omega
/-- What is left of a slice. -/
theorem rest_rd {w : World} {b off n c : Nat} {t : List Int} (h : Rd w (some ⟨b, off, none⟩) n c t) (k : Nat) (hk : k ≤ n) : Rd w (if c = k then some ⟨b, off, none⟩ else some ⟨b, off + k, none⟩) (n - k) (c - k) (t.drop k) := by
 have hle := h.hle
 by_cases e : c = k
 ·rw [if_pos e, show n - k = 0 by omega, List.drop_eq_nil_of_le (by rw [h.hlen]; omega)]
  exact Rd.nil _ _ _ (fun h => by cases h)
 ·rw [if_neg e]
  exact h.from k hk _ _ rfl (by omega)

theorem lay_leN : ∀ (l : List Int), Byt l → lay l.length (leN l) = l
 | [], _ => rfl
 | x :: l, h => by
  have hx := h x (by simp)
  have e1 : (x + 256 * leN l) % 256 = x := by omega
  have e2 : (x + 256 * leN l) / 256 = leN l := by omega
  rw [List.length_cons, leN, lay, e1, e2, lay_leN l (fun y hy => h y (List.mem_cons_of_mem _ hy))]
theorem lay16 (X L H : Int) (hL : Wq L) (hH : Wq H) (h : X % 340282366920938463463374607431768211456 = L + H * 18446744073709551616) : lay 16 X = lay 8 L ++ lay 8 H := by
 have e1 := lay_leN (lay 16 X) (lay_byt 16 X)
 rw [lay_length, leN_lay] at e1
 have e2 := lay_leN (lay 8 L ++ lay 8 H) ((lay_byt 8 L).app (lay_byt 8 H))
 rw [List.length_append, lay_length, lay_length, leN_app, lay_length, leN_lay8 L hL.1 hL.2, leN_lay8 H hH.1 hH.2] at e2
 rw [← e1, ← e2]
 congr 1
 have : (256 : Int) ^ 16 = 340282366920938463463374607431768211456 := by decide
 rw [this, h]
 have : (256 : Int) ^ 8 = 18446744073709551616 := by decide
 rw [this, Int.mul_comm H]
theorem leN16 (B : List Int) (hl : B.length = 16) : leN B = leN (B.take 8) + leN ((B.drop 8).take 8) * 18446744073709551616 := by
 have e1 : B = B.take 8 ++ (B.drop 8).take 8 := by
  rw [List.take_of_length_le (l := B.drop 8) (by rw [List.length_drop]; omega), List.take_append_drop]
 have l1 : (B.take 8).length = 8 := by rw [List.length_take]; omega
 have := leN_app (B.take 8) ((B.drop 8).take 8)
 rw [← e1, l1] at this
 rw [this]
 show _ + 18446744073709551616 * _ = _
 omega
theorem put64_g (n : Int) (w : World) (h : Wq n) :
  Calls Tryz.prog 86 #[.int .u64 n] w fun e w' => ∃ g, e = .returned (.slice (some ⟨g, 0, none⟩) 8 8) ∧ Hid (Rd w' (some ⟨g, 0, none⟩) 8 8 (lay 8 n)) ∧ Below w.heap.size w w' := by
 refine (put64_any n w h.1 h.2).mono ?_
 rintro e w' ⟨rfl, hr, hb⟩
 exact ⟨_, rfl, hr, hb⟩
theorem bn16_cells {l : List Int} (h : Bn 16 l) : (List.map (Value.int .u8) l).length = 16 ∧ (∀ v ∈ (List.map (Value.int .u8) l), v.oneCell' = true) ∧ (Tryz.prog.info? 122).map (·.size) = some (List.map (Value.int .u8) l).length :=
 ⟨h.map_len, bytes_oneCell _, by rw [h.map_len]; kernel_rfl⟩
structure Tm (w : World) (q1 b5 : Nat) (key : List Int) (r0 r1 r2 r3 r4 : Int) (u : World) : Prop where
 ak : Ar u w.heap.size 32 (List.map (Value.int .u8) key)
 aq : u.there q1 0 16
 a5 : Ar u b5 5 [.int .u64 r0, .int .u64 r1, .int .u64 r2, .int .u64 r3, .int .u64 r4]
 bel : Below w.heap.size w u
theorem Tm.later {w : World} {q1 b5 : Nat} {key : List Int} {r0 r1 r2 r3 r4 : Int} {u v : World} (h : Tm w q1 b5 key r0 r1 r2 r3 r4 u) (hb : Below u.heap.size u v) : Tm w q1 b5 key r0 r1 r2 r3 r4 v := ⟨h.ak.later hb, there_later hb h.aq, h.a5.later hb, h.bel.trans (hb.mono h.bel.size)⟩
theorem Tm.cells {w : World} {q1 b5 : Nat} {key : List Int} {r0 r1 r2 r3 r4 : Int} {u : World} (h : Tm w q1 b5 key r0 r1 r2 r3 r4 u) (b o : Nat) (cs : List Value) (h0 : w.heap.size ≠ b) (_h1 : q1 ≠ b) (h2 : b5 ≠ b) (h3 : w.heap.size ≤ b) : Tm w q1 b5 key r0 r1 r2 r3 r4 (u.setCells b o cs) := ⟨h.ak.else_cells h0 _ _, World.there_setCells h.aq _ _ _, h.a5.else_cells h2 _ _, below_setCells _ h3 _ _ _ h.bel⟩

set_option maxHeartbeats 4000000 in
theorem tag_c (ad : Option Addr) (len cap : Nat) (key text : List Int) (hk : Bn 32 key) (w : World) (hr : Rd w ad len cap text) (hm : len ≤ 281474976710656) :
  Calls Tryz.prog 125 #[(.agg (List.map (Value.int .u8) key).toArray), .slice ad len cap] w fun e w' => ∃ T, e = .returned (.agg (List.map (Value.int .u8) T).toArray) ∧ Hid (T = tg key text) ∧ Bn 16 T ∧ Below w.heap.size w w' := by
 have HK : Hid (Bn 32 key) := hk
 have HR : Hid (Rd w ad len cap text) := hr
 clear hk hr
 go_enter Tryz.func125, Tryz.ntmps125
 go_upto_region 1 with fail
 have AK : Hid (Ar ((w.alloc (.cells (List.map (Value.int .u8) key).toArray 30)).alloc (.cells zb16 122)) w.heap.size 32 (List.map (Value.int .u8) key)) := (ar_box w _ 32 HK.out.map_len _).later (bel1 _ _)
 have AQ : Hid (((w.alloc (.cells (List.map (Value.int .u8) key).toArray 30)).alloc (.cells zb16 122)).there (w.heap.size + 1) 0 16) := by have := there_new (w.alloc (.cells (List.map (Value.int .u8) key).toArray 30)) 16 zb16 rfl 122; simpa [Hid] using this
 have HB : Hid (Below w.heap.size w ((w.alloc (.cells (List.map (Value.int .u8) key).toArray 30)).alloc (.cells zb16 122))) := bel2 _ _ _
 have hq1 : w.heap.size + 1 < ((w.alloc (.cells (List.map (Value.int .u8) key).toArray 30)).alloc (.cells zb16 122)).heap.size := by simp
 generalize ((w.alloc (.cells (List.map (Value.int .u8) key).toArray 30)).alloc (.cells zb16 122)) = W at *
 have k1 : w.heap.size < w.heap.size + 1 := by omega
 generalize w.heap.size + 1 = q1 at *
 go_cut [5] from 12 to 18 (fun tv wx => ∃ (b5 : Nat) (r0 r1 r2 r3 r4 : Int), tv = .pointer (some ⟨b5, 0, none⟩) ∧ (0 ≤ r0 ∧ r0 < 67108864) ∧ (0 ≤ r1 ∧ r1 < 67108864) ∧ (0 ≤ r2 ∧ r2 < 67108864) ∧ (0 ≤ r3 ∧ r3 < 67108864) ∧ (0 ≤ r4 ∧ r4 < 67108864) ∧ Hid (lv r0 r1 r2 r3 r4 = cl5 key) ∧ Hid (Ar wx b5 5 [.int .u64 r0, .int .u64 r1, .int .u64 r2, .int .u64 r3, .int .u64 r4]) ∧ W.heap.size ≤ b5 ∧ Hid (Ext W wx))
 case first =>
  refine wp_region_noPanic ?_
  refine wp_region_held_drew (S := Ext W) (by kernel_rfl) (Ext.refl _).drew (fun hH => ?_)
  change wpAnyH _ _ _ _ _ _ #[false, false, false, false, false, false, false, false, false] _ _
  refine tn 0 ?_
  refine tn 3 ?_
  generalize W.drew = y0 at *
  refine wpAnyH_ready (rs := [1, 7]) (by kernel_rfl) (by simp) ?_
  refine AllReadyH.cons (o := ?og1) ?hg1 (fun K hK => ?sg1) (AllReadyH.cons (o := ?og2) ?hg2 (fun K hK => ?sg2) (AllReadyH.nil))
  case hg1 => simp only [List.getElem?_toArray]; rfl
  case hg2 => simp only [List.getElem?_toArray]; rfl
  case sg1 =>
   go_simp
   refine (word_c (some ⟨w.heap.size, 0, none⟩) 32 32 key _ ((AK.out.later hH).rd_all HK.out.byt 32 (by decide)) (by decide) (by decide)).mono ?_
   rintro e w' ⟨x, rfl, Hx, Wx, hw⟩
   rw [hw]
   clear hw w'
   refine ko hK hH fun hH => ?_; clear hK K
   obtain ⟨rx, hrx⟩ : ∃ z, bits .and .u64 x 1152921487695413247 = z := ⟨_, rfl⟩
   have HRX : Hid (rx = bits .and .u64 (leN (key.take 8)) 1152921487695413247) := by unfold Hid; rw [← hrx, Hx.out]
   have Wrx : Wq rx := by rw [← hrx]; exact kept_w Wx _ (by decide) (by decide)
   refine tn 2 ?_
   clear hrx Hx Wx
   refine wpAnyH_ready (rs := [4, 7]) (by kernel_rfl) (by simp) ?_
   refine AllReadyH.cons (o := ?og5) ?hg5 (fun K hK => ?sg5) (AllReadyH.cons (o := ?og6) ?hg6 (fun K hK => ?sg6) (AllReadyH.nil))
   case hg5 => simp only [List.getElem?_toArray]; rfl
   case hg6 => simp only [List.getElem?_toArray]; rfl
   case sg5 =>
    go_simp
    refine (word_c (some ⟨w.heap.size, 8, none⟩) 24 24 (key.drop 8) _ ((AK.out.later hH).rdFrom HK.out.byt 8 (by decide)) (by decide) (by decide)).mono ?_
    rintro e w' ⟨y, rfl, Hy, Wy, hw⟩
    rw [hw]
    clear hw w'
    refine ko hK hH fun hH => ?_; clear hK K
    obtain ⟨ry, hry⟩ : ∃ z, bits .and .u64 y 1152921487695413244 = z := ⟨_, rfl⟩
    have HRY : Hid (ry = bits .and .u64 (leN ((key.drop 8).take 8)) 1152921487695413244) := by unfold Hid; rw [← hry, Hy.out]
    have Wry : Wq ry := by rw [← hry]; exact kept_w Wy _ (by decide) (by decide)
    refine tn 5 ?_
    clear hry Hy Wy
    refine wpAnyH_ready (rs := [6, 7]) (by kernel_rfl) (by simp) ?_
    refine AllReadyH.cons (o := ?og9) ?hg9 (fun K hK => ?sg9) (AllReadyH.cons (o := ?og10) ?hg10 (fun K hK => ?sg10) (AllReadyH.nil))
    case hg9 => simp only [List.getElem?_toArray]; rfl
    case hg10 => simp only [List.getElem?_toArray]; rfl
    case sg9 =>
     go_simp
     refine (parted_c rx ry 0 Wrx Wry (by decide) _).mono ?_
     rintro e V ⟨r0, r1, r2, r3, r4, rfl, g0, g1, g2, g3, g4, HV, hb⟩
     refine ko hK (hH.trans hb) fun hH => ?_; clear hK K
     have HVr : Hid (lv r0 r1 r2 r3 r4 = cl5 key) := by have := HV.out; rw [HRX.out, HRY.out] at this; unfold Hid; rw [this]; unfold cl5; omega
     clear hb HV
     refine wpAnyH_ready (rs := [7]) (by kernel_rfl) (by simp) ?_
     refine AllReadyH.cons (o := ?og12) ?hg12 (fun K hK => ?sg12) (AllReadyH.nil)
     case hg12 => simp only [List.getElem?_toArray]; rfl
     case sg12 =>
      go_simp
      have hb5 : W.heap.size ≤ V.heap.size := hH.size
      refine ko hK (hH.trans (bel1 _ _)) fun hH => ?_; clear hK K
      have HD : Hid (Ar (V.alloc (.cells #[.int .u64 0, .int .u64 0, .int .u64 0, .int .u64 0, .int .u64 0] 189)) V.heap.size 5 [.int .u64 0, .int .u64 0, .int .u64 0, .int .u64 0, .int .u64 0]) := ar_box V [.int .u64 0, .int .u64 0, .int .u64 0, .int .u64 0, .int .u64 0] 5 rfl 189
      generalize V.alloc (.cells #[.int .u64 0, .int .u64 0, .int .u64 0, .int .u64 0, .int .u64 0] 189) = yg14 at *
      generalize V.heap.size = b5 at *
      obtain ⟨cz0, fz0⟩ := HD.out.cell 0 (by decide)
      obtain ⟨cz1, fz1⟩ := HD.out.cell 1 (by decide)
      obtain ⟨cz2, fz2⟩ := HD.out.cell 2 (by decide)
      obtain ⟨cz3, fz3⟩ := HD.out.cell 3 (by decide)
      obtain ⟨cz4, fz4⟩ := HD.out.cell 4 (by decide)
      simp only [List.getElem_cons_zero, List.getElem_cons_succ] at cz0 cz1 cz2 cz3 cz4
      refine rdy 8 (fun K hK => ?_)
      go_simp
      refine ko hK (((((hH.setCell (p := ⟨b5, 0, none⟩) hb5 _).setCell (p := ⟨b5, 1, none⟩) hb5 _).setCell (p := ⟨b5, 2, none⟩) hb5 _).setCell (p := ⟨b5, 3, none⟩) hb5 _).setCell (p := ⟨b5, 4, none⟩) hb5 _) fun hH => ?_; clear hK K
      refine wpAnyH_done (by kernel_rfl) ?_ _
      refine NoPanic.normal ?_
      go_wp2_with fail
      go_meet
      case rel => exact ⟨b5, r0, r1, r2, r3, r4, rfl, g0, g1, g2, g3, g4, HVr, Ar.all_set (cs := [.int .u64 r0, .int .u64 r1, .int .u64 r2, .int .u64 r3, .int .u64 r4]) HD.out.all rfl, hb5, hH⟩
    case sg10 =>
     go_simp
     have hb5 : W.heap.size ≤ y0.heap.size := hH.size
     refine ko hK (hH.trans (bel1 _ _)) fun hH => ?_; clear hK K
     have HD : Hid (Ar (y0.alloc (.cells #[.int .u64 0, .int .u64 0, .int .u64 0, .int .u64 0, .int .u64 0] 189)) y0.heap.size 5 [.int .u64 0, .int .u64 0, .int .u64 0, .int .u64 0, .int .u64 0]) := ar_box y0 [.int .u64 0, .int .u64 0, .int .u64 0, .int .u64 0, .int .u64 0] 5 rfl 189
     generalize y0.alloc (.cells #[.int .u64 0, .int .u64 0, .int .u64 0, .int .u64 0, .int .u64 0] 189) = yg17 at *
     generalize y0.heap.size = b5 at *
     refine wpAnyH_ready (rs := [6]) (by kernel_rfl) (by simp) ?_
     refine AllReadyH.cons (o := ?og18) ?hg18 (fun K hK => ?sg18) (AllReadyH.nil)
     case hg18 => simp only [List.getElem?_toArray]; rfl
     case sg18 =>
      go_simp
      refine (parted_c rx ry 0 Wrx Wry (by decide) _).mono ?_
      rintro e V ⟨r0, r1, r2, r3, r4, rfl, g0, g1, g2, g3, g4, HV, hb⟩
      refine ko hK (hH.trans hb) fun hH => ?_; clear hK K
      have HVr : Hid (lv r0 r1 r2 r3 r4 = cl5 key) := by have := HV.out; rw [HRX.out, HRY.out] at this; unfold Hid; rw [this]; unfold cl5; omega
      replace HD := hidp (HD.out.later hb)
      clear hb HV
      obtain ⟨cz0, fz0⟩ := HD.out.cell 0 (by decide)
      obtain ⟨cz1, fz1⟩ := HD.out.cell 1 (by decide)
      obtain ⟨cz2, fz2⟩ := HD.out.cell 2 (by decide)
      obtain ⟨cz3, fz3⟩ := HD.out.cell 3 (by decide)
      obtain ⟨cz4, fz4⟩ := HD.out.cell 4 (by decide)
      simp only [List.getElem_cons_zero, List.getElem_cons_succ] at cz0 cz1 cz2 cz3 cz4
      refine rdy 8 (fun K hK => ?_)
      go_simp
      refine ko hK (((((hH.setCell (p := ⟨b5, 0, none⟩) hb5 _).setCell (p := ⟨b5, 1, none⟩) hb5 _).setCell (p := ⟨b5, 2, none⟩) hb5 _).setCell (p := ⟨b5, 3, none⟩) hb5 _).setCell (p := ⟨b5, 4, none⟩) hb5 _) fun hH => ?_; clear hK K
      refine wpAnyH_done (by kernel_rfl) ?_ _
      refine NoPanic.normal ?_
      go_wp2_with fail
      go_meet
      case rel => exact ⟨b5, r0, r1, r2, r3, r4, rfl, g0, g1, g2, g3, g4, HVr, Ar.all_set (cs := [.int .u64 r0, .int .u64 r1, .int .u64 r2, .int .u64 r3, .int .u64 r4]) HD.out.all rfl, hb5, hH⟩
   case sg6 =>
    go_simp
    have hb5 : W.heap.size ≤ y0.heap.size := hH.size
    refine ko hK (hH.trans (bel1 _ _)) fun hH => ?_; clear hK K
    have HD : Hid (Ar (y0.alloc (.cells #[.int .u64 0, .int .u64 0, .int .u64 0, .int .u64 0, .int .u64 0] 189)) y0.heap.size 5 [.int .u64 0, .int .u64 0, .int .u64 0, .int .u64 0, .int .u64 0]) := ar_box y0 [.int .u64 0, .int .u64 0, .int .u64 0, .int .u64 0, .int .u64 0] 5 rfl 189
    generalize y0.alloc (.cells #[.int .u64 0, .int .u64 0, .int .u64 0, .int .u64 0, .int .u64 0] 189) = yg22 at *
    generalize y0.heap.size = b5 at *
    refine wpAnyH_ready (rs := [4]) (by kernel_rfl) (by simp) ?_
    refine AllReadyH.cons (o := ?og23) ?hg23 (fun K hK => ?sg23) (AllReadyH.nil)
    case hg23 => simp only [List.getElem?_toArray]; rfl
    case sg23 =>
     go_simp
     refine (word_c (some ⟨w.heap.size, 8, none⟩) 24 24 (key.drop 8) _ ((AK.out.later hH).rdFrom HK.out.byt 8 (by decide)) (by decide) (by decide)).mono ?_
     rintro e w' ⟨y, rfl, Hy, Wy, hw⟩
     rw [hw]
     clear hw w'
     refine ko hK hH fun hH => ?_; clear hK K
     obtain ⟨ry, hry⟩ : ∃ z, bits .and .u64 y 1152921487695413244 = z := ⟨_, rfl⟩
     have HRY : Hid (ry = bits .and .u64 (leN ((key.drop 8).take 8)) 1152921487695413244) := by unfold Hid; rw [← hry, Hy.out]
     have Wry : Wq ry := by rw [← hry]; exact kept_w Wy _ (by decide) (by decide)
     refine tn 5 ?_
     clear hry Hy Wy
     refine wpAnyH_ready (rs := [6]) (by kernel_rfl) (by simp) ?_
     refine AllReadyH.cons (o := ?og26) ?hg26 (fun K hK => ?sg26) (AllReadyH.nil)
     case hg26 => simp only [List.getElem?_toArray]; rfl
     case sg26 =>
      go_simp
      refine (parted_c rx ry 0 Wrx Wry (by decide) _).mono ?_
      rintro e V ⟨r0, r1, r2, r3, r4, rfl, g0, g1, g2, g3, g4, HV, hb⟩
      refine ko hK (hH.trans hb) fun hH => ?_; clear hK K
      have HVr : Hid (lv r0 r1 r2 r3 r4 = cl5 key) := by have := HV.out; rw [HRX.out, HRY.out] at this; unfold Hid; rw [this]; unfold cl5; omega
      replace HD := hidp (HD.out.later hb)
      clear hb HV
      obtain ⟨cz0, fz0⟩ := HD.out.cell 0 (by decide)
      obtain ⟨cz1, fz1⟩ := HD.out.cell 1 (by decide)
      obtain ⟨cz2, fz2⟩ := HD.out.cell 2 (by decide)
      obtain ⟨cz3, fz3⟩ := HD.out.cell 3 (by decide)
      obtain ⟨cz4, fz4⟩ := HD.out.cell 4 (by decide)
      simp only [List.getElem_cons_zero, List.getElem_cons_succ] at cz0 cz1 cz2 cz3 cz4
      refine rdy 8 (fun K hK => ?_)
      go_simp
      refine ko hK (((((hH.setCell (p := ⟨b5, 0, none⟩) hb5 _).setCell (p := ⟨b5, 1, none⟩) hb5 _).setCell (p := ⟨b5, 2, none⟩) hb5 _).setCell (p := ⟨b5, 3, none⟩) hb5 _).setCell (p := ⟨b5, 4, none⟩) hb5 _) fun hH => ?_; clear hK K
      refine wpAnyH_done (by kernel_rfl) ?_ _
      refine NoPanic.normal ?_
      go_wp2_with fail
      go_meet
      case rel => exact ⟨b5, r0, r1, r2, r3, r4, rfl, g0, g1, g2, g3, g4, HVr, Ar.all_set (cs := [.int .u64 r0, .int .u64 r1, .int .u64 r2, .int .u64 r3, .int .u64 r4]) HD.out.all rfl, hb5, hH⟩
  case sg2 =>
   go_simp
   have hb5 : W.heap.size ≤ y0.heap.size := hH.size
   refine ko hK (hH.trans (bel1 _ _)) fun hH => ?_; clear hK K
   have HD : Hid (Ar (y0.alloc (.cells #[.int .u64 0, .int .u64 0, .int .u64 0, .int .u64 0, .int .u64 0] 189)) y0.heap.size 5 [.int .u64 0, .int .u64 0, .int .u64 0, .int .u64 0, .int .u64 0]) := ar_box y0 [.int .u64 0, .int .u64 0, .int .u64 0, .int .u64 0, .int .u64 0] 5 rfl 189
   generalize y0.alloc (.cells #[.int .u64 0, .int .u64 0, .int .u64 0, .int .u64 0, .int .u64 0] 189) = yg30 at *
   generalize y0.heap.size = b5 at *
   refine wpAnyH_ready (rs := [1]) (by kernel_rfl) (by simp) ?_
   refine AllReadyH.cons (o := ?og31) ?hg31 (fun K hK => ?sg31) (AllReadyH.nil)
   case hg31 => simp only [List.getElem?_toArray]; rfl
   case sg31 =>
    go_simp
    refine (word_c (some ⟨w.heap.size, 0, none⟩) 32 32 key _ ((AK.out.later hH).rd_all HK.out.byt 32 (by decide)) (by decide) (by decide)).mono ?_
    rintro e w' ⟨x, rfl, Hx, Wx, hw⟩
    rw [hw]
    clear hw w'
    refine ko hK hH fun hH => ?_; clear hK K
    obtain ⟨rx, hrx⟩ : ∃ z, bits .and .u64 x 1152921487695413247 = z := ⟨_, rfl⟩
    have HRX : Hid (rx = bits .and .u64 (leN (key.take 8)) 1152921487695413247) := by unfold Hid; rw [← hrx, Hx.out]
    have Wrx : Wq rx := by rw [← hrx]; exact kept_w Wx _ (by decide) (by decide)
    refine tn 2 ?_
    clear hrx Hx Wx
    refine wpAnyH_ready (rs := [4]) (by kernel_rfl) (by simp) ?_
    refine AllReadyH.cons (o := ?og34) ?hg34 (fun K hK => ?sg34) (AllReadyH.nil)
    case hg34 => simp only [List.getElem?_toArray]; rfl
    case sg34 =>
     go_simp
     refine (word_c (some ⟨w.heap.size, 8, none⟩) 24 24 (key.drop 8) _ ((AK.out.later hH).rdFrom HK.out.byt 8 (by decide)) (by decide) (by decide)).mono ?_
     rintro e w' ⟨y, rfl, Hy, Wy, hw⟩
     rw [hw]
     clear hw w'
     refine ko hK hH fun hH => ?_; clear hK K
     obtain ⟨ry, hry⟩ : ∃ z, bits .and .u64 y 1152921487695413244 = z := ⟨_, rfl⟩
     have HRY : Hid (ry = bits .and .u64 (leN ((key.drop 8).take 8)) 1152921487695413244) := by unfold Hid; rw [← hry, Hy.out]
     have Wry : Wq ry := by rw [← hry]; exact kept_w Wy _ (by decide) (by decide)
     refine tn 5 ?_
     clear hry Hy Wy
     refine wpAnyH_ready (rs := [6]) (by kernel_rfl) (by simp) ?_
     refine AllReadyH.cons (o := ?og37) ?hg37 (fun K hK => ?sg37) (AllReadyH.nil)
     case hg37 => simp only [List.getElem?_toArray]; rfl
     case sg37 =>
      go_simp
      refine (parted_c rx ry 0 Wrx Wry (by decide) _).mono ?_
      rintro e V ⟨r0, r1, r2, r3, r4, rfl, g0, g1, g2, g3, g4, HV, hb⟩
      refine ko hK (hH.trans hb) fun hH => ?_; clear hK K
      have HVr : Hid (lv r0 r1 r2 r3 r4 = cl5 key) := by have := HV.out; rw [HRX.out, HRY.out] at this; unfold Hid; rw [this]; unfold cl5; omega
      replace HD := hidp (HD.out.later hb)
      clear hb HV
      obtain ⟨cz0, fz0⟩ := HD.out.cell 0 (by decide)
      obtain ⟨cz1, fz1⟩ := HD.out.cell 1 (by decide)
      obtain ⟨cz2, fz2⟩ := HD.out.cell 2 (by decide)
      obtain ⟨cz3, fz3⟩ := HD.out.cell 3 (by decide)
      obtain ⟨cz4, fz4⟩ := HD.out.cell 4 (by decide)
      simp only [List.getElem_cons_zero, List.getElem_cons_succ] at cz0 cz1 cz2 cz3 cz4
      refine rdy 8 (fun K hK => ?_)
      go_simp
      refine ko hK (((((hH.setCell (p := ⟨b5, 0, none⟩) hb5 _).setCell (p := ⟨b5, 1, none⟩) hb5 _).setCell (p := ⟨b5, 2, none⟩) hb5 _).setCell (p := ⟨b5, 3, none⟩) hb5 _).setCell (p := ⟨b5, 4, none⟩) hb5 _) fun hH => ?_; clear hK K
      refine wpAnyH_done (by kernel_rfl) ?_ _
      refine NoPanic.normal ?_
      go_wp2_with fail
      go_meet
      case rel => exact ⟨b5, r0, r1, r2, r3, r4, rfl, g0, g1, g2, g3, g4, HVr, Ar.all_set (cs := [.int .u64 r0, .int .u64 r1, .int .u64 r2, .int .u64 r3, .int .u64 r4]) HD.out.all rfl, hb5, hH⟩
 case rest =>
  obtain ⟨b5, r0, r1, r2, r3, r4, rfl, g0, g1, g2, g3, g4, HVr, A5, hb5, HE⟩ := hcut
  replace AK := hidp (AK.out.later HE.out)
  replace AQ : Hid (wc.there q1 0 16) := there_later HE.out AQ.out
  replace HB := hidp (HB.out.trans (HE.out.mono HB.out.size))
  have hb5' : b5 < wc.heap.size := A5.out.lt (by decide)
  have hq5 : q1 < b5 := by omega
  clear HE hb5 hq1
  go_wp2_with fail
  replace AK : Hid (Ar (wc.alloc (.cells #[.int .u64 0, .int .u64 0, .int .u64 0, .int .u64 0, .int .u64 0] 189)) w.heap.size 32 (List.map (Value.int .u8) key)) := AK.out.later (bel1 _ _)
  replace AQ : Hid ((wc.alloc (.cells #[.int .u64 0, .int .u64 0, .int .u64 0, .int .u64 0, .int .u64 0] 189)).there q1 0 16) := there_later (bel1 _ _) AQ.out
  replace A5 : Hid (Ar (wc.alloc (.cells #[.int .u64 0, .int .u64 0, .int .u64 0, .int .u64 0, .int .u64 0] 189)) b5 5 [.int .u64 r0, .int .u64 r1, .int .u64 r2, .int .u64 r3, .int .u64 r4]) := A5.out.later (bel1 _ _)
  have A6 : Hid (Ar (wc.alloc (.cells #[.int .u64 0, .int .u64 0, .int .u64 0, .int .u64 0, .int .u64 0] 189)) wc.heap.size 5 [.int .u64 0, .int .u64 0, .int .u64 0, .int .u64 0, .int .u64 0]) := ar_box wc [.int .u64 0, .int .u64 0, .int .u64 0, .int .u64 0, .int .u64 0] 5 rfl 189
  replace HB : Hid (Below w.heap.size w (wc.alloc (.cells #[.int .u64 0, .int .u64 0, .int .u64 0, .int .u64 0, .int .u64 0] 189))) := HB.out.alloc HB.out.size _
  generalize wc.alloc (.cells #[.int .u64 0, .int .u64 0, .int .u64 0, .int .u64 0, .int .u64 0] 189) = W6 at *
  generalize wc.heap.size = b6 at *
  have HT : Hid (Tm w q1 b5 key r0 r1 r2 r3 r4 W6) := ⟨AK.out, AQ.out, A5.out, HB.out⟩
  clear AK AQ A5 HB
  have hqw : w.heap.size < q1 := k1
  clear k1
  obtain ⟨RR, HRR⟩ : ∃ R, Hid (R = po (cl5 key) text.length 0 text) := ⟨_, rfl⟩
  go_loopw [1] (fun tv wr => ∃ (ad' : Option Addr) (n c : Nat) (t' : List Int) (N : Nat) (a0 a1 a2 a3 a4 : Int), tv = .slice ad' n c ∧ n ≤ 281474976710656 ∧ Hid (Rd w ad' n c t') ∧ Hid (n ≤ N) ∧ (0 ≤ a0 ∧ a0 < 67108864) ∧ (0 ≤ a1 ∧ a1 < 67112960) ∧ (0 ≤ a2 ∧ a2 < 67108864) ∧ (0 ≤ a3 ∧ a3 < 67108864) ∧ (0 ≤ a4 ∧ a4 < 67108864) ∧ Hid (po (cl5 key) N (lv a0 a1 a2 a3 a4 % 1361129467683753853853498429727072845819) t' = RR) ∧ Hid (Ar wr b6 5 [.int .u64 a0, .int .u64 a1, .int .u64 a2, .int .u64 a3, .int .u64 a4]) ∧ Hid (Tm w q1 b5 key r0 r1 r2 r3 r4 wr)) (fun tv _ => slen tv)
  case atStart => exact ⟨ad, len, cap, text, len, 0, 0, 0, 0, 0, rfl, hm, HR, Nat.le_refl _, by decide, by decide, by decide, by decide, by decide, by rw [HRR.out, HR.out.hlen]; rfl, A6, HT⟩
  case round =>
   clear A6 HT
   obtain ⟨ad', n, c, t', N, a0, a1, a2, a3, a4, rfl, hn, HRt, HN, h0, h1, h2, h3, h4, HPo, A6, HT⟩ := hrel
   by_cases hlt : 0 < n
   ·have gn : (0 : Int) < n := by omega
    obtain ⟨b, off, rfl, -⟩ := HRt.out.cell hlt
    have hnc : n ≤ c := HRt.out.hle
    go_upto_region 4 with fail
    go_cut [7] from 19 to 37 (fun bv wx => ∃ k : Nat, bv = .slice (some ⟨b, off, none⟩) k c ∧ Hid (k = min n 16) ∧ wx = wr)
    case first =>
     by_cases h16 : n ≤ 16
     ·have h16' : (n : Int) ≤ 16 := by omega
      have g5 : (n : Int).toNat = n := by omega
      go_wp2_with fail
      go_meet
      exact ⟨n, rfl, by unfold Hid; omega, rfl⟩
     ·have h16' : (16 : Int) < n := by omega
      have g6 : (16 : Int) ≤ n := by omega
      have g7 : (16 : Int) ≤ c := by omega
      go_wp2_with fail
      go_meet
      exact ⟨16, rfl, by unfold Hid; omega, rfl⟩
    case rest =>
     obtain ⟨k, rfl, HKm, hwc⟩ := hcut
     rw [hwc]
     clear hwc wc
     have hk1 : 1 ≤ k := by have := HKm.out; omega
     have hk16 : k ≤ 16 := by have := HKm.out; omega
     have hkn : k ≤ n := by have := HKm.out; omega
     go_upto_region 5 with fail
     go_cut [] from 19 to 37 (fun wx => ∃ c0 c1 c2 c3 c4 : Int, (0 ≤ c0 ∧ c0 < 67108864) ∧ (0 ≤ c1 ∧ c1 < 67112960) ∧ (0 ≤ c2 ∧ c2 < 67108864) ∧ (0 ≤ c3 ∧ c3 < 67108864) ∧ (0 ≤ c4 ∧ c4 < 67108864) ∧ Hid (lv c0 c1 c2 c3 c4 % 1361129467683753853853498429727072845819 = (lv a0 a1 a2 a3 a4 + (leN (t'.take k) + 256 ^ k)) * lv r0 r1 r2 r3 r4 % 1361129467683753853853498429727072845819) ∧ Hid (Ar wx b6 5 [.int .u64 c0, .int .u64 c1, .int .u64 c2, .int .u64 c3, .int .u64 c4]) ∧ Hid (Tm w q1 b5 key r0 r1 r2 r3 r4 wx))
     case first =>
      obtain ⟨x0, -⟩ := HT.out.a5.cell 0 (by decide)
      obtain ⟨x1, -⟩ := HT.out.a5.cell 1 (by decide)
      obtain ⟨x2, -⟩ := HT.out.a5.cell 2 (by decide)
      obtain ⟨x3, -⟩ := HT.out.a5.cell 3 (by decide)
      obtain ⟨x4, -⟩ := HT.out.a5.cell 4 (by decide)
      simp only [List.getElem_cons_zero, List.getElem_cons_succ] at x0 x1 x2 x3 x4
      have ur0 : ∀ u, ExtB b6 wr u → u.cell? ⟨b5, 0, none⟩ = some (.int .u64 r0) := fun u hu => hu.cell (by omega) x0
      have ur1 : ∀ u, ExtB b6 wr u → u.cell? ⟨b5, 1, none⟩ = some (.int .u64 r1) := fun u hu => hu.cell (by omega) x1
      have ur2 : ∀ u, ExtB b6 wr u → u.cell? ⟨b5, 2, none⟩ = some (.int .u64 r2) := fun u hu => hu.cell (by omega) x2
      have ur3 : ∀ u, ExtB b6 wr u → u.cell? ⟨b5, 3, none⟩ = some (.int .u64 r3) := fun u hu => hu.cell (by omega) x3
      have ur4 : ∀ u, ExtB b6 wr u → u.cell? ⟨b5, 4, none⟩ = some (.int .u64 r4) := fun u hu => hu.cell (by omega) x4
      clear x0 x1 x2 x3 x4
      refine wp_region_noPanic ?_
      refine wp_region_held_drew (S := ExtB b6 wr) (by kernel_rfl) (ExtB.refl _ _).drew (fun hH => ?_)
      change wpAnyH _ _ _ _ _ _ #[false, false, false, false, false, false, false, false] _ _
      refine tn 1 ?_
      refine tn 4 ?_
      clear ur0 ur1 ur2 ur3 ur4
      replace A6 := hidp (A6.out.drew)
      replace HT : Hid (Tm w q1 b5 key r0 r1 r2 r3 r4 wr.drew) := HT.out.later (Below.refl _ _).drew
      generalize wr.drew = y0 at *
      refine rdy2 0 2 (fun K hK => ?sg41) (fun K hK => ?sg42)
      case sg41 =>
       obtain ⟨x0, -⟩ := A6.out.cell 0 (by decide)
       obtain ⟨x1, -⟩ := A6.out.cell 1 (by decide)
       obtain ⟨x2, -⟩ := A6.out.cell 2 (by decide)
       obtain ⟨x3, -⟩ := A6.out.cell 3 (by decide)
       obtain ⟨x4, -⟩ := A6.out.cell 4 (by decide)
       simp only [List.getElem_cons_zero, List.getElem_cons_succ] at x0 x1 x2 x3 x4
       go_simp
       refine ko hK hH fun hH => ?_; clear hK K
       clear x0 x1 x2 x3 x4
       refine rdy 2 (fun K hK => ?_)
       go_simp
       refine (marked_c b off k c (t'.take k) _ (((HRt.out.cut k hkn).below HT.out.bel)) hk1 hk16).mono ?_
       rintro e V ⟨m0, m1, m2, m3, m4, rfl, e0, e1, e2, e3, e4, HM, hb⟩
       refine ko hK (hH.trans hb) fun hH => ?_; clear hK K
       replace A6 := hidp (A6.out.later hb)
       replace HT := hidp (HT.out.later hb)
       clear hb
       refine rdy 3 (fun K hK => ?_)
       go_simp
       refine (psum_c a0 a1 a2 a3 a4 m0 m1 m2 m3 m4 (by omega) (by omega) (by omega) (by omega) (by omega) (by omega) (by omega) (by omega) (by omega) (by omega) _).mono ?_
       rintro e V1 ⟨rfl, hb⟩
       refine ko hK (hH.trans hb) fun hH => ?_; clear hK K
       replace A6 := hidp (A6.out.later hb)
       replace HT := hidp (HT.out.later hb)
       clear hb
       refine rdy 5 (fun K hK => ?_)
       go_simp
       refine (product_c (a0 + m0) (a1 + m1) (a2 + m2) (a3 + m3) (a4 + m4) r0 r1 r2 r3 r4 (by omega) (by omega) (by omega) (by omega) (by omega) g0 g1 g2 g3 g4 _).mono ?_
       rintro e V2 ⟨p0, p1, p2, p3, p4, rfl, f0, f1, f2, f3, f4, HP, hb⟩
       refine ko hK (hH.trans hb) fun hH => ?_; clear hK K
       replace A6 := hidp (A6.out.later hb)
       replace HT := hidp (HT.out.later hb)
       clear hb
       refine rdy 6 (fun K hK => ?_)
       go_simp
       refine (carried_c p0 p1 p2 p3 p4 f0 f1 f2 f3 f4 _).mono ?_
       rintro e V3 ⟨c0, c1, c2, c3, c4, rfl, HC, hb⟩
       refine ko hK (hH.trans hb) fun hH => ?_; clear hK K
       replace A6 := hidp (A6.out.later hb)
       replace HT := hidp (HT.out.later hb)
       clear hb
       obtain ⟨x0, y0⟩ := A6.out.cell 0 (by decide)
       obtain ⟨x1, y1⟩ := A6.out.cell 1 (by decide)
       obtain ⟨x2, y2⟩ := A6.out.cell 2 (by decide)
       obtain ⟨x3, y3⟩ := A6.out.cell 3 (by decide)
       obtain ⟨x4, y4⟩ := A6.out.cell 4 (by decide)
       simp only [List.getElem_cons_zero, List.getElem_cons_succ] at x0 x1 x2 x3 x4
       refine rdy 7 (fun K hK => ?_)
       go_simp
       refine ko hK (((((hH.set 0 _).set 1 _).set 2 _).set 3 _).set 4 _) fun hH => ?_; clear hK K
       refine wpAnyH_done (by kernel_rfl) ?_ _
       refine NoPanic.normal ?_
       obtain ⟨d0, d1, d2, d3, d4⟩ := HC.out.bound f0 f1 f2 f3 f4
       go_wp2_with fail
       go_meet
       case rel => exact ⟨c0, c1, c2, c3, c4, d0, d1, d2, d3, d4, by have h1 := HC.out.same; rw [HP.out, lv_add, HM.out] at h1; exact h1, Ar.all_set (cs := [.int .u64 c0, .int .u64 c1, .int .u64 c2, .int .u64 c3, .int .u64 c4]) A6.out.all rfl, HT.out.cells b6 0 [.int .u64 c0, .int .u64 c1, .int .u64 c2, .int .u64 c3, .int .u64 c4] (by omega) (by omega) (by omega) (by omega)⟩
      case sg42 =>
       go_simp
       refine (marked_c b off k c (t'.take k) _ (((HRt.out.cut k hkn).below HT.out.bel)) hk1 hk16).mono ?_
       rintro e V ⟨m0, m1, m2, m3, m4, rfl, e0, e1, e2, e3, e4, HM, hb⟩
       refine ko hK (hH.trans hb) fun hH => ?_; clear hK K
       replace A6 := hidp (A6.out.later hb)
       replace HT := hidp (HT.out.later hb)
       clear hb
       obtain ⟨x0, -⟩ := A6.out.cell 0 (by decide)
       obtain ⟨x1, -⟩ := A6.out.cell 1 (by decide)
       obtain ⟨x2, -⟩ := A6.out.cell 2 (by decide)
       obtain ⟨x3, -⟩ := A6.out.cell 3 (by decide)
       obtain ⟨x4, -⟩ := A6.out.cell 4 (by decide)
       simp only [List.getElem_cons_zero, List.getElem_cons_succ] at x0 x1 x2 x3 x4
       refine rdy 0 (fun K hK => ?_)
       go_simp
       refine ko hK hH fun hH => ?_; clear hK K
       clear x0 x1 x2 x3 x4
       refine rdy 3 (fun K hK => ?_)
       go_simp
       refine (psum_c a0 a1 a2 a3 a4 m0 m1 m2 m3 m4 (by omega) (by omega) (by omega) (by omega) (by omega) (by omega) (by omega) (by omega) (by omega) (by omega) _).mono ?_
       rintro e V1 ⟨rfl, hb⟩
       refine ko hK (hH.trans hb) fun hH => ?_; clear hK K
       replace A6 := hidp (A6.out.later hb)
       replace HT := hidp (HT.out.later hb)
       clear hb
       refine rdy 5 (fun K hK => ?_)
       go_simp
       refine (product_c (a0 + m0) (a1 + m1) (a2 + m2) (a3 + m3) (a4 + m4) r0 r1 r2 r3 r4 (by omega) (by omega) (by omega) (by omega) (by omega) g0 g1 g2 g3 g4 _).mono ?_
       rintro e V2 ⟨p0, p1, p2, p3, p4, rfl, f0, f1, f2, f3, f4, HP, hb⟩
       refine ko hK (hH.trans hb) fun hH => ?_; clear hK K
       replace A6 := hidp (A6.out.later hb)
       replace HT := hidp (HT.out.later hb)
       clear hb
       refine rdy 6 (fun K hK => ?_)
       go_simp
       refine (carried_c p0 p1 p2 p3 p4 f0 f1 f2 f3 f4 _).mono ?_
       rintro e V3 ⟨c0, c1, c2, c3, c4, rfl, HC, hb⟩
       refine ko hK (hH.trans hb) fun hH => ?_; clear hK K
       replace A6 := hidp (A6.out.later hb)
       replace HT := hidp (HT.out.later hb)
       clear hb
       obtain ⟨x0, y0⟩ := A6.out.cell 0 (by decide)
       obtain ⟨x1, y1⟩ := A6.out.cell 1 (by decide)
       obtain ⟨x2, y2⟩ := A6.out.cell 2 (by decide)
       obtain ⟨x3, y3⟩ := A6.out.cell 3 (by decide)
       obtain ⟨x4, y4⟩ := A6.out.cell 4 (by decide)
       simp only [List.getElem_cons_zero, List.getElem_cons_succ] at x0 x1 x2 x3 x4
       refine rdy 7 (fun K hK => ?_)
       go_simp
       refine ko hK (((((hH.set 0 _).set 1 _).set 2 _).set 3 _).set 4 _) fun hH => ?_; clear hK K
       refine wpAnyH_done (by kernel_rfl) ?_ _
       refine NoPanic.normal ?_
       obtain ⟨d0, d1, d2, d3, d4⟩ := HC.out.bound f0 f1 f2 f3 f4
       go_wp2_with fail
       go_meet
       case rel => exact ⟨c0, c1, c2, c3, c4, d0, d1, d2, d3, d4, by have h1 := HC.out.same; rw [HP.out, lv_add, HM.out] at h1; exact h1, Ar.all_set (cs := [.int .u64 c0, .int .u64 c1, .int .u64 c2, .int .u64 c3, .int .u64 c4]) A6.out.all rfl, HT.out.cells b6 0 [.int .u64 c0, .int .u64 c1, .int .u64 c2, .int .u64 c3, .int .u64 c4] (by omega) (by omega) (by omega) (by omega)⟩
     case rest =>
      clear A6 HT
      obtain ⟨c0, c1, c2, c3, c4, d0, d1, d2, d3, d4, HL, A6, HT⟩ := hcut
      obtain ⟨a7, ha7⟩ : ∃ a, (if c = k then some (⟨b, off, none⟩ : Addr) else some ⟨b, off + k, none⟩) = a := ⟨_, rfl⟩
      have HRn : Hid (Rd w a7 (n - k) (c - k) (t'.drop k)) := by unfold Hid; rw [← ha7]; exact rest_rd HRt.out k hkn
      have g5 : (k : Int).toNat = k := by omega
      have g6 : (k : Int) ≤ n := by omega
      have g7 : (k : Int) ≤ c := by omega
      have HPn : Hid (∃ N', n - k ≤ N' ∧ po (cl5 key) N' (lv c0 c1 c2 c3 c4 % 1361129467683753853853498429727072845819) (t'.drop k) = RR) := by
       have hN := HN.out
       obtain ⟨N', rfl⟩ : ∃ N', N = N' + 1 := ⟨N - 1, by omega⟩
       refine ⟨N', by omega, ?_⟩
       have hp := HPo.out
       have htl := HRt.out.hlen
       rw [po_step _ _ _ _ (by omega), htl] at hp
       have hk := HKm.out
       rw [HL.out, HVr.out, ← em_step]
       by_cases h : n ≤ 16
       ·rw [Nat.min_eq_left h] at hk hp
        rw [List.take_of_length_le (by omega), List.drop_eq_nil_of_le (by omega), po_nil] at hp
        rw [hk, List.take_of_length_le (by omega), List.drop_eq_nil_of_le (by omega), po_nil]
        exact hp
       ·rw [Nat.min_eq_right (by omega)] at hk hp
        rw [hk]
        exact hp
      obtain ⟨N', hN', hp'⟩ := HPn.out
      have HN' : Hid (n - k ≤ N') := hN'
      have HP' : Hid (po (cl5 key) N' (lv c0 c1 c2 c3 c4 % 1361129467683753853853498429727072845819) (t'.drop k) = RR) := hp'
      clear HPn hN' hp' HPo HN HL
      go_wp2
      go_roundw
      case rel => exact ⟨a7, n - k, c - k, t'.drop k, N', c0, c1, c2, c3, c4, by go_num, by omega, HRn, HN', d0, d1, d2, d3, d4, HP', A6, HT⟩
      case measure => simp [slen]; omega
   ·have e : n = 0 := by omega
    subst e
    have HV : Hid (RR = lv a0 a1 a2 a3 a4 % 1361129467683753853853498429727072845819) := by
     have hp := HPo.out
     have ht : t' = [] := List.eq_nil_of_length_eq_zero HRt.out.hlen
     rw [ht, po_nil] at hp
     exact hp.symm
    clear HPo HRt HN
    obtain ⟨x0, -⟩ := A6.out.cell 0 (by decide)
    obtain ⟨x1, -⟩ := A6.out.cell 1 (by decide)
    obtain ⟨x2, -⟩ := A6.out.cell 2 (by decide)
    obtain ⟨x3, -⟩ := A6.out.cell 3 (by decide)
    obtain ⟨x4, -⟩ := A6.out.cell 4 (by decide)
    simp only [List.getElem_cons_zero, List.getElem_cons_succ] at x0 x1 x2 x3 x4
    go_wp2_with fail
    refine (lowest_c a0 a1 a2 a3 a4 h0 h1 h2 h3 h4 _).mono ?_
    rintro e V ⟨lo, hi, rfl, Wlo, Whi, HLo, hb⟩
    clear x0 x1 x2 x3 x4
    replace HT := hidp (HT.out.later hb)
    clear hb A6
    go_wp2_with fail
    refine (word_c (some ⟨w.heap.size, 16, none⟩) 16 16 (key.drop 16) _ (HT.out.ak.rdFrom HK.out.byt 16 (by decide)) (by decide) (by decide)).mono ?_
    rintro e w' ⟨s0, rfl, Hs0, Ws0, hw⟩
    rw [hw]
    clear hw w'
    obtain ⟨L, hL⟩ : ∃ z, (lo + s0 + 0) % 18446744073709551616 = z := ⟨_, rfl⟩
    obtain ⟨C, hC⟩ : ∃ z, (lo + s0 + 0) / 18446744073709551616 = z := ⟨_, rfl⟩
    have hadd := fun u => padd64 lo s0 0 Wlo.1 Ws0.1 (by decide) (by decide) u
    rw [hL, hC] at hadd
    have WL : Wq L := ⟨by omega, by omega⟩
    have hC0 : 0 ≤ C ∧ C ≤ 1 := by have h1 := Wlo.1; have h2 := Wlo.2; have h3 := Ws0.1; have h4 := Ws0.2; omega
    have HLC : Hid (L + C * 18446744073709551616 = lo + s0) := by unfold Hid; omega
    clear hL hC
    go_wp2_with fail
    refine (word_c (some ⟨w.heap.size, 24, none⟩) 8 8 (key.drop 24) _ (HT.out.ak.rdFrom HK.out.byt 24 (by decide)) (by decide) (by decide)).mono ?_
    rintro e w' ⟨s1, rfl, Hs1, Ws1, hw⟩
    rw [hw]
    clear hw w' hadd
    obtain ⟨H, hH0⟩ : ∃ z, (hi + s1 + C) % 18446744073709551616 = z := ⟨_, rfl⟩
    obtain ⟨D, hD0⟩ : ∃ z, (hi + s1 + C) / 18446744073709551616 = z := ⟨_, rfl⟩
    have hadd := fun u => padd64 hi s1 C Whi.1 Ws1.1 hC0.1 hC0.2 u
    rw [hH0, hD0] at hadd
    have WH : Wq H := ⟨by omega, by omega⟩
    have HHD : Hid (H + D * 18446744073709551616 = hi + s1 + C) := by unfold Hid; omega
    clear hH0 hD0
    have HTG : Hid (lay 8 L ++ lay 8 H = tg key text) := by
     unfold Hid tg
     rw [← HRR.out]
     refine (lay16 _ L H WL WH ?_).symm
     have hk16 : (key.drop 16).length = 16 := by rw [List.length_drop, HK.out.len]
     have e16 := leN16 (key.drop 16) hk16
     rw [List.drop_drop, ← Hs0.out, show 16 + 8 = 24 from rfl, ← Hs1.out] at e16
     rw [e16]
     have h1 := HLo.out
     have h2 := HLC.out
     have h3 := HHD.out
     have h4 := HV.out
     rw [← h4] at h1
     have h5 := WL.1
     have h6 := WL.2
     have h7 := WH.1
     have h8 := WH.2
     omega
    clear HLo HLC HHD HV Hs0 Hs1
    go_upto_region 11 with fail
    clear hadd
    have HT' : Hid (Tm w q1 b5 key r0 r1 r2 r3 r4 (V.alloc (.cells zb16 122))) := HT.out.later (bel1 _ _)
    have A11 : Hid (Ar (V.alloc (.cells zb16 122)) V.heap.size 16 (List.map (Value.int .u8) (List.replicate 16 0))) := ar_box V (List.map (Value.int .u8) (List.replicate 16 0)) 16 rfl 122
    have hb11 : w.heap.size ≤ V.heap.size := HT.out.bel.size
    have hq11 : q1 < V.heap.size := there_lt HT.out.aq (by decide)
    have hb5b : b5 ≠ V.heap.size := by have := HT.out.a5.lt (by decide); omega
    clear HT
    have HT := HT'
    clear HT'
    generalize V.alloc (.cells zb16 122) = Y at *
    generalize V.heap.size = b11 at *
    refine wp_region_noPanic ?_
    refine wp_region_held_drew (S := ExtB b11 Y) (by kernel_rfl) (ExtB.refl _ _).drew (fun hH => ?_)
    change wpAnyH _ _ _ _ _ _ #[false, false, false, false] _ _
    refine tn 0 ?_
    refine tn 1 ?_
    refine rdy 2 (fun K hK => ?_)
    go_simp
    refine (put64_g L _ WL).mono ?_
    rintro e Vp ⟨gpp, rfl, HPp, hb⟩
    refine ko hK (hH.trans hb) fun hH => ?_; clear hK K
    replace hb : Below Y.heap.size Y Vp := (Below.refl _ _).drew.trans (hb.mono (Nat.le_refl _))
    replace A11 := hidp (A11.out.later hb)
    replace HT := hidp (HT.out.later hb)
    have hcp := fun ty => copy_c Vp b11 0 16 16 ⟨gpp, 0, none⟩ 8 8 (lay 8 L) HPp.out 8 (by decide) (there_part A11.out.all 0 8 (by decide)) ty
    rw [List.take_of_length_le (by rw [lay_length]; decide)] at hcp
    clear hb
    refine rdy 3 (fun K hK => ?_)
    go_simp
    refine ko hK (extB_setCells _ _ _ hH) fun hH => ?_; clear hK K
    refine wpAnyH_done (by kernel_rfl) ?_ _
    refine NoPanic.normal ?_
    clear hcp
    have A12 : Hid (Ar (Vp.setCells b11 0 (List.map (Value.int .u8) (lay 8 L))) b11 16 (List.map (Value.int .u8) ((List.replicate 16 0).take 0 ++ (lay 8 L ++ (List.replicate 16 0).drop (0 + 8))))) := by
     have := A11.out.part 0 (List.map (Value.int .u8) (lay 8 L)) (by rw [List.length_map, lay_length]; decide)
     rw [List.length_map, lay_length, ← List.map_take, ← List.map_drop, ← List.map_append, ← List.map_append] at this
     exact this
    replace HT : Hid (Tm w q1 b5 key r0 r1 r2 r3 r4 (Vp.setCells b11 0 (List.map (Value.int .u8) (lay 8 L)))) := HT.out.cells b11 0 _ (by omega) (by omega) hb5b (by omega)
    clear A11 hH HPp
    have A11 := A12
    clear A12
    generalize (Vp.setCells b11 0 (List.map (Value.int .u8) (lay 8 L))) = Yp at *
    replace A11 : Hid (Ar Yp b11 16 (List.map (Value.int .u8) (lay 8 L ++ List.replicate 8 0))) := A11
    go_upto_region 12 with fail
    refine wp_region_noPanic ?_
    refine wp_region_held_drew (S := ExtB b11 Yp) (by kernel_rfl) (ExtB.refl _ _).drew (fun hH => ?_)
    change wpAnyH _ _ _ _ _ _ #[false, false, false, false] _ _
    refine tn 0 ?_
    refine tn 1 ?_
    refine rdy 2 (fun K hK => ?_)
    go_simp
    refine (put64_g H _ WH).mono ?_
    rintro e Vq ⟨gpq, rfl, HPq, hb⟩
    refine ko hK (hH.trans hb) fun hH => ?_; clear hK K
    replace hb : Below Yp.heap.size Yp Vq := (Below.refl _ _).drew.trans (hb.mono (Nat.le_refl _))
    replace A11 := hidp (A11.out.later hb)
    replace HT := hidp (HT.out.later hb)
    have hcp := fun ty => copy_c Vq b11 8 8 8 ⟨gpq, 0, none⟩ 8 8 (lay 8 H) HPq.out 8 (by decide) (there_part A11.out.all 8 8 (by decide)) ty
    rw [List.take_of_length_le (by rw [lay_length]; decide)] at hcp
    clear hb
    refine rdy 3 (fun K hK => ?_)
    go_simp
    refine ko hK (extB_setCells _ _ _ hH) fun hH => ?_; clear hK K
    refine wpAnyH_done (by kernel_rfl) ?_ _
    refine NoPanic.normal ?_
    clear hcp
    have A12 : Hid (Ar (Vq.setCells b11 8 (List.map (Value.int .u8) (lay 8 H))) b11 16 (List.map (Value.int .u8) (lay 8 L ++ lay 8 H))) := by
     have := A11.out.part 8 (List.map (Value.int .u8) (lay 8 H)) (by rw [List.length_map, lay_length]; decide)
     rw [List.length_map, lay_length, ← List.map_take, ← List.map_drop, ← List.map_append, ← List.map_append] at this
     have e : ((lay 8 L ++ List.replicate 8 0)).take 8 ++ (lay 8 H ++ ((lay 8 L ++ List.replicate 8 0)).drop (8 + 8)) = (lay 8 L ++ lay 8 H) := by rw [List.take_append_of_le_length (by rw [lay_length]; decide), List.take_of_length_le (by rw [lay_length]; decide), List.drop_eq_nil_of_le (by rw [List.length_append, lay_length]; decide), List.append_nil]
     rw [e] at this
     exact this
    replace HT : Hid (Tm w q1 b5 key r0 r1 r2 r3 r4 (Vq.setCells b11 8 (List.map (Value.int .u8) (lay 8 H)))) := HT.out.cells b11 8 _ (by omega) (by omega) hb5b (by omega)
    clear A11 hH HPq
    have A11 := A12
    clear A12
    generalize (Vq.setCells b11 8 (List.map (Value.int .u8) (lay 8 H))) = Yq at *
    obtain ⟨T, HTT⟩ : ∃ T, Hid (T = tg key text) := ⟨_, rfl⟩
    have HBn : Hid (Bn 16 T) := by unfold Hid; rw [HTT.out, ← HTG.out]; exact ⟨by rw [List.length_append, lay_length, lay_length], (lay_byt _ _).app (lay_byt _ _)⟩
    have HR11 : Hid (Yq.rangeAt b11 0 (List.map (Value.int .u8) T)) := by unfold Hid; rw [HTT.out, ← HTG.out]; exact A11.out.rng
    clear A11 HTG
    obtain ⟨hlen, hone, hi2⟩ := bn16_cells HBn.out
    have hth := HT.out.aq
    generalize hcs : (List.map (Value.int .u8) T) = cs at *
    have HC : Hid ((List.map (Value.int .u8) T) = cs) := hcs
    clear hcs
    go_wp2_with (first
     | (refine wpList_load_mid rfl 122 (.tmp 11) rfl b11 0 rfl cs _ HR11.out Tryz.underlying122 rfl hi2 ?_)
     | (refine wpList_store_mid rfl 122 (.tmp 4) (.tmp 66) rfl q1 0 cs.toArray rfl rfl (by simpa [hlen] using hth) (by simpa using hi2) (all_oneCell_toArray hone) ?_))
    have HR2 : Hid ((Yq.setCells q1 0 cs).rangeAt q1 0 cs) := World.rangeAt_setCells_same _ _ _ _ (by rw [hlen]; exact hth)
    have hld := run_loadVar_mid (P := Tryz.prog) _ _ 0 122 _ _ HR2.out Tryz.underlying122 rfl hi2
    exact bodyPost_ret (v := .agg cs.toArray) (by simp [results, Tryz.results125]; exact hld) rfl ⟨T, by rw [HC.out], HTT, HBn.out, below_setCells _ (by omega) _ _ _ HT.out.bel⟩
end Go.Proofs.YtlnbjehimabaiaaGreatDoor
