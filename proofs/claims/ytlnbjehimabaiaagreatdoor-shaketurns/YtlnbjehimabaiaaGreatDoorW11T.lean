/-
 ShakeTurns' walk. No statement of the seat is proved here.
-/
import Derived.Test.YtlnbjehimabaiaaGreatDoorPk1
import Derived.Test.YtlnbjehimabaiaaGreatDoorPk46
import Derived.Test.YtlnbjehimabaiaaGreatDoorPk35
import Derived.Test.YtlnbjehimabaiaaGreatDoorPk9
namespace Go.Proofs.YtlnbjehimabaiaaGreatDoor
open Go.RowKit
set_option maxRecDepth 8000

/-- Behind so many messages: what is in common, what the first knows of the other, what the other knows of it. -/
def tS (a x b y : List Int) : Nat → S11
 | 0 => s11 []
 | 1 => c0 x [] (s11 [])
 | 2 => c1 x b y [] (c0 x [] (s11 []))
 | _ => c2 a y [] (c1 x b y [] (c0 x [] (s11 [])))
def tA (b y : List Int) : Nat → P11
 | 0 => ⟨z9l, z9l, false⟩
 | 1 => ⟨z9l, z9l, false⟩
 | _ => ⟨pb b, pb y, true⟩
def tP (a x : List Int) : Nat → P11
 | 0 => ⟨z9l, z9l, false⟩
 | 1 => ⟨z9l, pb x, false⟩
 | 2 => ⟨z9l, pb x, false⟩
 | _ => ⟨pb a, pb x, true⟩
set_option maxHeartbeats 4000000 in
theorem shakeTurns_walk (seed : Int) (aB : Option Addr) (lB cB : Nat) (lb : List Bool) (hs : -9223372036854775808 ≤ seed ∧ seed ≤ 9223372036854775807) (w : World) (hb0 : Rb w aB lB lb) (hg : Gs w) :
  Calls Tryz.prog 6 #[.int .i64 seed, .slice aB lB cB] w fun e w' => e = .returned (.bool true) ∧ Below w.heap.size w w' := by
 have HG : Hid (Gs w) := hg
 have HG0 : Hid (Gs w) := hg
 have HBb : Hid (Rb w aB lB lb) := hb0
 clear hg hb0
 go_enter Tryz.func6, Tryz.ntmps6
 go_wp2_with fail
 refine (pick_any seed 1000 hs (by decide) _).mono ?_
 rintro e w' ⟨i0, rfl, p0, p1, hw⟩
 rw [hw]
 clear hw w'
 go_wp2_with fail
 refine (pair_l none 0 0 [] none 0 0 [] i0 (by omega) _ (Rd.nil _ _ _ (fun _ => rfl)) (Rd.nil _ _ _ (fun _ => rfl)) HG.out (by decide) (by decide)).mono ?_
 rintro e V1 ⟨ba, bb, a, x, b, y, rfl, kba, hab, HSB, ZA, ZB, hb⟩
 have kbb : w.heap.size ≤ bb := by omega
 replace HG := hidp (HG.out.later hb)
 have HB : Hid (Below w.heap.size w V1) := hb
 clear hb
 go_wp2_with fail
 refine (known11_any _ HG.out).mono ?_
 rintro e V2 ⟨rfl, hb⟩
 replace HG := hidp (HG.out.later hb)
 replace ZA := hidp (ZA.out.later hb)
 replace ZB := hidp (ZB.out.later hb)
 replace HB := hidp (HB.out.trans (hb.mono HB.out.size))
 clear hb
 clear HG HSB
 go_wp2
 go_loopw [7] (fun iv wr => ∃ k : Nat, iv = .int .i64 k ∧ k ≤ 3 ∧ Hid (Zs wr ba true a x (tS a x b y k) (tA b y k) false (k : Nat)) ∧ Hid (Zs wr bb false b y (tS a x b y k) (tP a x k) false (k : Nat)) ∧ Hid (Below w.heap.size w wr)) (fun iv _ => 3 - (intOf iv).toNat)
 case atStart => exact ⟨0, rfl, by decide, ZA, ZB, HB⟩
 case round =>
  have HXn : Hid (Bn 32 x) := ZA.out.be
  have HAn : Hid (Bn 32 a) := ZA.out.bs
  have HBn : Hid (Bn 32 b) := ZB.out.bs
  have HYn : Hid (Bn 32 y) := ZB.out.be
  clear ZA ZB HB
  obtain ⟨k, rfl, hk3, ZA, ZB, HB⟩ := hrel
  by_cases h3 : k < 3
  ·rcases (show k = 0 ∨ k = 1 ∨ k = 2 by omega) with rfl | rfl | rfl
   ·as_aux_lemma =>
     have ZA : Hid (Zs wr ba true a x (s11 []) ⟨z9l, z9l, false⟩ false (0 : Nat)) := ZA
     have ZB : Hid (Zs wr bb false b y (s11 []) ⟨z9l, z9l, false⟩ false (0 : Nat)) := ZB
     have HG : Hid (Gs wr) := HG0.out.later HB.out
     go_upto_region 10 with fail
     go_cut [57] from 48 to 119 (fun v wx => ∃ tv : Bool, v = .bool tv ∧ wx = wr)
     case first =>
      by_cases h1 : 0 < lB
      ·have q1 : (0 : Int) < lB := by omega
       obtain ⟨bB, oB, rfl, hcB⟩ := HBb.out.cell (by omega)
       have ct := cell_later HB.out (hcB 0 h1)
       obtain ⟨tv, htv⟩ : ∃ v, v = lb[0]?.getD false := ⟨_, rfl⟩
       rw [← htv] at ct
       rw [Nat.add_zero] at ct
       clear hcB htv
       go_wp2_with fail
       go_meet
       case rel => exact ⟨tv, rfl, rfl⟩
      ·have q1 : ¬ (0 : Int) < lB := by omega
       go_wp2_with fail
       go_meet
       case rel => exact ⟨false, rfl, rfl⟩
     case rest =>
      obtain ⟨tv, rfl, hwc⟩ := hcut
      rw [hwc]
      clear hwc
      go_upto_if 57 with fail
      go_cut [10, 11, 12, 13] from 58 to 119 (fun _ _ _ _ wx => Hid (Zs wx ba true a x (s11 []) ⟨z9l, z9l, false⟩ false (0 : Nat)) ∧ Hid (Zs wx bb false b y (s11 []) ⟨z9l, z9l, false⟩ false (0 : Nat)) ∧ Hid (Below w.heap.size w wx))
      case first =>
       cases tv with
       | true =>
        have v1 := Go.Lib.run_convert_bytes_const (P := Tryz.prog) wr 25 5 #[.int .u8 120] 1 1 Tryz.underlying25 Tryz.underlying5
        simp only [List.size_toArray, List.length_cons, List.length_nil, Nat.zero_add, Nat.reduceAdd] at v1
        have hb1 := bel1 wr (.cells #[.int .u8 120] 5 (1, 2))
        go_wp2_with fail
        refine (write11_no bb false b y (s11 []) ⟨z9l, z9l, false⟩ 0 (by decide) (.inr rfl) (some ⟨wr.heap.size, 0, none⟩) 1 1 _ (ZB.out.later hb1)).mono ?_
        rintro e V21 ⟨rfl, hb⟩
        have hbc : Below wr.heap.size wr V21 := hb1.trans (hb.mono hb1.size)
        clear hb hb1 v1
        replace HG := hidp (HG.out.later hbc)
        replace ZA := hidp (ZA.out.later hbc)
        replace ZB := hidp (ZB.out.later hbc)
        replace HB := hidp (HB.out.trans (hbc.mono HB.out.size))
        clear hbc
        have v1 := Go.Lib.run_convert_bytes_const (P := Tryz.prog) V21 25 5 #[.int .u8 120] 1 1 Tryz.underlying25 Tryz.underlying5
        simp only [List.size_toArray, List.length_cons, List.length_nil, Nat.zero_add, Nat.reduceAdd] at v1
        have hb1 := bel1 V21 (.cells #[.int .u8 120] 5 (1, 2))
        go_wp2_with fail
        refine (read11_no ba true a x (s11 []) ⟨z9l, z9l, false⟩ 0 (by decide) (.inr rfl) (some ⟨V21.heap.size, 0, none⟩) 1 1 _ (ZA.out.later hb1)).mono ?_
        rintro e V22 ⟨rfl, hb⟩
        have hbc : Below V21.heap.size V21 V22 := hb1.trans (hb.mono hb1.size)
        clear hb hb1 v1
        replace HG := hidp (HG.out.later hbc)
        replace ZA := hidp (ZA.out.later hbc)
        replace ZB := hidp (ZB.out.later hbc)
        replace HB := hidp (HB.out.trans (hbc.mono HB.out.size))
        clear hbc
        go_wp2
        go_meet
        case rel => exact ⟨ZA, ZB, HB⟩
       | false =>
        go_wp2
        go_meet
        case rel => exact ⟨ZA, ZB, HB⟩
      case rest =>
       obtain ⟨ZA', ZB', HB'⟩ := hcut
       clear ZA ZB HB HG
       obtain ⟨U, hU⟩ : ∃ U, U = wc := ⟨_, rfl⟩
       have ZA : Hid (Zs U ba true a x (s11 []) ⟨z9l, z9l, false⟩ false (0 : Nat)) := by rw [hU]; exact ZA'
       have ZB : Hid (Zs U bb false b y (s11 []) ⟨z9l, z9l, false⟩ false (0 : Nat)) := by rw [hU]; exact ZB'
       have HB : Hid (Below w.heap.size w U) := by rw [hU]; exact HB'
       have HG : Hid (Gs U) := HG0.out.later HB.out
       rw [← hU]
       clear ZA' ZB' HB' hU
       go_wp2_with fail
       refine (turn11_c ba true a x (s11 []) ⟨z9l, z9l, false⟩ 0 (by decide) _ ZA.out).mono ?_
       rintro e V25 ⟨rfl, hb⟩
       rw [show (decide (0 < 3) && wr11 true 0) = true from rfl]
       replace HG := hidp (HG.out.later hb)
       replace ZA := hidp (ZA.out.later hb)
       replace ZB := hidp (ZB.out.later hb)
       replace HB := hidp (HB.out.trans (hb.mono HB.out.size))
       clear hb
       go_wp2_with fail
       refine (turn11_c bb false b y (s11 []) ⟨z9l, z9l, false⟩ 0 (by decide) _ ZB.out).mono ?_
       rintro e V26 ⟨rfl, hb⟩
       rw [show (decide (0 < 3) && wr11 false 0) = false from rfl]
       replace HG := hidp (HG.out.later hb)
       replace ZA := hidp (ZA.out.later hb)
       replace ZB := hidp (ZB.out.later hb)
       replace HB := hidp (HB.out.trans (hb.mono HB.out.size))
       clear hb
       have klba : ba < V26.heap.size := ZA.out.lt
       have klbb : bb < V26.heap.size := ZB.out.lt
       go_wp2_with fail
       refine (w0_c ba a x (s11 []) ⟨z9l, z9l, false⟩ none 0 0 [] _ ZA.out HG.out (Rd.nil _ _ _ (fun _ => rfl)) nq_nil (by decide) (by show (0 : Int) ≠ 18446744073709551615; decide)).mono ?_
       rintro e V27 ⟨aX, nX, cX, X, rfl, HX, RX, Z', hb, hfX, hnX⟩
       have NXba : Hid (Nq ba aX nX) := hfX.nq klba
       clear klba
       have NXbb : Hid (Nq bb aX nX) := hfX.nq klbb
       clear klbb
       replace HG : Hid (Gs V27) := ZA.out.gs HG.out hb
       replace ZB : Hid (Zs V27 bb false b y (s11 []) ⟨z9l, z9l, false⟩ false (0 : Nat)) := ZB.out.extb hb (by omega)
       replace HB : Hid (Below w.heap.size w V27) := hb.below HB.out kba
       replace ZA := Z'
       clear Z' hb
       clear hfX
       go_wp2_with fail
       refine (r0_c bb b y x (s11 []) ⟨z9l, z9l, false⟩ aX nX cX X [] Byt.nil _ ZB.out HG.out RX.out HX.out NXbb.out (by have := hnX; omega) (by show (0 : Int) ≠ 18446744073709551615; decide)).mono ?_
       rintro e V28 ⟨aU1, nU1, cU1, U1, rfl, HU1, RU1, Z', hb, hfU1⟩
       replace HG : Hid (Gs V28) := ZB.out.gs HG.out hb
       replace ZA : Hid (Zs V28 ba true a x (c0 x [] (s11 [])) ⟨z9l, z9l, false⟩ false (1 : Nat)) := ZA.out.extb hb (by omega)
       replace RX : Hid (Rd V28 aX nX cX X) := RX.out.nq hb NXbb.out
       replace HB : Hid (Below w.heap.size w V28) := hb.below HB.out kbb
       replace ZB := Z'
       clear Z' hb
       clear hfU1
       clear RX HX RU1 HU1
       go_wp2
       go_roundw
       case rel => exact ⟨1, by go_num, by decide, ZA, ZB, HB⟩
       case measure => simp [intOf]
   ·as_aux_lemma =>
     have ZA : Hid (Zs wr ba true a x (c0 x [] (s11 [])) ⟨z9l, z9l, false⟩ false (1 : Nat)) := ZA
     have ZB : Hid (Zs wr bb false b y (c0 x [] (s11 [])) ⟨z9l, pb x, false⟩ false (1 : Nat)) := ZB
     have HG : Hid (Gs wr) := HG0.out.later HB.out
     go_upto_region 10 with fail
     go_cut [57] from 48 to 119 (fun v wx => ∃ tv : Bool, v = .bool tv ∧ wx = wr)
     case first =>
      by_cases h1 : 1 < lB
      ·have q1 : (1 : Int) < lB := by omega
       obtain ⟨bB, oB, rfl, hcB⟩ := HBb.out.cell (by omega)
       have ct := cell_later HB.out (hcB 1 h1)
       obtain ⟨tv, htv⟩ : ∃ v, v = lb[1]?.getD false := ⟨_, rfl⟩
       rw [← htv] at ct
       clear hcB htv
       go_wp2_with fail
       go_meet
       case rel => exact ⟨tv, rfl, rfl⟩
      ·have q1 : ¬ (1 : Int) < lB := by omega
       go_wp2_with fail
       go_meet
       case rel => exact ⟨false, rfl, rfl⟩
     case rest =>
      obtain ⟨tv, rfl, hwc⟩ := hcut
      rw [hwc]
      clear hwc
      go_upto_if 57 with fail
      go_cut [10, 11, 12, 13] from 58 to 119 (fun _ _ _ _ wx => Hid (Zs wx ba true a x (c0 x [] (s11 [])) ⟨z9l, z9l, false⟩ false (1 : Nat)) ∧ Hid (Zs wx bb false b y (c0 x [] (s11 [])) ⟨z9l, pb x, false⟩ false (1 : Nat)) ∧ Hid (Below w.heap.size w wx))
      case first =>
       cases tv with
       | true =>
        have v1 := Go.Lib.run_convert_bytes_const (P := Tryz.prog) wr 25 5 #[.int .u8 120] 1 1 Tryz.underlying25 Tryz.underlying5
        simp only [List.size_toArray, List.length_cons, List.length_nil, Nat.zero_add, Nat.reduceAdd] at v1
        have hb1 := bel1 wr (.cells #[.int .u8 120] 5 (1, 2))
        go_wp2_with fail
        refine (write11_no ba true a x (c0 x [] (s11 [])) ⟨z9l, z9l, false⟩ 1 (by decide) (.inr rfl) (some ⟨wr.heap.size, 0, none⟩) 1 1 _ (ZA.out.later hb1)).mono ?_
        rintro e V31 ⟨rfl, hb⟩
        have hbc : Below wr.heap.size wr V31 := hb1.trans (hb.mono hb1.size)
        clear hb hb1 v1
        replace HG := hidp (HG.out.later hbc)
        replace ZA := hidp (ZA.out.later hbc)
        replace ZB := hidp (ZB.out.later hbc)
        replace HB := hidp (HB.out.trans (hbc.mono HB.out.size))
        clear hbc
        have v1 := Go.Lib.run_convert_bytes_const (P := Tryz.prog) V31 25 5 #[.int .u8 120] 1 1 Tryz.underlying25 Tryz.underlying5
        simp only [List.size_toArray, List.length_cons, List.length_nil, Nat.zero_add, Nat.reduceAdd] at v1
        have hb1 := bel1 V31 (.cells #[.int .u8 120] 5 (1, 2))
        go_wp2_with fail
        refine (read11_no bb false b y (c0 x [] (s11 [])) ⟨z9l, pb x, false⟩ 1 (by decide) (.inr rfl) (some ⟨V31.heap.size, 0, none⟩) 1 1 _ (ZB.out.later hb1)).mono ?_
        rintro e V32 ⟨rfl, hb⟩
        have hbc : Below V31.heap.size V31 V32 := hb1.trans (hb.mono hb1.size)
        clear hb hb1 v1
        replace HG := hidp (HG.out.later hbc)
        replace ZA := hidp (ZA.out.later hbc)
        replace ZB := hidp (ZB.out.later hbc)
        replace HB := hidp (HB.out.trans (hbc.mono HB.out.size))
        clear hbc
        go_wp2
        go_meet
        case rel => exact ⟨ZA, ZB, HB⟩
       | false =>
        go_wp2
        go_meet
        case rel => exact ⟨ZA, ZB, HB⟩
      case rest =>
       obtain ⟨ZA', ZB', HB'⟩ := hcut
       clear ZA ZB HB HG
       obtain ⟨U, hU⟩ : ∃ U, U = wc := ⟨_, rfl⟩
       have ZA : Hid (Zs U ba true a x (c0 x [] (s11 [])) ⟨z9l, z9l, false⟩ false (1 : Nat)) := by rw [hU]; exact ZA'
       have ZB : Hid (Zs U bb false b y (c0 x [] (s11 [])) ⟨z9l, pb x, false⟩ false (1 : Nat)) := by rw [hU]; exact ZB'
       have HB : Hid (Below w.heap.size w U) := by rw [hU]; exact HB'
       have HG : Hid (Gs U) := HG0.out.later HB.out
       rw [← hU]
       clear ZA' ZB' HB' hU
       go_wp2_with fail
       refine (turn11_c bb false b y (c0 x [] (s11 [])) ⟨z9l, pb x, false⟩ 1 (by decide) _ ZB.out).mono ?_
       rintro e V35 ⟨rfl, hb⟩
       rw [show (decide (1 < 3) && wr11 false 1) = true from rfl]
       replace HG := hidp (HG.out.later hb)
       replace ZA := hidp (ZA.out.later hb)
       replace ZB := hidp (ZB.out.later hb)
       replace HB := hidp (HB.out.trans (hb.mono HB.out.size))
       clear hb
       go_wp2_with fail
       refine (turn11_c ba true a x (c0 x [] (s11 [])) ⟨z9l, z9l, false⟩ 1 (by decide) _ ZA.out).mono ?_
       rintro e V36 ⟨rfl, hb⟩
       rw [show (decide (1 < 3) && wr11 true 1) = false from rfl]
       replace HG := hidp (HG.out.later hb)
       replace ZA := hidp (ZA.out.later hb)
       replace ZB := hidp (ZB.out.later hb)
       replace HB := hidp (HB.out.trans (hb.mono HB.out.size))
       clear hb
       have klba : ba < V36.heap.size := ZA.out.lt
       have klbb : bb < V36.heap.size := ZB.out.lt
       go_wp2_with fail
       refine (w1_c bb b y x HXn.out HBn.out HYn.out (c0 x [] (s11 [])) ⟨z9l, pb x, false⟩ none 0 0 [] _ ZB.out rfl HG.out (Rd.nil _ _ _ (fun _ => rfl)) nq_nil (by decide)).mono ?_
       rintro e V37 ⟨aX, nX, cX, X, rfl, HX, RX, Z', hb, hfX, hnX⟩
       have NXba : Hid (Nq ba aX nX) := hfX.nq klba
       clear klba
       have NXbb : Hid (Nq bb aX nX) := hfX.nq klbb
       clear klbb
       replace HG : Hid (Gs V37) := ZB.out.gs HG.out hb
       replace ZA : Hid (Zs V37 ba true a x (c0 x [] (s11 [])) ⟨z9l, z9l, false⟩ false (1 : Nat)) := ZA.out.extb hb (by omega)
       replace HB : Hid (Below w.heap.size w V37) := hb.below HB.out kbb
       replace ZB := Z'
       clear Z' hb
       clear hfX
       go_wp2_with fail
       refine (r1_c ba a x b y HXn.out HBn.out HYn.out (c0 x [] (s11 [])) ⟨z9l, z9l, false⟩ aX nX cX X [] Byt.nil _ ZA.out HG.out RX.out HX.out NXba.out (by have := hnX; omega)).mono ?_
       rintro e V38 ⟨aU1, nU1, cU1, U1, rfl, HU1, RU1, Z', hb, hfU1⟩
       replace HG : Hid (Gs V38) := ZA.out.gs HG.out hb
       replace ZB : Hid (Zs V38 bb false b y (c1 x b y [] (c0 x [] (s11 []))) ⟨z9l, pb x, false⟩ false (2 : Nat)) := ZB.out.extb hb (by omega)
       replace RX : Hid (Rd V38 aX nX cX X) := RX.out.nq hb NXba.out
       replace HB : Hid (Below w.heap.size w V38) := hb.below HB.out kba
       replace ZA := Z'
       clear Z' hb
       clear hfU1
       clear RX HX RU1 HU1
       go_wp2
       go_roundw
       case rel => exact ⟨2, by go_num, by decide, ZA, ZB, HB⟩
       case measure => simp [intOf]
   ·as_aux_lemma =>
     have ZA : Hid (Zs wr ba true a x (c1 x b y [] (c0 x [] (s11 []))) ⟨pb b, pb y, true⟩ false (2 : Nat)) := ZA
     have ZB : Hid (Zs wr bb false b y (c1 x b y [] (c0 x [] (s11 []))) ⟨z9l, pb x, false⟩ false (2 : Nat)) := ZB
     have HG : Hid (Gs wr) := HG0.out.later HB.out
     go_upto_region 10 with fail
     go_cut [57] from 48 to 119 (fun v wx => ∃ tv : Bool, v = .bool tv ∧ wx = wr)
     case first =>
      by_cases h1 : 2 < lB
      ·have q1 : (2 : Int) < lB := by omega
       obtain ⟨bB, oB, rfl, hcB⟩ := HBb.out.cell (by omega)
       have ct := cell_later HB.out (hcB 2 h1)
       obtain ⟨tv, htv⟩ : ∃ v, v = lb[2]?.getD false := ⟨_, rfl⟩
       rw [← htv] at ct
       clear hcB htv
       go_wp2_with fail
       go_meet
       case rel => exact ⟨tv, rfl, rfl⟩
      ·have q1 : ¬ (2 : Int) < lB := by omega
       go_wp2_with fail
       go_meet
       case rel => exact ⟨false, rfl, rfl⟩
     case rest =>
      obtain ⟨tv, rfl, hwc⟩ := hcut
      rw [hwc]
      clear hwc
      go_upto_if 57 with fail
      go_cut [10, 11, 12, 13] from 58 to 119 (fun _ _ _ _ wx => Hid (Zs wx ba true a x (c1 x b y [] (c0 x [] (s11 []))) ⟨pb b, pb y, true⟩ false (2 : Nat)) ∧ Hid (Zs wx bb false b y (c1 x b y [] (c0 x [] (s11 []))) ⟨z9l, pb x, false⟩ false (2 : Nat)) ∧ Hid (Below w.heap.size w wx))
      case first =>
       cases tv with
       | true =>
        have v1 := Go.Lib.run_convert_bytes_const (P := Tryz.prog) wr 25 5 #[.int .u8 120] 1 1 Tryz.underlying25 Tryz.underlying5
        simp only [List.size_toArray, List.length_cons, List.length_nil, Nat.zero_add, Nat.reduceAdd] at v1
        have hb1 := bel1 wr (.cells #[.int .u8 120] 5 (1, 2))
        go_wp2_with fail
        refine (write11_no bb false b y (c1 x b y [] (c0 x [] (s11 []))) ⟨z9l, pb x, false⟩ 2 (by decide) (.inr rfl) (some ⟨wr.heap.size, 0, none⟩) 1 1 _ (ZB.out.later hb1)).mono ?_
        rintro e V41 ⟨rfl, hb⟩
        have hbc : Below wr.heap.size wr V41 := hb1.trans (hb.mono hb1.size)
        clear hb hb1 v1
        replace HG := hidp (HG.out.later hbc)
        replace ZA := hidp (ZA.out.later hbc)
        replace ZB := hidp (ZB.out.later hbc)
        replace HB := hidp (HB.out.trans (hbc.mono HB.out.size))
        clear hbc
        have v1 := Go.Lib.run_convert_bytes_const (P := Tryz.prog) V41 25 5 #[.int .u8 120] 1 1 Tryz.underlying25 Tryz.underlying5
        simp only [List.size_toArray, List.length_cons, List.length_nil, Nat.zero_add, Nat.reduceAdd] at v1
        have hb1 := bel1 V41 (.cells #[.int .u8 120] 5 (1, 2))
        go_wp2_with fail
        refine (read11_no ba true a x (c1 x b y [] (c0 x [] (s11 []))) ⟨pb b, pb y, true⟩ 2 (by decide) (.inr rfl) (some ⟨V41.heap.size, 0, none⟩) 1 1 _ (ZA.out.later hb1)).mono ?_
        rintro e V42 ⟨rfl, hb⟩
        have hbc : Below V41.heap.size V41 V42 := hb1.trans (hb.mono hb1.size)
        clear hb hb1 v1
        replace HG := hidp (HG.out.later hbc)
        replace ZA := hidp (ZA.out.later hbc)
        replace ZB := hidp (ZB.out.later hbc)
        replace HB := hidp (HB.out.trans (hbc.mono HB.out.size))
        clear hbc
        go_wp2
        go_meet
        case rel => exact ⟨ZA, ZB, HB⟩
       | false =>
        go_wp2
        go_meet
        case rel => exact ⟨ZA, ZB, HB⟩
      case rest =>
       obtain ⟨ZA', ZB', HB'⟩ := hcut
       clear ZA ZB HB HG
       obtain ⟨U, hU⟩ : ∃ U, U = wc := ⟨_, rfl⟩
       have ZA : Hid (Zs U ba true a x (c1 x b y [] (c0 x [] (s11 []))) ⟨pb b, pb y, true⟩ false (2 : Nat)) := by rw [hU]; exact ZA'
       have ZB : Hid (Zs U bb false b y (c1 x b y [] (c0 x [] (s11 []))) ⟨z9l, pb x, false⟩ false (2 : Nat)) := by rw [hU]; exact ZB'
       have HB : Hid (Below w.heap.size w U) := by rw [hU]; exact HB'
       have HG : Hid (Gs U) := HG0.out.later HB.out
       rw [← hU]
       clear ZA' ZB' HB' hU
       go_wp2_with fail
       refine (turn11_c ba true a x (c1 x b y [] (c0 x [] (s11 []))) ⟨pb b, pb y, true⟩ 2 (by decide) _ ZA.out).mono ?_
       rintro e V45 ⟨rfl, hb⟩
       rw [show (decide (2 < 3) && wr11 true 2) = true from rfl]
       replace HG := hidp (HG.out.later hb)
       replace ZA := hidp (ZA.out.later hb)
       replace ZB := hidp (ZB.out.later hb)
       replace HB := hidp (HB.out.trans (hb.mono HB.out.size))
       clear hb
       go_wp2_with fail
       refine (turn11_c bb false b y (c1 x b y [] (c0 x [] (s11 []))) ⟨z9l, pb x, false⟩ 2 (by decide) _ ZB.out).mono ?_
       rintro e V46 ⟨rfl, hb⟩
       rw [show (decide (2 < 3) && wr11 false 2) = false from rfl]
       replace HG := hidp (HG.out.later hb)
       replace ZA := hidp (ZA.out.later hb)
       replace ZB := hidp (ZB.out.later hb)
       replace HB := hidp (HB.out.trans (hb.mono HB.out.size))
       clear hb
       have klba : ba < V46.heap.size := ZA.out.lt
       have klbb : bb < V46.heap.size := ZB.out.lt
       go_wp2_with fail
       refine (w2_c ba a x y HAn.out HYn.out (c1 x b y [] (c0 x [] (s11 []))) ⟨pb b, pb y, true⟩ none 0 0 [] _ ZA.out rfl HG.out (Rd.nil _ _ _ (fun _ => rfl)) nq_nil (by decide) (by rw [c1_n]; decide)).mono ?_
       rintro e V47 ⟨aX, nX, cX, X, rfl, HX, RX, Z', hb, hfX, hnX⟩
       have NXba : Hid (Nq ba aX nX) := hfX.nq klba
       clear klba
       have NXbb : Hid (Nq bb aX nX) := hfX.nq klbb
       clear klbb
       replace HG : Hid (Gs V47) := ZA.out.gs HG.out hb
       replace ZB : Hid (Zs V47 bb false b y (c1 x b y [] (c0 x [] (s11 []))) ⟨z9l, pb x, false⟩ false (2 : Nat)) := ZB.out.extb hb (by omega)
       replace HB : Hid (Below w.heap.size w V47) := hb.below HB.out kba
       replace ZA := Z'
       clear Z' hb
       clear hfX
       go_wp2_with fail
       refine (r2_c bb b y a HAn.out HYn.out (c1 x b y [] (c0 x [] (s11 []))) ⟨z9l, pb x, false⟩ aX nX cX X [] Byt.nil _ ZB.out HG.out RX.out HX.out NXbb.out (by have := hnX; omega) (by rw [c1_n]; decide)).mono ?_
       rintro e V48 ⟨aU1, nU1, cU1, U1, rfl, HU1, RU1, Z', hb, hfU1⟩
       replace HG : Hid (Gs V48) := ZB.out.gs HG.out hb
       replace ZA : Hid (Zs V48 ba true a x (c2 a y [] (c1 x b y [] (c0 x [] (s11 [])))) ⟨pb b, pb y, true⟩ false (3 : Nat)) := ZA.out.extb hb (by omega)
       replace RX : Hid (Rd V48 aX nX cX X) := RX.out.nq hb NXbb.out
       replace HB : Hid (Below w.heap.size w V48) := hb.below HB.out kbb
       replace ZB := Z'
       clear Z' hb
       clear hfU1
       clear RX HX RU1 HU1
       go_wp2
       go_roundw
       case rel => exact ⟨3, by go_num, by decide, ZA, ZB, HB⟩
       case measure => simp [intOf]
  ·obtain rfl : k = 3 := by omega
   obtain ⟨S3, hS3⟩ : ∃ z, z = tS a x b y 3 := ⟨_, rfl⟩
   obtain ⟨PA3, hPA⟩ : ∃ z, z = tA b y 3 := ⟨_, rfl⟩
   obtain ⟨PB3, hPB⟩ : ∃ z, z = tP a x 3 := ⟨_, rfl⟩
   rw [← hS3, ← hPA] at ZA
   rw [← hS3, ← hPB] at ZB
   clear hS3 hPA hPB
   go_wp2_with fail
   refine (done11_c ba true a x S3 PA3 3 (by decide) _ ZA.out).mono ?_
   rintro e V61 ⟨rfl, hw⟩
   rw [hw, show decide (3 = 3) = true from rfl]
   clear hw V61
   go_wp2_with fail
   refine (done11_c bb false b y S3 PB3 3 (by decide) _ ZB.out).mono ?_
   rintro e V62 ⟨rfl, hw⟩
   rw [hw, show decide (3 = 3) = true from rfl]
   clear hw V62
   have heq : ∀ u, Sem.run Tryz.prog (binOp .eql 30 (.agg (List.map (Value.int .u8) S3.H).toArray) (.agg (List.map (Value.int .u8) S3.H).toArray)) u = .ok (.bool true) u := fun u => eql32 S3.H S3.H ZA.out.my.bh rfl u
   go_wp2_with fail
   refine (hash11_c ba true a x S3 PA3 (3 : Nat) _ ZA.out).mono ?_
   rintro e V63 ⟨rfl, hb⟩
   replace ZA := hidp (ZA.out.later hb)
   replace ZB := hidp (ZB.out.later hb)
   replace HB := hidp (HB.out.trans (hb.mono HB.out.size))
   clear hb
   go_wp2_with fail
   refine (hash11_c bb false b y S3 PB3 (3 : Nat) _ ZB.out).mono ?_
   rintro e V64 ⟨rfl, hb⟩
   replace ZA := hidp (ZA.out.later hb)
   replace ZB := hidp (ZB.out.later hb)
   replace HB := hidp (HB.out.trans (hb.mono HB.out.size))
   clear hb
   go_wp2
   go_ret
   exact ⟨rfl, HB.out⟩
end Go.Proofs.YtlnbjehimabaiaaGreatDoor
