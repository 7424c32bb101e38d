/-
 SymmPlays' walk. No statement of the seat is proved here.
-/
import Derived.Test.YtmibjgkakolhiaaGreatDoorPk1
import Derived.Test.YtmibjgkakolhiaaGreatDoorPk17
import Derived.Test.YtmibjgkakolhiaaGreatDoorPk31
import Derived.Test.YtmibjgkakolhiaaGreatDoorPk33
import Derived.Test.YtmibjgkakolhiaaGreatDoorPk35
import Derived.Test.YtmibjgkakolhiaaGreatDoorPk38
import Derived.Test.YtmibjgkakolhiaaGreatDoorPk47
import Derived.Deep.CutBlock
namespace Go.Proofs.YtmibjgkakolhiaaGreatDoor
open Go.RowKit

set_option maxRecDepth 8000 in
theorem zero_symm (w : World) : Sem.run Tryz.prog (zeroValue 38) w = .ok (.agg (rc10 z9l false 0 z9l z9l).toArray) w := by kernel_rfl
set_option maxRecDepth 8000 in
set_option maxHeartbeats 16000000 in
theorem symmPlays_walk (s : ByteArray) (aT : Option Addr) (lT cT : Nat) (w : World) (ht : RdT 1048576 w aT lT) (hg : Gb w ∧ Gq w) :
  Calls Tryz.prog 3 #[.string s, .slice aT lT cT] w fun e w' => e = .returned (.bool true) ∧ Below w.heap.size w w' := by
 have HT : Hid (RdT 1048576 w aT lT) := ht
 have HG : Hid (Gb w) := hg.1
 have HQ : Hid (Gq w) := hg.2
 have hg0 := hg.1.ivlt
 have hg1 := hg.1.sglt
 have hq0 := hg.2.ivlt
 have hq1 := hg.2.rolt
 have hq2 := hg.2.sglt
 clear ht hg
 go_enter Tryz.func3, Tryz.ntmps3
 go_upto_region 1 with fail
 obtain ⟨s1, hs1, hz1⟩ : ∃ s1 : ByteArray, Hid (s1 = s.extract 0 (min s.size 60)) ∧ s1.size ≤ 60 := ⟨_, rfl, by rw [ByteArray.size_extract]; omega⟩
 go_cut [0] from 24 (fun v wx => v = .string s1 ∧ wx = w)
 case first =>
  by_cases hle : s.size ≤ 60
  ·have q1 : (s.size : Int) ≤ 60 := by omega
   have hmin : min (s.size : Int) 60 = (s.size : Int) := Int.min_eq_left q1
   have hex : s.extract 0 s.size = s1 := by rw [hs1.out, Nat.min_eq_left hle]
   go_wp2_with fail
   go_meet
   case rel => exact ⟨by simp, rfl⟩
  ·have q1 : (60 : Int) ≤ s.size := by omega
   have hmin : min (s.size : Int) 60 = 60 := Int.min_eq_right q1
   have hex : s.extract 0 60 = s1 := by rw [hs1.out, Nat.min_eq_right (by omega)]
   have q2 : (60 : Int) ≤ s.size := by omega
   go_wp2_with fail
   go_meet
   case rel => exact ⟨by simp, rfl⟩
 case rest =>
 obtain ⟨rfl, hcw⟩ := hcut
 rw [hcw]
 clear hcw wc hs1
 go_wp2_with fail
 refine (new10_c s1 _ HG.out (by omega)).mono ?_
 rintro e V1 ⟨bs, N, rfl, kbs, HN, Sa, hb⟩
 have HB : Hid (Below w.heap.size w V1) := hb
 clear hb
 have kss := Sa.out.lt
 go_wp2_with fail
 refine (rnew10_c s1 _ (HQ.out.later HB.out) (by omega)).mono ?_
 rintro e V2 ⟨br, N2, rfl, kbr, HN2, Sr, hb⟩
 have nsr : bs < br := by omega
 replace kbr : w.heap.size ≤ br := Nat.le_trans HB.out.size kbr
 have hN : N2 = N := by rw [HN2.out, HN.out]
 subst hN
 clear HN HN2 kss
 replace Sa := hidp (Sa.out.later hb)
 replace HB := hidp (HB.out.trans (hb.mono HB.out.size))
 clear hb
 go_wp2_with fail
 refine (known10_any _ (HG.out.later HB.out)).mono ?_
 rintro e V3 ⟨rfl, hb⟩
 replace Sa := hidp (Sa.out.later hb)
 replace Sr := hidp (Sr.out.later hb)
 replace HB := hidp (HB.out.trans (hb.mono HB.out.size))
 clear hb
 go_wp2
 go_loopw [7] (fun iv wr => ∃ (k : Nat) (ky : List Int) (h : Bool) (m : Int) (H C : List Int), iv = .int .i64 k ∧ k ≤ 16 ∧ Hid (My wr bs ky h m H C) ∧ Hid (Ny wr br ky h m H C) ∧ Hid (Below w.heap.size w wr)) (fun iv _ => 16 - (intOf iv).toNat)
 case atStart => exact ⟨0, z9l, false, 0, N2, N2, rfl, by decide, Sa, Sr, HB⟩
 case round =>
  clear Sa Sr HB
  obtain ⟨k, ky, h, m, H, C, rfl, hk16, Sa, Sr, HB⟩ := hrel
  by_cases h1 : k < lT
  ·have q1 : (k : Int) < lT := by omega
   by_cases h2 : k < 16
   ·have q2 : (k : Int) < 16 := by omega
    obtain ⟨bT, oT, rfl, hcT⟩ := HT.out.cell (by omega)
    obtain ⟨what, ai, ni, ci, tx, hst⟩ := hcT k h1
    have HST : Hid (St10 1048576 w bT (oT + k * 2) what ai ni ci tx) := hst
    have hni := hst.le
    clear hcT hst
    obtain ⟨cs, hcs⟩ : ∃ cs, cs = [Value.int .i64 what, .slice ai ni ci] := ⟨_, rfl⟩
    have HC : Hid (cs = [Value.int .i64 what, .slice ai ni ci]) := hcs
    have hlen : cs.length = 2 := by rw [hcs]; rfl
    have hone : ∀ v ∈ cs, v.oneCell' = true := by
     rw [hcs]
     intro v hv
     simp only [List.mem_cons, List.not_mem_nil, or_false] at hv
     rcases hv with rfl | rfl <;> rfl
    have hi : (Tryz.prog.info? 30).map (·.size) = some cs.length := by rw [hlen]; kernel_rfl
    have hR : wr.rangeAt bT (oT + k * 2) cs := by rw [hcs]; exact range_later HB.out HST.out.rng
    clear hcs
    have e2 : cs.toArray.size = 2 := by simpa using hlen
    have hth := there_new wr 2 #[.int .i64 0, .slice none 0 0] rfl 30
    go_upto_region 10 with (first
     | (refine wpList_load_mid rfl 30 (.tmp 51) rfl bT (oT + k * 2) rfl cs _ hR Tryz.underlying30 rfl hi ?_)
     | (refine wpList_store_mid rfl 30 (.tmp 8) (.tmp 52) rfl wr.heap.size 0 cs.toArray rfl rfl (by rw [e2]; exact hth) (by simpa using hi) (all_oneCell_toArray hone) ?_))
    have AX : Hid (Ar ((wr.alloc (.cells #[.int .i64 0, .slice none 0 0] 30)).setCells wr.heap.size 0 cs) wr.heap.size 2 [Value.int .i64 what, .slice ai ni ci]) := by rw [← HC.out]; exact ar_var wr _ 2 rfl _ _ hlen
    have hb : Below wr.heap.size wr ((wr.alloc (.cells #[.int .i64 0, .slice none 0 0] 30)).setCells wr.heap.size 0 cs) := bel_var _ _ _ _
    have k6Sa := Sa.out.lt
    replace Sa := hidp (Sa.out.later hb)
    have k6Sr := Sr.out.lt
    replace Sr := hidp (Sr.out.later hb)
    have k6w : w.heap.size ≤ wr.heap.size := HB.out.size
    replace HB := hidp (HB.out.trans (hb.mono HB.out.size))
    obtain ⟨W1, hW1⟩ : ∃ W, W = ((wr.alloc (.cells #[.int .i64 0, .slice none 0 0] 30)).setCells wr.heap.size 0 cs) := ⟨_, rfl⟩
    obtain ⟨b6, hb6⟩ : ∃ q, q = wr.heap.size := ⟨_, rfl⟩
    rw [← hW1] at AX HB Sa Sr ⊢
    rw [← hb6] at AX k6w k6Sa k6Sr ⊢
    clear hW1 hb6 hb hlen hone hi hR e2 hth HC
    obtain ⟨c0, -⟩ := AX.out.cell 0 (by decide)
    obtain ⟨c1, -⟩ := AX.out.cell 1 (by decide)
    simp only [List.getElem_cons_zero, List.getElem_cons_succ] at c0 c1
    go_wp2_with fail
    refine (pick_any what 8 HST.out.bw (by decide) _).mono ?_
    rintro e V20 ⟨p, rfl, p0, p1, hw⟩
    rw [hw]
    clear hw V20 c0 c1
    go_upto_block 2 with fail
    go_cut [9, 10, 11, 12, 13, 14, 15, 16, 17, 18, 19, 20, 21, 22, 23] from 39 (fun v _ _ _ _ _ _ _ _ _ _ _ _ _ _ wx => ∃ (ky' : List Int) (h' : Bool) (m' : Int) (H' C' : List Int), v = .bool true ∧ Hid (My wx bs ky' h' m' H' C') ∧ Hid (Ny wx br ky' h' m' H' C') ∧ Hid (Below w.heap.size w wx))
    case first =>
     rcases (show p = 0 ∨ p = 1 ∨ p = 2 ∨ p = 3 ∨ p = 4 ∨ p = 5 ∨ p = 6 ∨ p = 7 by omega) with rfl | rfl | rfl | rfl | rfl | rfl | rfl | rfl
     ·as_aux_lemma =>
       obtain ⟨c0, -⟩ := AX.out.cell 0 (by decide)
       obtain ⟨c1, -⟩ := AX.out.cell 1 (by decide)
       simp only [List.getElem_cons_zero, List.getElem_cons_succ] at c0 c1
       go_wp2_with fail
       refine (mixkey10_c bs ky h m H C ai ni ci tx _ Sa.out (HST.out.rd.below HB.out) (HG.out.later HB.out) (by omega)).mono ?_
       rintro e V101 ⟨K1, C1, rfl, HC1, HK1, HS', hb⟩
       replace Sa := HS'
       clear HS' c0 c1
       replace Sr : Hid (Ny V101 br ky h m H C) := Sr.out.extb hb (by omega)
       replace AX : Hid (Ar V101 b6 2 [Value.int .i64 what, .slice ai ni ci]) := AX.out.extb hb (by omega)
       replace HB : Hid (Below w.heap.size w V101) := hb.below HB.out (by omega)
       clear hb
       obtain ⟨c0, -⟩ := AX.out.cell 0 (by decide)
       obtain ⟨c1, -⟩ := AX.out.cell 1 (by decide)
       simp only [List.getElem_cons_zero, List.getElem_cons_succ] at c0 c1
       go_wp2_with fail
       refine (rmixkey10_c br ky h m H C ai ni ci tx _ Sr.out (HST.out.rd.below HB.out) (HQ.out.later HB.out) (by omega)).mono ?_
       rintro e V102 ⟨K2, C2, rfl, HC2, HK2, HS', hb⟩
       replace Sr := HS'
       clear HS' c0 c1
       replace Sa : Hid (My V102 bs K1 true 0 H C1) := Sa.out.extb hb (by omega)
       replace AX : Hid (Ar V102 b6 2 [Value.int .i64 what, .slice ai ni ci]) := AX.out.extb hb (by omega)
       replace HB : Hid (Below w.heap.size w V102) := hb.below HB.out (by omega)
       clear hb
       have eK : K2 = K1 := by rw [HK2.out, HK1.out]
       have eC : C2 = C1 := by rw [HC2.out, HC1.out]
       subst eK eC
       clear AX HK1 HK2 HC1 HC2
       go_wp2_with fail
       go_meet
       case rel => exact ⟨K2, true, 0, H, C2, rfl, Sa, Sr, HB⟩
     ·as_aux_lemma =>
       obtain ⟨c0, -⟩ := AX.out.cell 0 (by decide)
       obtain ⟨c1, -⟩ := AX.out.cell 1 (by decide)
       simp only [List.getElem_cons_zero, List.getElem_cons_succ] at c0 c1
       go_wp2_with fail
       refine (mixhash10_c bs ky h m H C ai ni ci tx _ Sa.out (HST.out.rd.below HB.out) (HG.out.later HB.out) (by omega)).mono ?_
       rintro e V101 ⟨rfl, HS', hb⟩
       replace Sa := HS'
       clear HS' c0 c1
       replace Sr : Hid (Ny V101 br ky h m H C) := Sr.out.extb hb (by omega)
       replace AX : Hid (Ar V101 b6 2 [Value.int .i64 what, .slice ai ni ci]) := AX.out.extb hb (by omega)
       replace HB : Hid (Below w.heap.size w V101) := hb.below HB.out (by omega)
       clear hb
       obtain ⟨c0, -⟩ := AX.out.cell 0 (by decide)
       obtain ⟨c1, -⟩ := AX.out.cell 1 (by decide)
       simp only [List.getElem_cons_zero, List.getElem_cons_succ] at c0 c1
       go_wp2_with fail
       refine (rmixhash10_c br ky h m H C ai ni ci tx _ Sr.out (HST.out.rd.below HB.out) (HQ.out.later HB.out) (by omega)).mono ?_
       rintro e V102 ⟨rfl, HS', hb⟩
       replace Sr := HS'
       clear HS' c0 c1
       replace Sa : Hid (My V102 bs ky h m (sum7 (H ++ tx)) C) := Sa.out.extb hb (by omega)
       replace AX : Hid (Ar V102 b6 2 [Value.int .i64 what, .slice ai ni ci]) := AX.out.extb hb (by omega)
       replace HB : Hid (Below w.heap.size w V102) := hb.below HB.out (by omega)
       clear hb
       obtain ⟨H1, hH1⟩ : ∃ q, q = sum7 (H ++ tx) := ⟨_, rfl⟩
       rw [← hH1] at Sa Sr
       clear hH1 AX
       go_wp2_with fail
       go_meet
       case rel => exact ⟨ky, h, m, H1, C, rfl, Sa, Sr, HB⟩
     ·as_aux_lemma =>
       obtain ⟨c0, -⟩ := AX.out.cell 0 (by decide)
       obtain ⟨c1, -⟩ := AX.out.cell 1 (by decide)
       simp only [List.getElem_cons_zero, List.getElem_cons_succ] at c0 c1
       go_wp2_with fail
       refine (mixhash10_c bs ky h m H C ai ni ci tx _ Sa.out (HST.out.rd.below HB.out) (HG.out.later HB.out) (by omega)).mono ?_
       rintro e V101 ⟨rfl, HS', hb⟩
       replace Sa := HS'
       clear HS' c0 c1
       replace Sr : Hid (Ny V101 br ky h m H C) := Sr.out.extb hb (by omega)
       replace AX : Hid (Ar V101 b6 2 [Value.int .i64 what, .slice ai ni ci]) := AX.out.extb hb (by omega)
       replace HB : Hid (Below w.heap.size w V101) := hb.below HB.out (by omega)
       clear hb
       obtain ⟨c0, -⟩ := AX.out.cell 0 (by decide)
       obtain ⟨c1, -⟩ := AX.out.cell 1 (by decide)
       simp only [List.getElem_cons_zero, List.getElem_cons_succ] at c0 c1
       go_wp2_with fail
       refine (rmixhash10_c br ky h m H C ai ni ci tx _ Sr.out (HST.out.rd.below HB.out) (HQ.out.later HB.out) (by omega)).mono ?_
       rintro e V102 ⟨rfl, HS', hb⟩
       replace Sr := HS'
       clear HS' c0 c1
       replace Sa : Hid (My V102 bs ky h m (sum7 (H ++ tx)) C) := Sa.out.extb hb (by omega)
       replace AX : Hid (Ar V102 b6 2 [Value.int .i64 what, .slice ai ni ci]) := AX.out.extb hb (by omega)
       replace HB : Hid (Below w.heap.size w V102) := hb.below HB.out (by omega)
       clear hb
       obtain ⟨H1, hH1⟩ : ∃ q, q = sum7 (H ++ tx) := ⟨_, rfl⟩
       rw [← hH1] at Sa Sr
       clear hH1 AX
       go_wp2_with fail
       go_meet
       case rel => exact ⟨ky, h, m, H1, C, rfl, Sa, Sr, HB⟩
     ·as_aux_lemma =>
       obtain ⟨c0, -⟩ := AX.out.cell 0 (by decide)
       obtain ⟨c1, -⟩ := AX.out.cell 1 (by decide)
       simp only [List.getElem_cons_zero, List.getElem_cons_succ] at c0 c1
       have kqr := Sr.out.lt
       go_wp2_with fail
       refine (seal10_c bs ky h m H C ai ni ci tx _ Sa.out (HST.out.rd.below HB.out) (HG.out.later HB.out) (by have := hg0; omega) (by have := hg1; omega) (by omega)).mono ?_
       rintro e V101 ⟨a1, m1, d1, X1, E1, n1, rfl, HX1, HE1, HN1, R1, HS', hb, hfr, -⟩
       have HF1 : Hid (Nq br a1 m1) := hfr.nq kqr
       replace Sa := HS'
       clear HS' hfr kqr c0 c1
       replace Sr : Hid (Ny V101 br ky h m H C) := Sr.out.extb hb (by omega)
       replace AX : Hid (Ar V101 b6 2 [Value.int .i64 what, .slice ai ni ci]) := AX.out.extb hb (by omega)
       replace HB : Hid (Below w.heap.size w V101) := hb.below HB.out (by omega)
       clear hb
       obtain ⟨c0, -⟩ := AX.out.cell 0 (by decide)
       obtain ⟨c1, -⟩ := AX.out.cell 1 (by decide)
       simp only [List.getElem_cons_zero, List.getElem_cons_succ] at c0 c1
       go_wp2_with fail
       refine (rseal10_c br ky h m H C ai ni ci tx _ Sr.out (HST.out.rd.below HB.out) (HQ.out.later HB.out) (by have := hq0; omega) (by have := hq1; omega) (by have := hq2; omega) (HST.out.rd.nqNew (by omega)) (by omega)).mono ?_
       rintro e V102 ⟨a2, m2, d2, X2, E2, n2, rfl, HX2, HE2, HN2, R2, HS', hb, -, -⟩
       replace R1 : Hid (Rd V102 a1 m1 d1 X1) := R1.out.nq hb HF1.out
       replace Sr := HS'
       clear HS' HF1 c0 c1
       replace Sa : Hid (My V102 bs ky h n1 (h10 E1 H X1) C) := Sa.out.extb hb (by omega)
       replace AX : Hid (Ar V102 b6 2 [Value.int .i64 what, .slice ai ni ci]) := AX.out.extb hb (by omega)
       replace HB : Hid (Below w.heap.size w V102) := hb.below HB.out (by omega)
       clear hb
       have e1 : X2 = X1 := by rw [HX2.out, HX1.out]
       subst e1
       have e2 : E2 = E1 := by rw [HE2.out, HE1.out]
       subst e2
       have e3 : n2 = n1 := by rw [HN2.out, HN1.out]
       subst e3
       obtain ⟨H1, hH1⟩ : ∃ q, q = h10 E2 H X2 := ⟨_, rfl⟩
       rw [← hH1] at Sa Sr
       have s1 := str_of R1.out
       have s2 := str_of R2.out
       clear hH1 HX1 HX2 HE1 HE2 HN1 HN2
       clear AX
       go_wp2_with fail
       go_meet
       case rel => exact ⟨ky, h, n2, H1, C, rfl, Sa, Sr, HB⟩
     ·as_aux_lemma =>
       obtain ⟨c0, -⟩ := AX.out.cell 0 (by decide)
       obtain ⟨c1, -⟩ := AX.out.cell 1 (by decide)
       simp only [List.getElem_cons_zero, List.getElem_cons_succ] at c0 c1
       have kqr := Sr.out.lt
       go_wp2_with fail
       refine (seal10_c bs ky h m H C ai ni ci tx _ Sa.out (HST.out.rd.below HB.out) (HG.out.later HB.out) (by have := hg0; omega) (by have := hg1; omega) (by omega)).mono ?_
       rintro e V101 ⟨a1, m1, d1, X1, E1, n1, rfl, HX1, HE1, HN1, R1, HS', hb, hfr, -⟩
       have HF1 : Hid (Nq br a1 m1) := hfr.nq kqr
       replace Sa := HS'
       clear HS' hfr kqr c0 c1
       replace Sr : Hid (Ny V101 br ky h m H C) := Sr.out.extb hb (by omega)
       replace AX : Hid (Ar V101 b6 2 [Value.int .i64 what, .slice ai ni ci]) := AX.out.extb hb (by omega)
       replace HB : Hid (Below w.heap.size w V101) := hb.below HB.out (by omega)
       clear hb
       obtain ⟨c0, -⟩ := AX.out.cell 0 (by decide)
       obtain ⟨c1, -⟩ := AX.out.cell 1 (by decide)
       simp only [List.getElem_cons_zero, List.getElem_cons_succ] at c0 c1
       go_wp2_with fail
       refine (rseal10_c br ky h m H C ai ni ci tx _ Sr.out (HST.out.rd.below HB.out) (HQ.out.later HB.out) (by have := hq0; omega) (by have := hq1; omega) (by have := hq2; omega) (HST.out.rd.nqNew (by omega)) (by omega)).mono ?_
       rintro e V102 ⟨a2, m2, d2, X2, E2, n2, rfl, HX2, HE2, HN2, R2, HS', hb, -, -⟩
       replace R1 : Hid (Rd V102 a1 m1 d1 X1) := R1.out.nq hb HF1.out
       replace Sr := HS'
       clear HS' HF1 c0 c1
       replace Sa : Hid (My V102 bs ky h n1 (h10 E1 H X1) C) := Sa.out.extb hb (by omega)
       replace AX : Hid (Ar V102 b6 2 [Value.int .i64 what, .slice ai ni ci]) := AX.out.extb hb (by omega)
       replace HB : Hid (Below w.heap.size w V102) := hb.below HB.out (by omega)
       clear hb
       have e1 : X2 = X1 := by rw [HX2.out, HX1.out]
       subst e1
       have e2 : E2 = E1 := by rw [HE2.out, HE1.out]
       subst e2
       have e3 : n2 = n1 := by rw [HN2.out, HN1.out]
       subst e3
       obtain ⟨H1, hH1⟩ : ∃ q, q = h10 E2 H X2 := ⟨_, rfl⟩
       rw [← hH1] at Sa Sr
       have s1 := str_of R1.out
       have s2 := str_of R2.out
       clear hH1 HX1 HX2 HE1 HE2 HN1 HN2
       clear AX
       go_wp2_with fail
       go_meet
       case rel => exact ⟨ky, h, n2, H1, C, rfl, Sa, Sr, HB⟩
     ·as_aux_lemma =>
       obtain ⟨r9, hr9⟩ : ∃ r, r = what.tmod 2 := ⟨_, rfl⟩
       have hr1 : what.tmod 2 = r9 := hr9.symm
       clear hr9
       by_cases h4 : r9 = 0
       ·subst h4
        obtain ⟨c0, -⟩ := AX.out.cell 0 (by decide)
        obtain ⟨c1, -⟩ := AX.out.cell 1 (by decide)
        simp only [List.getElem_cons_zero, List.getElem_cons_succ] at c0 c1
        clear AX
        have kqr := Sr.out.lt
        go_wp2_with fail
        refine (open10_c bs ky h m H C ai ni ci tx _ Sa.out (HST.out.rd.below HB.out) (HG.out.later HB.out) (by have := hg0; omega) (by have := hg1; omega) (by omega)).mono ?_
        rintro e V101 ⟨a1, m1, d1, X1, E1, n1, rfl, HX1, HE1, HN1, R1, HS', hb, hfr⟩
        have HF1 : Hid (Nq br a1 m1) := hfr.nq kqr
        replace Sa := HS'
        clear HS' hfr kqr
        replace Sr : Hid (Ny V101 br ky h m H C) := Sr.out.extb hb (by omega)
        replace HB : Hid (Below w.heap.size w V101) := hb.below HB.out (by omega)
        clear hb
        go_wp2_with fail
        refine (ropen10_c br ky h m H C ai ni ci tx _ Sr.out (HST.out.rd.below HB.out) (HQ.out.later HB.out) (by have := hq0; omega) (by have := hq1; omega) (by have := hq2; omega) (HST.out.rd.nqNew (by omega)) (by omega)).mono ?_
        rintro e V102 ⟨a2, m2, d2, X2, E2, n2, rfl, HX2, HE2, HN2, R2, HS', hb, -⟩
        replace R1 : Hid (Rd V102 a1 m1 d1 X1) := R1.out.nq hb HF1.out
        replace Sr := HS'
        clear HS' HF1
        replace Sa : Hid (My V102 bs ky h n1 (h10 E1 H tx) C) := Sa.out.extb hb (by omega)
        replace HB : Hid (Below w.heap.size w V102) := hb.below HB.out (by omega)
        clear hb
        have e1 : X2 = X1 := by rw [HX2.out, HX1.out]
        subst e1
        have e2 : E2 = E1 := by rw [HE2.out, HE1.out]
        subst e2
        have e3 : n2 = n1 := by rw [HN2.out, HN1.out]
        subst e3
        obtain ⟨H1, hH1⟩ : ∃ q, q = h10 E2 H tx := ⟨_, rfl⟩
        rw [← hH1] at Sa Sr
        have s1 := str_of R1.out
        have s2 := str_of R2.out
        clear hH1 HX1 HX2 HE1 HE2 HN1 HN2
        go_wp2_with fail
        go_meet
        case rel => exact ⟨ky, h, n2, H1, C, rfl, Sa, Sr, HB⟩
       ·have q4 : (r9 != 0) = true := by simpa using h4
        clear h4
        obtain ⟨zs, hzs⟩ : ∃ z, z = (rc10 z9l false 0 z9l z9l) := ⟨_, rfl⟩
        have hzero := zero_symm
        have hzl : zs.toArray.size = 98 := by rw [hzs]; rfl
        rw [← hzs] at hzero
        clear hzs
        have hlen := rc10_len (h := h) (n := m) Sr.out.cy.bk Sr.out.bh Sr.out.bc
        have hone := rc10_oneCell ky h m H C
        have hR := Sr.out.ao.rng
        obtain ⟨ds, hds⟩ : ∃ ds, ds = (rc10 ky h m H C) := ⟨_, rfl⟩
        have HC : Hid (ds = (rc10 ky h m H C)) := hds
        rw [← hds] at hlen hone hR
        clear hds
        have hi : (Tryz.prog.info? 38).map (·.size) = some ds.length := by rw [hlen]; kernel_rfl
        have e98 : ds.toArray.size = 98 := by simpa using hlen
        have hth := there_new W1 98 zs.toArray hzl 38
        obtain ⟨c0, -⟩ := AX.out.cell 0 (by decide)
        obtain ⟨c1, -⟩ := AX.out.cell 1 (by decide)
        simp only [List.getElem_cons_zero, List.getElem_cons_succ] at c0 c1
        go_upto_region 27 with (first
         | (refine wpList_load_mid rfl 38 (.tmp 111) rfl br 0 rfl ds _ hR Tryz.underlying38 rfl hi ?_)
         | (refine wpList_store_mid rfl 38 (.tmp 11) (.tmp 112) rfl W1.heap.size 0 ds.toArray rfl rfl (by rw [e98]; exact hth) (by simpa using hi) (all_oneCell_toArray hone) ?_))
        have Sc : Hid (Ny ((W1.alloc (.cells zs.toArray 38)).setCells W1.heap.size 0 ds) W1.heap.size ky h m H C) := Ny.ofAo (by rw [← HC.out]; exact (ar_var W1 _ 98 hzl _ _ hlen).ao) Sr.out.cy.bk Sr.out.cy.wn Sr.out.bh Sr.out.bc
        have hb : Below W1.heap.size W1 ((W1.alloc (.cells zs.toArray 38)).setCells W1.heap.size 0 ds) := bel_var _ _ _ _
        have kcs : bs < W1.heap.size := Sa.out.lt
        have kcr : br < W1.heap.size := Sr.out.lt
        have kc6 : b6 < W1.heap.size := AX.out.lt (by decide)
        have kcw : w.heap.size ≤ W1.heap.size := HB.out.size
        clear c0 c1
        replace Sa := hidp (Sa.out.later hb)
        replace Sr := hidp (Sr.out.later hb)
        replace AX := hidp (AX.out.later hb)
        replace HB := hidp (HB.out.trans (hb.mono HB.out.size))
        clear hb
        obtain ⟨W2, hW2⟩ : ∃ W, W = ((W1.alloc (.cells zs.toArray 38)).setCells W1.heap.size 0 ds) := ⟨_, rfl⟩
        obtain ⟨bc, hbc⟩ : ∃ q, q = W1.heap.size := ⟨_, rfl⟩
        rw [← hW2] at AX Sa Sr HB Sc ⊢
        rw [← hbc] at Sc kcs kcr kc6 kcw ⊢
        clear hW2 hbc hlen hone hi hR e98 hth HC hzero hzl
        have kqs := Sa.out.lt
        have kqr := Sr.out.lt
        obtain ⟨c0, -⟩ := AX.out.cell 0 (by decide)
        obtain ⟨c1, -⟩ := AX.out.cell 1 (by decide)
        simp only [List.getElem_cons_zero, List.getElem_cons_succ] at c0 c1
        go_wp2_with fail
        refine (rseal10_c bc ky h m H C ai ni ci tx _ Sc.out (HST.out.rd.below HB.out) (HQ.out.later HB.out) (by have := hq0; omega) (by have := hq1; omega) (by have := hq2; omega) (HST.out.rd.nqNew (by omega)) (by omega)).mono ?_
        rintro e V101 ⟨ax, mx, dx, XX, EX, nX, rfl, -, -, -, RX, HS', hb, hfr, hmx⟩
        have hnqs : Hid (Nq bs ax mx) := hfr bs kqs (HST.out.rd.nqNew (by omega))
        have hnqr : Hid (Nq br ax mx) := hfr br kqr (HST.out.rd.nqNew (by omega))
        replace Sc := HS'
        clear HS' hfr kqs kqr c0 c1
        replace Sa : Hid (My V101 bs ky h m H C) := Sa.out.extb hb (by omega)
        replace Sr : Hid (Ny V101 br ky h m H C) := Sr.out.extb hb (by omega)
        replace AX : Hid (Ar V101 b6 2 [Value.int .i64 what, .slice ai ni ci]) := AX.out.extb hb (by omega)
        replace HB : Hid (Below w.heap.size w V101) := hb.below HB.out (by omega)
        clear hb
        clear Sc AX
        have kqr := Sr.out.lt
        go_wp2_with fail
        refine (open10_c bs ky h m H C ax mx dx XX _ Sa.out RX.out (HG.out.later HB.out) (by have := hg0; omega) (by have := hg1; omega) (by omega)).mono ?_
        rintro e V102 ⟨a1, m1, d1, X1, E1, n1, rfl, HX1, HE1, HN1, R1, HS', hb, hfr⟩
        have HF1 : Hid (Nq br a1 m1) := hfr.nq kqr
        replace Sa := HS'
        replace RX : Hid (Rd V102 ax mx dx XX) := RX.out.nq hb hnqs.out
        clear HS' hfr kqr
        replace Sr : Hid (Ny V102 br ky h m H C) := Sr.out.extb hb (by omega)
        replace HB : Hid (Below w.heap.size w V102) := hb.below HB.out (by omega)
        clear hb
        go_wp2_with fail
        refine (ropen10_c br ky h m H C ax mx dx XX _ Sr.out RX.out (HQ.out.later HB.out) (by have := hq0; omega) (by have := hq1; omega) (by have := hq2; omega) hnqr.out (by omega)).mono ?_
        rintro e V103 ⟨a2, m2, d2, X2, E2, n2, rfl, HX2, HE2, HN2, R2, HS', hb, -⟩
        replace R1 : Hid (Rd V103 a1 m1 d1 X1) := R1.out.nq hb HF1.out
        replace Sr := HS'
        clear HS' HF1
        replace Sa : Hid (My V103 bs ky h n1 (h10 E1 H XX) C) := Sa.out.extb hb (by omega)
        replace HB : Hid (Below w.heap.size w V103) := hb.below HB.out (by omega)
        clear hb
        have e1 : X2 = X1 := by rw [HX2.out, HX1.out]
        subst e1
        have e2 : E2 = E1 := by rw [HE2.out, HE1.out]
        subst e2
        have e3 : n2 = n1 := by rw [HN2.out, HN1.out]
        subst e3
        obtain ⟨H1, hH1⟩ : ∃ q, q = h10 E2 H XX := ⟨_, rfl⟩
        rw [← hH1] at Sa Sr
        have s1 := str_of R1.out
        have s2 := str_of R2.out
        clear hH1 HX1 HX2 HE1 HE2 HN1 HN2
        go_wp2_with fail
        go_meet
        case rel => exact ⟨ky, h, n2, H1, C, rfl, Sa, Sr, HB⟩
     ·as_aux_lemma =>
       obtain ⟨r9, hr9⟩ : ∃ r, r = what.tmod 2 := ⟨_, rfl⟩
       have hr1 : what.tmod 2 = r9 := hr9.symm
       clear hr9
       by_cases h4 : r9 = 0
       ·subst h4
        obtain ⟨c0, -⟩ := AX.out.cell 0 (by decide)
        obtain ⟨c1, -⟩ := AX.out.cell 1 (by decide)
        simp only [List.getElem_cons_zero, List.getElem_cons_succ] at c0 c1
        clear AX
        have kqr := Sr.out.lt
        go_wp2_with fail
        refine (open10_c bs ky h m H C ai ni ci tx _ Sa.out (HST.out.rd.below HB.out) (HG.out.later HB.out) (by have := hg0; omega) (by have := hg1; omega) (by omega)).mono ?_
        rintro e V101 ⟨a1, m1, d1, X1, E1, n1, rfl, HX1, HE1, HN1, R1, HS', hb, hfr⟩
        have HF1 : Hid (Nq br a1 m1) := hfr.nq kqr
        replace Sa := HS'
        clear HS' hfr kqr
        replace Sr : Hid (Ny V101 br ky h m H C) := Sr.out.extb hb (by omega)
        replace HB : Hid (Below w.heap.size w V101) := hb.below HB.out (by omega)
        clear hb
        go_wp2_with fail
        refine (ropen10_c br ky h m H C ai ni ci tx _ Sr.out (HST.out.rd.below HB.out) (HQ.out.later HB.out) (by have := hq0; omega) (by have := hq1; omega) (by have := hq2; omega) (HST.out.rd.nqNew (by omega)) (by omega)).mono ?_
        rintro e V102 ⟨a2, m2, d2, X2, E2, n2, rfl, HX2, HE2, HN2, R2, HS', hb, -⟩
        replace R1 : Hid (Rd V102 a1 m1 d1 X1) := R1.out.nq hb HF1.out
        replace Sr := HS'
        clear HS' HF1
        replace Sa : Hid (My V102 bs ky h n1 (h10 E1 H tx) C) := Sa.out.extb hb (by omega)
        replace HB : Hid (Below w.heap.size w V102) := hb.below HB.out (by omega)
        clear hb
        have e1 : X2 = X1 := by rw [HX2.out, HX1.out]
        subst e1
        have e2 : E2 = E1 := by rw [HE2.out, HE1.out]
        subst e2
        have e3 : n2 = n1 := by rw [HN2.out, HN1.out]
        subst e3
        obtain ⟨H1, hH1⟩ : ∃ q, q = h10 E2 H tx := ⟨_, rfl⟩
        rw [← hH1] at Sa Sr
        have s1 := str_of R1.out
        have s2 := str_of R2.out
        clear hH1 HX1 HX2 HE1 HE2 HN1 HN2
        go_wp2_with fail
        go_meet
        case rel => exact ⟨ky, h, n2, H1, C, rfl, Sa, Sr, HB⟩
       ·have q4 : (r9 != 0) = true := by simpa using h4
        clear h4
        obtain ⟨zs, hzs⟩ : ∃ z, z = (rc10 z9l false 0 z9l z9l) := ⟨_, rfl⟩
        have hzero := zero_symm
        have hzl : zs.toArray.size = 98 := by rw [hzs]; rfl
        rw [← hzs] at hzero
        clear hzs
        have hlen := rc10_len (h := h) (n := m) Sr.out.cy.bk Sr.out.bh Sr.out.bc
        have hone := rc10_oneCell ky h m H C
        have hR := Sr.out.ao.rng
        obtain ⟨ds, hds⟩ : ∃ ds, ds = (rc10 ky h m H C) := ⟨_, rfl⟩
        have HC : Hid (ds = (rc10 ky h m H C)) := hds
        rw [← hds] at hlen hone hR
        clear hds
        have hi : (Tryz.prog.info? 38).map (·.size) = some ds.length := by rw [hlen]; kernel_rfl
        have e98 : ds.toArray.size = 98 := by simpa using hlen
        have hth := there_new W1 98 zs.toArray hzl 38
        obtain ⟨c0, -⟩ := AX.out.cell 0 (by decide)
        obtain ⟨c1, -⟩ := AX.out.cell 1 (by decide)
        simp only [List.getElem_cons_zero, List.getElem_cons_succ] at c0 c1
        go_upto_region 27 with (first
         | (refine wpList_load_mid rfl 38 (.tmp 111) rfl br 0 rfl ds _ hR Tryz.underlying38 rfl hi ?_)
         | (refine wpList_store_mid rfl 38 (.tmp 11) (.tmp 112) rfl W1.heap.size 0 ds.toArray rfl rfl (by rw [e98]; exact hth) (by simpa using hi) (all_oneCell_toArray hone) ?_))
        have Sc : Hid (Ny ((W1.alloc (.cells zs.toArray 38)).setCells W1.heap.size 0 ds) W1.heap.size ky h m H C) := Ny.ofAo (by rw [← HC.out]; exact (ar_var W1 _ 98 hzl _ _ hlen).ao) Sr.out.cy.bk Sr.out.cy.wn Sr.out.bh Sr.out.bc
        have hb : Below W1.heap.size W1 ((W1.alloc (.cells zs.toArray 38)).setCells W1.heap.size 0 ds) := bel_var _ _ _ _
        have kcs : bs < W1.heap.size := Sa.out.lt
        have kcr : br < W1.heap.size := Sr.out.lt
        have kc6 : b6 < W1.heap.size := AX.out.lt (by decide)
        have kcw : w.heap.size ≤ W1.heap.size := HB.out.size
        clear c0 c1
        replace Sa := hidp (Sa.out.later hb)
        replace Sr := hidp (Sr.out.later hb)
        replace AX := hidp (AX.out.later hb)
        replace HB := hidp (HB.out.trans (hb.mono HB.out.size))
        clear hb
        obtain ⟨W2, hW2⟩ : ∃ W, W = ((W1.alloc (.cells zs.toArray 38)).setCells W1.heap.size 0 ds) := ⟨_, rfl⟩
        obtain ⟨bc, hbc⟩ : ∃ q, q = W1.heap.size := ⟨_, rfl⟩
        rw [← hW2] at AX Sa Sr HB Sc ⊢
        rw [← hbc] at Sc kcs kcr kc6 kcw ⊢
        clear hW2 hbc hlen hone hi hR e98 hth HC hzero hzl
        have kqs := Sa.out.lt
        have kqr := Sr.out.lt
        obtain ⟨c0, -⟩ := AX.out.cell 0 (by decide)
        obtain ⟨c1, -⟩ := AX.out.cell 1 (by decide)
        simp only [List.getElem_cons_zero, List.getElem_cons_succ] at c0 c1
        go_wp2_with fail
        refine (rseal10_c bc ky h m H C ai ni ci tx _ Sc.out (HST.out.rd.below HB.out) (HQ.out.later HB.out) (by have := hq0; omega) (by have := hq1; omega) (by have := hq2; omega) (HST.out.rd.nqNew (by omega)) (by omega)).mono ?_
        rintro e V101 ⟨ax, mx, dx, XX, EX, nX, rfl, -, -, -, RX, HS', hb, hfr, hmx⟩
        have hnqs : Hid (Nq bs ax mx) := hfr bs kqs (HST.out.rd.nqNew (by omega))
        have hnqr : Hid (Nq br ax mx) := hfr br kqr (HST.out.rd.nqNew (by omega))
        replace Sc := HS'
        clear HS' hfr kqs kqr c0 c1
        replace Sa : Hid (My V101 bs ky h m H C) := Sa.out.extb hb (by omega)
        replace Sr : Hid (Ny V101 br ky h m H C) := Sr.out.extb hb (by omega)
        replace AX : Hid (Ar V101 b6 2 [Value.int .i64 what, .slice ai ni ci]) := AX.out.extb hb (by omega)
        replace HB : Hid (Below w.heap.size w V101) := hb.below HB.out (by omega)
        clear hb
        clear Sc AX
        have kqr := Sr.out.lt
        go_wp2_with fail
        refine (open10_c bs ky h m H C ax mx dx XX _ Sa.out RX.out (HG.out.later HB.out) (by have := hg0; omega) (by have := hg1; omega) (by omega)).mono ?_
        rintro e V102 ⟨a1, m1, d1, X1, E1, n1, rfl, HX1, HE1, HN1, R1, HS', hb, hfr⟩
        have HF1 : Hid (Nq br a1 m1) := hfr.nq kqr
        replace Sa := HS'
        replace RX : Hid (Rd V102 ax mx dx XX) := RX.out.nq hb hnqs.out
        clear HS' hfr kqr
        replace Sr : Hid (Ny V102 br ky h m H C) := Sr.out.extb hb (by omega)
        replace HB : Hid (Below w.heap.size w V102) := hb.below HB.out (by omega)
        clear hb
        go_wp2_with fail
        refine (ropen10_c br ky h m H C ax mx dx XX _ Sr.out RX.out (HQ.out.later HB.out) (by have := hq0; omega) (by have := hq1; omega) (by have := hq2; omega) hnqr.out (by omega)).mono ?_
        rintro e V103 ⟨a2, m2, d2, X2, E2, n2, rfl, HX2, HE2, HN2, R2, HS', hb, -⟩
        replace R1 : Hid (Rd V103 a1 m1 d1 X1) := R1.out.nq hb HF1.out
        replace Sr := HS'
        clear HS' HF1
        replace Sa : Hid (My V103 bs ky h n1 (h10 E1 H XX) C) := Sa.out.extb hb (by omega)
        replace HB : Hid (Below w.heap.size w V103) := hb.below HB.out (by omega)
        clear hb
        have e1 : X2 = X1 := by rw [HX2.out, HX1.out]
        subst e1
        have e2 : E2 = E1 := by rw [HE2.out, HE1.out]
        subst e2
        have e3 : n2 = n1 := by rw [HN2.out, HN1.out]
        subst e3
        obtain ⟨H1, hH1⟩ : ∃ q, q = h10 E2 H XX := ⟨_, rfl⟩
        rw [← hH1] at Sa Sr
        have s1 := str_of R1.out
        have s2 := str_of R2.out
        clear hH1 HX1 HX2 HE1 HE2 HN1 HN2
        go_wp2_with fail
        go_meet
        case rel => exact ⟨ky, h, n2, H1, C, rfl, Sa, Sr, HB⟩
     ·as_aux_lemma =>
       clear AX
       go_wp2_with fail
       refine (split10_c bs ky h m H C _ Sa.out (HG.out.later HB.out)).mono ?_
       rintro e V101 ⟨c1, c2, K1, K2, rfl, HK1, HK2, S1, S2, -, -, -, hb⟩
       replace Sa := hidp (Sa.out.later hb)
       replace Sr := hidp (Sr.out.later hb)
       replace HB := hidp (HB.out.trans (hb.mono HB.out.size))
       clear hb
       go_wp2_with fail
       refine (rsplit10_c br ky h m H C _ Sr.out (HQ.out.later HB.out)).mono ?_
       rintro e V102 ⟨c3, c4, K3, K4, rfl, HK3, HK4, S3, S4, hb⟩
       replace Sa := hidp (Sa.out.later hb)
       replace Sr := hidp (Sr.out.later hb)
       replace S1 := hidp (S1.out.later hb)
       replace S2 := hidp (S2.out.later hb)
       replace HB := hidp (HB.out.trans (hb.mono HB.out.size))
       clear hb
       have e3 : K3 = K1 := by rw [HK3.out, HK1.out]
       subst e3
       have e4 : K4 = K2 := by rw [HK4.out, HK2.out]
       subst e4
       clear HK1 HK2 HK3 HK4
       obtain ⟨U, hU⟩ : ∃ U, U = V102 := ⟨_, rfl⟩
       rw [← hU] at Sa Sr HB S1 S2 S3 S4 ⊢
       clear hU
       obtain ⟨_, _, hi3⟩ := bn32_cells S3.out.bk
       obtain ⟨_, _, hi4⟩ := bn32_cells S4.out.bk
       have heq3 : ∀ u, Sem.run Tryz.prog (binOp .eql 33 (.agg (List.map (Value.int .u8) K3).toArray) (.agg (List.map (Value.int .u8) K3).toArray)) u = .ok (.bool true) u := fun u => eql32 K3 K3 S3.out.bk (rfl) u
       have heq4 : ∀ u, Sem.run Tryz.prog (binOp .eql 33 (.agg (List.map (Value.int .u8) K4).toArray) (.agg (List.map (Value.int .u8) K4).toArray)) u = .ok (.bool true) u := fun u => eql32 K4 K4 S4.out.bk (rfl) u
       go_upto_region 34 with fail
       refine wp_region_noPanic ?_
       refine wp_region_held_drew (S := Ext U) (by kernel_rfl) (Ext.refl _).drew (fun hH => ?_)
       change wpAnyH _ _ _ _ _ _ #[false, false, false, false, false, false, false, false, false, false, false, false, false, false, false, false, false, false, false, false, false, false, false, false, false, false, false, false, false, false] _ _
       refine tk 0 ?_
       try simp only [Act.put, List.setIfInBounds_toArray, List.set_cons_zero, List.set_cons_succ]
       refine tk 1 ?_
       try simp only [Act.put, List.setIfInBounds_toArray, List.set_cons_zero, List.set_cons_succ]
       refine tk 2 ?_
       try simp only [Act.put, List.setIfInBounds_toArray, List.set_cons_zero, List.set_cons_succ]
       refine tk 3 ?_
       try simp only [Act.put, List.setIfInBounds_toArray, List.set_cons_zero, List.set_cons_succ]
       refine tk 4 ?_
       try simp only [Act.put, List.setIfInBounds_toArray, List.set_cons_zero, List.set_cons_succ]
       refine tk 5 ?_
       try simp only [Act.put, List.setIfInBounds_toArray, List.set_cons_zero, List.set_cons_succ]
       refine tk 6 ?_
       try simp only [Act.put, List.setIfInBounds_toArray, List.set_cons_zero, List.set_cons_succ]
       refine tk 7 ?_
       try simp only [Act.put, List.setIfInBounds_toArray, List.set_cons_zero, List.set_cons_succ]
       refine tk 9 ?_
       try simp only [Act.put, List.setIfInBounds_toArray, List.set_cons_zero, List.set_cons_succ]
       refine tk 10 ?_
       try simp only [Act.put, List.setIfInBounds_toArray, List.set_cons_zero, List.set_cons_succ]
       refine tk 11 ?_
       try simp only [Act.put, List.setIfInBounds_toArray, List.set_cons_zero, List.set_cons_succ]
       refine tkl 12 (.agg (List.map (Value.int .u8) K3).toArray) ?_ (hy := by exact yieldsIf_load_mid (by rfl) 33 (.tmp 164) rfl c3 1 rfl (List.map (Value.int .u8) K3) _ (fun u hu => range_later hu S3.out.key) Tryz.underlying33 rfl hi3)
       try simp only [Act.put, List.setIfInBounds_toArray, List.set_cons_zero, List.set_cons_succ]
       refine rdy 8 (fun K hK => ?_)
       go_simp
       refine (key9_c c1 K3 true 0 _ (S1.out.later hH)).mono ?_
       rintro e VA ⟨rfl, hb⟩
       refine hK.out _ _ (hH.trans hb) (fun hH' => ?_)
       clear hK K hH; have hH := hH'; clear hH'; try simp only [List.setIfInBounds_toArray, List.set]
       clear hb
       refine tk 13 ?_
       try simp only [Act.put, List.setIfInBounds_toArray, List.set_cons_zero, List.set_cons_succ]
       refine tk 14 ?_
       try simp only [Act.put, List.setIfInBounds_toArray, List.set_cons_zero, List.set_cons_succ]
       refine tk 15 ?_
       try simp only [Act.put, List.setIfInBounds_toArray, List.set_cons_zero, List.set_cons_succ]
       refine tk 16 ?_
       try simp only [Act.put, List.setIfInBounds_toArray, List.set_cons_zero, List.set_cons_succ]
       refine tk 18 ?_
       try simp only [Act.put, List.setIfInBounds_toArray, List.set_cons_zero, List.set_cons_succ]
       refine tk 19 ?_
       try simp only [Act.put, List.setIfInBounds_toArray, List.set_cons_zero, List.set_cons_succ]
       refine tk 20 ?_
       try simp only [Act.put, List.setIfInBounds_toArray, List.set_cons_zero, List.set_cons_succ]
       refine tkl 21 (.agg (List.map (Value.int .u8) K4).toArray) ?_ (hy := by exact yieldsIf_load_mid (by rfl) 33 (.tmp 173) rfl c4 1 rfl (List.map (Value.int .u8) K4) _ (fun u hu => range_later hu S4.out.key) Tryz.underlying33 rfl hi4)
       try simp only [Act.put, List.setIfInBounds_toArray, List.set_cons_zero, List.set_cons_succ]
       refine rdy 17 (fun K hK => ?_)
       go_simp
       refine (key9_c c2 K4 true 0 _ (S2.out.later hH)).mono ?_
       rintro e VB ⟨rfl, hb⟩
       refine hK.out _ _ (hH.trans hb) (fun hH' => ?_)
       clear hK K hH; have hH := hH'; clear hH'; try simp only [List.setIfInBounds_toArray, List.set]
       clear hb
       refine tk 22 ?_
       try simp only [Act.put, List.setIfInBounds_toArray, List.set_cons_zero, List.set_cons_succ]
       refine tk 23 ?_
       try simp only [Act.put, List.setIfInBounds_toArray, List.set_cons_zero, List.set_cons_succ]
       refine tk 24 ?_
       try simp only [Act.put, List.setIfInBounds_toArray, List.set_cons_zero, List.set_cons_succ]
       refine tk 25 ?_
       try simp only [Act.put, List.setIfInBounds_toArray, List.set_cons_zero, List.set_cons_succ]
       refine rdy 26 (fun K hK => ?_)
       go_simp
       refine (nonce9_c c1 K3 true 0 _ (S1.out.later hH)).mono ?_
       rintro e VC ⟨rfl, hw⟩
       rw [hw]
       clear hw VC
       refine hK.out _ _ hH (fun hH' => ?_)
       clear hK K hH; have hH := hH'; clear hH'; try simp only [List.setIfInBounds_toArray, List.set]
       refine tk 27 ?_
       try simp only [Act.put, List.setIfInBounds_toArray, List.set_cons_zero, List.set_cons_succ]
       refine tk 28 ?_
       try simp only [Act.put, List.setIfInBounds_toArray, List.set_cons_zero, List.set_cons_succ]
       refine tk 29 ?_
       try simp only [Act.put, List.setIfInBounds_toArray, List.set_cons_zero, List.set_cons_succ]
       refine wpAnyH_done (by kernel_rfl) ?_ _
       refine NoPanic.normal ?_
       have hb2 : Below U.heap.size U VB := hH
       replace Sa := hidp (Sa.out.later hb2)
       replace Sr := hidp (Sr.out.later hb2)
       replace HB := hidp (HB.out.trans (hb2.mono HB.out.size))
       clear hH hb2 S1 S2 S3 S4 heq3 heq4 hi3 hi4
       go_wp2_with fail
       go_meet
       case rel => exact ⟨ky, h, m, H, C, rfl, Sa, Sr, HB⟩
    case rest =>
     as_aux_lemma =>
      obtain ⟨ky', h', m', H', C', rfl, Sa', Sr', HB'⟩ := hcut
      clear Sa Sr HB AX
      obtain ⟨U, hU⟩ : ∃ U, U = wc := ⟨_, rfl⟩
      rw [← hU] at Sa' Sr' HB' ⊢
      clear hU
      have Sa := Sa'
      have Sr := Sr'
      have HB := HB'
      clear Sa' Sr' HB'
      go_upto_region 35 with fail
      refine wp_region_noPanic ?_
      refine wp_region_held_drew (S := Ext U) (by kernel_rfl) (Ext.refl _).drew (fun hH => ?_)
      change wpAnyH _ _ _ _ _ _ #[false, false, false, false, false, false, false, false, false, false, false, false, false, false, false, false, false, false, false, false, false, false, false, false, false, false, false, false, false, false] _ _
      obtain ⟨_, _, hiH⟩ := bn32_cells Sr.out.bh
      obtain ⟨_, _, hiC⟩ := bn32_cells Sr.out.bc
      obtain ⟨ch, -⟩ := Sr.out.cy.has
      have hxh : ∀ u, Ext U u → u.cell? ⟨br, 0, none⟩ = some (.bool h') := fun u hu => hu.cell ch
      clear ch
      refine tk 0 ?_
      try simp only [Act.put, List.setIfInBounds_toArray, List.set_cons_zero, List.set_cons_succ]
      refine tk 1 ?_
      try simp only [Act.put, List.setIfInBounds_toArray, List.set_cons_zero, List.set_cons_succ]
      refine tk 2 ?_
      try simp only [Act.put, List.setIfInBounds_toArray, List.set_cons_zero, List.set_cons_succ]
      refine tk 3 ?_
      try simp only [Act.put, List.setIfInBounds_toArray, List.set_cons_zero, List.set_cons_succ]
      refine tk 5 ?_
      try simp only [Act.put, List.setIfInBounds_toArray, List.set_cons_zero, List.set_cons_succ]
      refine tk 6 ?_
      try simp only [Act.put, List.setIfInBounds_toArray, List.set_cons_zero, List.set_cons_succ]
      refine tk 7 ?_
      try simp only [Act.put, List.setIfInBounds_toArray, List.set_cons_zero, List.set_cons_succ]
      refine tkl 8 (.agg (List.map (Value.int .u8) H').toArray) ?_ (hy := by exact yieldsIf_load_mid (by rfl) 33 (.tmp 189) rfl br 34 rfl (List.map (Value.int .u8) H') _ (fun u hu => range_later hu Sr.out.ho.rng) Tryz.underlying33 rfl hiH)
      try simp only [Act.put, List.setIfInBounds_toArray, List.set_cons_zero, List.set_cons_succ]
      refine rdy 4 (fun K hK => ?_)
      go_simp
      refine (hash10_c bs ky' h' m' H' C' _ (Sa.out.later hH)).mono ?_
      rintro e V60 ⟨rfl, hb⟩
      refine hK.out _ _ (hH.trans hb) (fun hH' => ?_)
      clear hK K hH; have hH := hH'; clear hH'; try simp only [List.setIfInBounds_toArray, List.set]
      clear hb
      have hne : ∀ u, Sem.run Tryz.prog (binOp .neq 33 (.agg (List.map (Value.int .u8) H').toArray) (.agg (List.map (Value.int .u8) H').toArray)) u = .ok (.bool false) u := fun u => neq32 H' H' Sr.out.bh (rfl) u
      refine tk 9 ?_
      try simp only [Act.put, List.setIfInBounds_toArray, List.set_cons_zero, List.set_cons_succ]
      clear hne
      refine tk 10 ?_
      try simp only [Act.put, List.setIfInBounds_toArray, List.set_cons_zero, List.set_cons_succ]
      refine tk 11 ?_
      try simp only [Act.put, List.setIfInBounds_toArray, List.set_cons_zero, List.set_cons_succ]
      refine tk 12 ?_
      try simp only [Act.put, List.setIfInBounds_toArray, List.set_cons_zero, List.set_cons_succ]
      refine tk 14 ?_
      try simp only [Act.put, List.setIfInBounds_toArray, List.set_cons_zero, List.set_cons_succ]
      refine tk 15 ?_
      try simp only [Act.put, List.setIfInBounds_toArray, List.set_cons_zero, List.set_cons_succ]
      refine tk 16 ?_
      try simp only [Act.put, List.setIfInBounds_toArray, List.set_cons_zero, List.set_cons_succ]
      refine tkl 17 (.agg (List.map (Value.int .u8) C').toArray) ?_ (hy := by exact yieldsIf_load_mid (by rfl) 33 (.tmp 198) rfl br 66 rfl (List.map (Value.int .u8) C') _ (fun u hu => range_later hu Sr.out.co.rng) Tryz.underlying33 rfl hiC)
      try simp only [Act.put, List.setIfInBounds_toArray, List.set_cons_zero, List.set_cons_succ]
      refine rdy 13 (fun K hK => ?_)
      go_simp
      refine (chain10_c bs ky' h' m' H' C' _ (Sa.out.later hH)).mono ?_
      rintro e V61 ⟨rfl, hb⟩
      refine hK.out _ _ (hH.trans hb) (fun hH' => ?_)
      clear hK K hH; have hH := hH'; clear hH'; try simp only [List.setIfInBounds_toArray, List.set]
      clear hb
      have hne : ∀ u, Sem.run Tryz.prog (binOp .neq 33 (.agg (List.map (Value.int .u8) C').toArray) (.agg (List.map (Value.int .u8) C').toArray)) u = .ok (.bool false) u := fun u => neq32 C' C' Sr.out.bc (rfl) u
      refine tk 18 ?_
      try simp only [Act.put, List.setIfInBounds_toArray, List.set_cons_zero, List.set_cons_succ]
      clear hne
      refine tk 19 ?_
      try simp only [Act.put, List.setIfInBounds_toArray, List.set_cons_zero, List.set_cons_succ]
      refine tk 20 ?_
      try simp only [Act.put, List.setIfInBounds_toArray, List.set_cons_zero, List.set_cons_succ]
      refine tk 21 ?_
      try simp only [Act.put, List.setIfInBounds_toArray, List.set_cons_zero, List.set_cons_succ]
      refine tk 23 ?_
      try simp only [Act.put, List.setIfInBounds_toArray, List.set_cons_zero, List.set_cons_succ]
      refine tk 24 ?_
      try simp only [Act.put, List.setIfInBounds_toArray, List.set_cons_zero, List.set_cons_succ]
      refine tk 25 ?_
      try simp only [Act.put, List.setIfInBounds_toArray, List.set_cons_zero, List.set_cons_succ]
      refine tk 26 ?_
      try simp only [Act.put, List.setIfInBounds_toArray, List.set_cons_zero, List.set_cons_succ]
      refine tk 27 ?_ (hy := by (intro u hu; (have hx := hxh u hu; go_simp) <;> with_reducible rfl))
      try simp only [Act.put, List.setIfInBounds_toArray, List.set_cons_zero, List.set_cons_succ]
      refine rdy 22 (fun K hK => ?_)
      go_simp
      refine (haskey10_c bs ky' h' m' H' C' _ (Sa.out.later hH)).mono ?_
      rintro e V62 ⟨rfl, hw⟩
      rw [hw]
      clear hw V62
      refine hK.out _ _ hH (fun hH' => ?_)
      clear hK K hH; have hH := hH'; clear hH'; try simp only [List.setIfInBounds_toArray, List.set]
      refine tk 28 ?_
      try simp only [Act.put, List.setIfInBounds_toArray, List.set_cons_zero, List.set_cons_succ]
      refine tk 29 ?_
      try simp only [Act.put, List.setIfInBounds_toArray, List.set_cons_zero, List.set_cons_succ]
      refine wpAnyH_done (by kernel_rfl) ?_ _
      refine NoPanic.normal ?_
      have hb2 : Below U.heap.size U V61 := hH
      replace Sa := hidp (Sa.out.later hb2)
      replace Sr := hidp (Sr.out.later hb2)
      replace HB := hidp (HB.out.trans (hb2.mono HB.out.size))
      clear hb2 hH hxh hiH hiC
      go_wp2
      go_roundw
      case rel => exact ⟨k + 1, ky', h', m', H', C', by go_num, by omega, Sa, Sr, HB⟩
      case measure => simp [intOf]; omega
   ·have q2 : ¬ (k : Int) < 16 := by omega
    go_wp2
    go_ret
    exact ⟨rfl, HB.out⟩
  ·have q1 : ¬ (k : Int) < lT := by omega
   go_wp2
   go_ret
   exact ⟨rfl, HB.out⟩
end Go.Proofs.YtmibjgkakolhiaaGreatDoor
