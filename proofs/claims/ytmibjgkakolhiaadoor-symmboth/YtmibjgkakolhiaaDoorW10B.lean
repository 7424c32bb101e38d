/-
  SymmBoth's walk. No statement of the seat is proved here.
-/
import Derived.Test.YtmibjgkakolhiaaDoorPk33
import Derived.Test.YtmibjgkakolhiaaDoorYSeal
import Derived.Test.YtmibjgkakolhiaaDoorPk44
import Derived.Test.YtmibjgkakolhiaaDoorPk46
import Derived.Deep.CutBlock
namespace Go.Proofs.YtmibjgkakolhiaaDoor
open Go.RowKit

set_option maxRecDepth 8000 in
theorem se9_zero (h : Bool) {n : Int} (hn : n ≠ 18446744073709551615) : se9 h n = 0 := by
  unfold se9
  cases h with
  | false => rfl
  | true => rw [if_pos rfl, if_neg hn]
set_option maxRecDepth 8000 in
theorem sn9_le (h : Bool) (n : Int) : sn9 h n ≤ n + 1 := by
  unfold sn9
  split
  · split <;> omega
  · omega
set_option maxRecDepth 8000 in
theorem oe9_back (k : List Int) (h : Bool) {n : Int} (H t : List Int) (hn : n ≠ 18446744073709551615) : oe9 k h n H (sx9 k h n H t) = 0 := by
  unfold oe9 sx9
  cases h with
  | false => rfl
  | true => rw [if_pos rfl, if_neg hn, if_pos rfl, if_neg hn]; exact er6_back _ _ _ _
set_option maxRecDepth 8000 in
theorem ox9_back (k : List Int) (h : Bool) {n : Int} (H : List Int) {t : List Int} (hn : n ≠ 18446744073709551615) (ht : Byt t) : ox9 k h n H (sx9 k h n H t) = t := by
  unfold ox9 sx9
  cases h with
  | false => rfl
  | true => rw [if_pos rfl, if_neg hn, if_pos rfl, if_neg hn]; exact op6_back _ _ _ ht
set_option maxRecDepth 8000 in
theorem on9_back (k : List Int) (h : Bool) {n : Int} (H t : List Int) (hn : n ≠ 18446744073709551615) : on9 k h n H (sx9 k h n H t) = sn9 h n := by
  unfold on9 sx9 sn9
  cases h with
  | false => rfl
  | true => rw [if_pos rfl, if_neg hn, if_pos rfl, if_neg hn, if_pos (er6_back _ _ _ _), if_pos rfl, if_neg hn]
set_option maxRecDepth 8000 in
set_option maxHeartbeats 16000000 in
theorem symmBoth_walk (aT : Option Addr) (lT cT : Nat) (w : World) (ht : RdT 140737488351232 w aT lT) (hg : Gb w) :
    Calls Tryd.prog 4 #[.slice aT lT cT] w fun e w' => e = .returned (.bool true) ∧ Below w.heap.size w w' := by
  have HT : Hid (RdT 140737488351232 w aT lT) := ht
  have HG : Hid (Gb w) := hg
  have hg0 := hg.ivlt
  have hg1 := hg.sglt
  clear ht hg
  go_enter Tryd.func4, Tryd.ntmps4
  go_wp2_with fail
  refine (new10_c { data := #[120] } _ HG.out (by decide)).mono ?_
  rintro e V1 ⟨ba, N, rfl, kba, HN, Sa, hb⟩
  have HB : Hid (Below w.heap.size w V1) := hb
  clear hb
  go_wp2_with fail
  refine (new10_c { data := #[120] } _ (HG.out.later HB.out) (by decide)).mono ?_
  rintro e V2 ⟨bb, N2, rfl, kbb, HN2, Sb, hb⟩
  have hab : ba < bb := by have := Sa.out.lt; omega
  replace kbb : w.heap.size ≤ bb := Nat.le_trans HB.out.size kbb
  replace Sa : Hid (My V2 ba z9l false 0 N N) := Sa.out.later hb
  replace HB : Hid (Below w.heap.size w V2) := HB.out.trans (hb.mono HB.out.size)
  clear hb
  have hN2 : N2 = N := by rw [HN2.out, HN.out]
  subst hN2
  clear HN HN2
  go_wp2_with fail
  refine (known10_any _ (HG.out.later HB.out)).mono ?_
  rintro e V3 ⟨rfl, hb⟩
  replace Sa : Hid (My V3 ba z9l false 0 N2 N2) := Sa.out.later hb
  replace Sb : Hid (My V3 bb z9l false 0 N2 N2) := Sb.out.later hb
  replace HB : Hid (Below w.heap.size w V3) := HB.out.trans (hb.mono HB.out.size)
  clear hb
  go_wp2
  go_loopw [5] (fun iv wr => ∃ (k : Nat) (ky : List Int) (h : Bool) (m : Int) (H C : List Int), iv = .int .i64 k ∧ k ≤ 16 ∧ m ≤ (k : Int) ∧ Hid (My wr ba ky h m H C) ∧ Hid (My wr bb ky h m H C) ∧ Hid (Below w.heap.size w wr)) (fun iv _ => 16 - (intOf iv).toNat)
  case atStart => exact ⟨0, z9l, false, 0, N2, N2, rfl, by decide, by decide, Sa, Sb, HB⟩
  case round =>
    clear Sa Sb HB
    obtain ⟨k, ky, h, m, H, C, rfl, hk16, hmk, Sa, Sb, HB⟩ := hrel
    by_cases h1 : k < lT
    · have q1 : (k : Int) < lT := by omega
      by_cases h2 : k < 16
      · have q2 : (k : Int) < 16 := by omega
        obtain ⟨bT, oT, rfl, hcT⟩ := HT.out.cell (by omega)
        obtain ⟨what, ai, ni, ci, tx, hst⟩ := hcT k h1
        have HST : Hid (St10 140737488351232 w bT (oT + k * 2) what ai ni ci tx) := hst
        have hni := hst.le
        clear hcT hst
        obtain ⟨cs, hcs⟩ : ∃ cs, cs = [Value.int .i64 what, .slice ai ni ci] := ⟨_, rfl⟩
        have HC : Hid (cs = [Value.int .i64 what, .slice ai ni ci]) := hcs
        have hlen : cs.length = 2 := by rw [hcs]; rfl
        have hone : ∀ v ∈ cs, v.oneCell' = true := by
          rw [hcs]
          intro v hv
          simp only [List.mem_cons, List.not_mem_nil, or_false] at hv
          rcases hv with rfl | rfl <;> rfl
        have hi : (Tryd.prog.info? 41).map (·.size) = some cs.length := by rw [hlen]; kernel_rfl
        have hR : wr.rangeAt bT (oT + k * 2) cs := by rw [hcs]; exact range_later HB.out HST.out.rng
        clear hcs
        have e2 : cs.toArray.size = 2 := by simpa using hlen
        have hth := there_new wr 2 #[.int .i64 0, .slice none 0 0] rfl 41
        go_upto_region 9 with (first
          | (refine wpList_load_mid rfl 41 (.tmp 35) rfl bT (oT + k * 2) rfl cs _ hR Tryd.underlying41 rfl hi ?_)
          | (refine wpList_store_mid rfl 41 (.tmp 6) (.tmp 36) rfl wr.heap.size 0 cs.toArray rfl rfl (by rw [e2]; exact hth) (by simpa using hi) (all_oneCell_toArray hone) ?_))
        have AX : Hid (Ar ((wr.alloc (.cells #[.int .i64 0, .slice none 0 0] 41)).setCells wr.heap.size 0 cs) wr.heap.size 2 [Value.int .i64 what, .slice ai ni ci]) := by rw [← HC.out]; exact ar_var wr _ 2 rfl _ _ hlen
        have hb : Below wr.heap.size wr ((wr.alloc (.cells #[.int .i64 0, .slice none 0 0] 41)).setCells wr.heap.size 0 cs) := bel_var _ _ _ _
        have k6Sa := Sa.out.lt
        replace Sa : Hid (My ((wr.alloc (.cells #[.int .i64 0, .slice none 0 0] 41)).setCells wr.heap.size 0 cs) ba ky h m H C) := Sa.out.later hb
        have k6Sb := Sb.out.lt
        replace Sb : Hid (My ((wr.alloc (.cells #[.int .i64 0, .slice none 0 0] 41)).setCells wr.heap.size 0 cs) bb ky h m H C) := Sb.out.later hb
        have k6w : w.heap.size ≤ wr.heap.size := HB.out.size
        replace HB : Hid (Below w.heap.size w ((wr.alloc (.cells #[.int .i64 0, .slice none 0 0] 41)).setCells wr.heap.size 0 cs)) := HB.out.trans (hb.mono HB.out.size)
        obtain ⟨W1, hW1⟩ : ∃ W, W = ((wr.alloc (.cells #[.int .i64 0, .slice none 0 0] 41)).setCells wr.heap.size 0 cs) := ⟨_, rfl⟩
        obtain ⟨b6, hb6⟩ : ∃ q, q = wr.heap.size := ⟨_, rfl⟩
        rw [← hW1] at AX HB Sa Sb ⊢
        rw [← hb6] at AX k6w k6Sa k6Sb ⊢
        clear hW1 hb6 hb hlen hone hi hR e2 hth HC
        obtain ⟨c0, -⟩ := AX.out.cell 0 (by decide)
        obtain ⟨c1, -⟩ := AX.out.cell 1 (by decide)
        simp only [List.getElem_cons_zero, List.getElem_cons_succ] at c0 c1
        go_wp2_with fail
        refine (pick_any what 4 HST.out.bw (by decide) _).mono ?_
        rintro e V20 ⟨p, rfl, p0, p1, hw⟩
        rw [hw]
        clear hw V20 c0 c1
        go_upto_block 2 with fail
        go_cut [7, 8, 9, 10] from 23 (fun _ _ _ _ wx => ∃ (ky' : List Int) (h' : Bool) (m' : Int) (H' C' : List Int), m' ≤ (k : Int) + 1 ∧ Hid (My wx ba ky' h' m' H' C') ∧ Hid (My wx bb ky' h' m' H' C') ∧ Hid (Below w.heap.size w wx))
        case first =>
          rcases (show p = 0 ∨ p = 1 ∨ p = 2 ∨ p = 3 by omega) with rfl | rfl | rfl | rfl
          · as_aux_lemma =>
              obtain ⟨c0, -⟩ := AX.out.cell 0 (by decide)
              obtain ⟨c1, -⟩ := AX.out.cell 1 (by decide)
              simp only [List.getElem_cons_zero, List.getElem_cons_succ] at c0 c1
              go_wp2_with fail
              refine (mixkey10_c ba ky h m H C ai ni ci tx _ Sa.out (HST.out.rd.below HB.out) (HG.out.later HB.out) (by omega)).mono ?_
              rintro e V31 ⟨K1, C1, rfl, HCK1, HKK1, HS', hb⟩
              replace Sa := HS'
              clear HS' c0 c1
              replace Sb : Hid (My V31 bb ky h m H C) := Sb.out.extb hb (by omega)
              replace AX : Hid (Ar V31 b6 2 [Value.int .i64 what, .slice ai ni ci]) := AX.out.extb hb (by omega)
              replace HB : Hid (Below w.heap.size w V31) := hb.below HB.out (by omega)
              clear hb
              obtain ⟨c0, -⟩ := AX.out.cell 0 (by decide)
              obtain ⟨c1, -⟩ := AX.out.cell 1 (by decide)
              simp only [List.getElem_cons_zero, List.getElem_cons_succ] at c0 c1
              go_wp2_with fail
              refine (mixkey10_c bb ky h m H C ai ni ci tx _ Sb.out (HST.out.rd.below HB.out) (HG.out.later HB.out) (by omega)).mono ?_
              rintro e V32 ⟨K2, C2, rfl, HCK2, HKK2, HS', hb⟩
              replace Sb := HS'
              clear HS' c0 c1
              replace Sa : Hid (My V32 ba K1 true 0 H C1) := Sa.out.extb hb (by omega)
              replace AX : Hid (Ar V32 b6 2 [Value.int .i64 what, .slice ai ni ci]) := AX.out.extb hb (by omega)
              replace HB : Hid (Below w.heap.size w V32) := hb.below HB.out (by omega)
              clear hb
              have eK : K2 = K1 := by rw [HKK2.out, HKK1.out]
              have eC : C2 = C1 := by rw [HCK2.out, HCK1.out]
              subst eK eC
              clear AX HKK1 HKK2 HCK1 HCK2
              go_wp2_with fail
              go_meet
              case rel => exact ⟨K2, true, 0, H, C2, by omega, Sa, Sb, HB⟩
          · as_aux_lemma =>
              obtain ⟨c0, -⟩ := AX.out.cell 0 (by decide)
              obtain ⟨c1, -⟩ := AX.out.cell 1 (by decide)
              simp only [List.getElem_cons_zero, List.getElem_cons_succ] at c0 c1
              go_wp2_with fail
              refine (mixhash10_c ba ky h m H C ai ni ci tx _ Sa.out (HST.out.rd.below HB.out) (HG.out.later HB.out) (by omega)).mono ?_
              rintro e V31 ⟨rfl, HS', hb⟩
              replace Sa := HS'
              clear HS'
              replace Sb : Hid (My V31 bb ky h m H C) := Sb.out.extb hb (by omega)
              replace AX : Hid (Ar V31 b6 2 [Value.int .i64 what, .slice ai ni ci]) := AX.out.extb hb (by omega)
              replace HB : Hid (Below w.heap.size w V31) := hb.below HB.out (by omega)
              clear hb
              clear c0 c1
              obtain ⟨c0, -⟩ := AX.out.cell 0 (by decide)
              obtain ⟨c1, -⟩ := AX.out.cell 1 (by decide)
              simp only [List.getElem_cons_zero, List.getElem_cons_succ] at c0 c1
              go_wp2_with fail
              refine (mixhash10_c bb ky h m H C ai ni ci tx _ Sb.out (HST.out.rd.below HB.out) (HG.out.later HB.out) (by omega)).mono ?_
              rintro e V32 ⟨rfl, HS', hb⟩
              replace Sb := HS'
              clear HS'
              replace Sa : Hid (My V32 ba ky h m (sum7 (H ++ tx)) C) := Sa.out.extb hb (by omega)
              replace AX : Hid (Ar V32 b6 2 [Value.int .i64 what, .slice ai ni ci]) := AX.out.extb hb (by omega)
              replace HB : Hid (Below w.heap.size w V32) := hb.below HB.out (by omega)
              clear hb
              clear c0 c1
              obtain ⟨H1, hH1⟩ : ∃ q, q = sum7 (H ++ tx) := ⟨_, rfl⟩
              rw [← hH1] at Sa Sb
              clear hH1 AX
              go_wp2_with fail
              go_meet
              case rel => exact ⟨ky, h, m, H1, C, by omega, Sa, Sb, HB⟩
          · as_aux_lemma =>
              obtain ⟨c0, -⟩ := AX.out.cell 0 (by decide)
              obtain ⟨c1, -⟩ := AX.out.cell 1 (by decide)
              simp only [List.getElem_cons_zero, List.getElem_cons_succ] at c0 c1
              have kqb := Sb.out.lt
              have hmL : m ≠ 18446744073709551615 := by omega
              go_wp2_with fail
              refine (seal10_c ba ky h m H C ai ni ci tx _ Sa.out (HST.out.rd.below HB.out) (HG.out.later HB.out) (by have := hg0; omega) (by have := hg1; omega) hni).mono ?_
              rintro e V31 ⟨a1, m1, d1, X, E, n1, rfl, HX, HE, HN, RX, HS', hb, hfr, hm1⟩
              have hE : E = 0 := by rw [HE.out]; exact se9_zero h hmL
              subst hE
              clear HE c0 c1
              have HFR : Hid (Nq bb a1 m1) := hfr.nq kqb
              replace Sa := HS'
              clear HS' hfr kqb
              replace Sb : Hid (My V31 bb ky h m H C) := Sb.out.extb hb (by omega)
              replace AX : Hid (Ar V31 b6 2 [Value.int .i64 what, .slice ai ni ci]) := AX.out.extb hb (by omega)
              replace HB : Hid (Below w.heap.size w V31) := hb.below HB.out (by omega)
              clear hb
              go_wp2_with fail
              refine (open10_c bb ky h m H C a1 m1 d1 X _ Sb.out RX.out (HG.out.later HB.out) (by have := hg0; omega) (by have := hg1; omega) (by omega)).mono ?_
              rintro e V32 ⟨a2, m2, d2, Y, E2, n2, rfl, HY, HE2, HN2, RY, HS', hb, hfr⟩
              have hE2 : E2 = 0 := by rw [HE2.out, HX.out]; exact oe9_back ky h H tx hmL
              subst hE2
              have hY : Y = tx := by rw [HY.out, HX.out]; exact ox9_back ky h H hmL HST.out.rd.byt
              have hn2 : n2 = n1 := by rw [HN2.out, HN.out, HX.out]; exact on9_back ky h H tx hmL
              subst hY hn2
              have hn1 : n2 ≤ (k : Int) + 1 := by rw [HN.out]; exact Int.le_trans (sn9_le h m) (by omega)
              replace Sb := HS'
              clear HS' hfr HE2 HN2 HN HFR RX HY HX
              replace RY : Hid (Rd V32 a2 m2 d2 Y) := RY
              replace Sa : Hid (My V32 ba ky h n2 (h10 0 H X) C) := Sa.out.extb hb (by omega)
              replace AX : Hid (Ar V32 b6 2 [Value.int .i64 what, .slice ai ni ci]) := AX.out.extb hb (by omega)
              replace HB : Hid (Below w.heap.size w V32) := hb.below HB.out (by omega)
              clear hb
              have s1 := str_of RY.out
              have s2 := str_of (HST.out.rd.below HB.out)
              clear RY
              obtain ⟨H1, hH1⟩ : ∃ q, q = h10 0 H X := ⟨_, rfl⟩
              rw [← hH1] at Sa Sb
              clear hH1
              obtain ⟨c0, -⟩ := AX.out.cell 0 (by decide)
              obtain ⟨c1, -⟩ := AX.out.cell 1 (by decide)
              simp only [List.getElem_cons_zero, List.getElem_cons_succ] at c0 c1
              clear AX
              go_wp2_with fail
              go_meet
              case rel => exact ⟨ky, h, n2, H1, C, hn1, Sa, Sb, HB⟩
          · as_aux_lemma =>
              obtain ⟨c0, -⟩ := AX.out.cell 0 (by decide)
              obtain ⟨c1, -⟩ := AX.out.cell 1 (by decide)
              simp only [List.getElem_cons_zero, List.getElem_cons_succ] at c0 c1
              have kqb := Sb.out.lt
              have hmL : m ≠ 18446744073709551615 := by omega
              go_wp2_with fail
              refine (seal10_c ba ky h m H C ai ni ci tx _ Sa.out (HST.out.rd.below HB.out) (HG.out.later HB.out) (by have := hg0; omega) (by have := hg1; omega) hni).mono ?_
              rintro e V31 ⟨a1, m1, d1, X, E, n1, rfl, HX, HE, HN, RX, HS', hb, hfr, hm1⟩
              have hE : E = 0 := by rw [HE.out]; exact se9_zero h hmL
              subst hE
              clear HE c0 c1
              have HFR : Hid (Nq bb a1 m1) := hfr.nq kqb
              replace Sa := HS'
              clear HS' hfr kqb
              replace Sb : Hid (My V31 bb ky h m H C) := Sb.out.extb hb (by omega)
              replace AX : Hid (Ar V31 b6 2 [Value.int .i64 what, .slice ai ni ci]) := AX.out.extb hb (by omega)
              replace HB : Hid (Below w.heap.size w V31) := hb.below HB.out (by omega)
              clear hb
              go_wp2_with fail
              refine (open10_c bb ky h m H C a1 m1 d1 X _ Sb.out RX.out (HG.out.later HB.out) (by have := hg0; omega) (by have := hg1; omega) (by omega)).mono ?_
              rintro e V32 ⟨a2, m2, d2, Y, E2, n2, rfl, HY, HE2, HN2, RY, HS', hb, hfr⟩
              have hE2 : E2 = 0 := by rw [HE2.out, HX.out]; exact oe9_back ky h H tx hmL
              subst hE2
              have hY : Y = tx := by rw [HY.out, HX.out]; exact ox9_back ky h H hmL HST.out.rd.byt
              have hn2 : n2 = n1 := by rw [HN2.out, HN.out, HX.out]; exact on9_back ky h H tx hmL
              subst hY hn2
              have hn1 : n2 ≤ (k : Int) + 1 := by rw [HN.out]; exact Int.le_trans (sn9_le h m) (by omega)
              replace Sb := HS'
              clear HS' hfr HE2 HN2 HN HFR RX HY HX
              replace RY : Hid (Rd V32 a2 m2 d2 Y) := RY
              replace Sa : Hid (My V32 ba ky h n2 (h10 0 H X) C) := Sa.out.extb hb (by omega)
              replace AX : Hid (Ar V32 b6 2 [Value.int .i64 what, .slice ai ni ci]) := AX.out.extb hb (by omega)
              replace HB : Hid (Below w.heap.size w V32) := hb.below HB.out (by omega)
              clear hb
              have s1 := str_of RY.out
              have s2 := str_of (HST.out.rd.below HB.out)
              clear RY
              obtain ⟨H1, hH1⟩ : ∃ q, q = h10 0 H X := ⟨_, rfl⟩
              rw [← hH1] at Sa Sb
              clear hH1
              obtain ⟨c0, -⟩ := AX.out.cell 0 (by decide)
              obtain ⟨c1, -⟩ := AX.out.cell 1 (by decide)
              simp only [List.getElem_cons_zero, List.getElem_cons_succ] at c0 c1
              clear AX
              go_wp2_with fail
              go_meet
              case rel => exact ⟨ky, h, n2, H1, C, hn1, Sa, Sb, HB⟩
        case rest =>
          as_aux_lemma =>
            obtain ⟨ky', h', m', H', C', hm', Sa', Sb', HB'⟩ := hcut
            clear Sa Sb HB AX
            obtain ⟨U, hU⟩ : ∃ U, U = wc := ⟨_, rfl⟩
            rw [← hU] at Sa' Sb' HB' ⊢
            clear hU
            have Sa := Sa'
            have Sb := Sb'
            have HB := HB'
            clear Sa' Sb' HB'
            have hne : ∀ u, Sem.run Tryd.prog (binOp .neq 27 (.agg (List.map (Value.int .u8) H').toArray) (.agg (List.map (Value.int .u8) H').toArray)) u = .ok (.bool false) u := fun u => neq32 H' H' Sa.out.bh rfl u
            go_wp2_with fail
            refine (hash10_c ba ky' h' m' H' C' _ Sa.out).mono ?_
            rintro e V61 ⟨rfl, hb⟩
            replace Sa : Hid (My V61 ba ky' h' m' H' C') := Sa.out.later hb
            replace Sb : Hid (My V61 bb ky' h' m' H' C') := Sb.out.later hb
            replace HB : Hid (Below w.heap.size w V61) := HB.out.trans (hb.mono HB.out.size)
            clear hb
            go_wp2_with fail
            refine (hash10_c bb ky' h' m' H' C' _ Sb.out).mono ?_
            rintro e V62 ⟨rfl, hb⟩
            replace Sa : Hid (My V62 ba ky' h' m' H' C') := Sa.out.later hb
            replace Sb : Hid (My V62 bb ky' h' m' H' C') := Sb.out.later hb
            replace HB : Hid (Below w.heap.size w V62) := HB.out.trans (hb.mono HB.out.size)
            clear hb
            have hne2 : ∀ u, Sem.run Tryd.prog (binOp .neq 27 (.agg (List.map (Value.int .u8) C').toArray) (.agg (List.map (Value.int .u8) C').toArray)) u = .ok (.bool false) u := fun u => neq32 C' C' Sa.out.bc rfl u
            go_wp2_with fail
            refine (chain10_c ba ky' h' m' H' C' _ Sa.out).mono ?_
            rintro e V63 ⟨rfl, hb⟩
            replace Sa : Hid (My V63 ba ky' h' m' H' C') := Sa.out.later hb
            replace Sb : Hid (My V63 bb ky' h' m' H' C') := Sb.out.later hb
            replace HB : Hid (Below w.heap.size w V63) := HB.out.trans (hb.mono HB.out.size)
            clear hb
            go_wp2_with fail
            refine (chain10_c bb ky' h' m' H' C' _ Sb.out).mono ?_
            rintro e V64 ⟨rfl, hb⟩
            replace Sa : Hid (My V64 ba ky' h' m' H' C') := Sa.out.later hb
            replace Sb : Hid (My V64 bb ky' h' m' H' C') := Sb.out.later hb
            replace HB : Hid (Below w.heap.size w V64) := HB.out.trans (hb.mono HB.out.size)
            clear hb
            go_wp2
            go_roundw
            case rel => exact ⟨k + 1, ky', h', m', H', C', by go_num, by omega, by omega, Sa, Sb, HB⟩
            case measure => simp [intOf]; omega
      · have q2 : ¬ (k : Int) < 16 := by omega
        go_wp2
        go_ret
        exact ⟨rfl, HB.out⟩
    · have q1 : ¬ (k : Int) < lT := by omega
      go_wp2
      go_ret
      exact ⟨rfl, HB.out⟩
end Go.Proofs.YtmibjgkakolhiaaDoor
