/-
  CipherPlays' walk. No statement of the seat is proved here.
-/
import Derived.Test.YtjmdgmbkkkoamaaDoorPk25
import Derived.Test.YtjmdgmbkkkoamaaDoorPk42
import Derived.Deep.CutBlock
namespace Go.Proofs.YtjmdgmbkkkoamaaDoor
open Go.RowKit

set_option maxRecDepth 8000 in
theorem xs9_oneCell (what nn : Int) (vA vB : Value) (key : List Int) (ha : vA.oneCell' = true) (hb : vB.oneCell' = true) : ∀ v ∈ xs9 what nn vA vB key, v.oneCell' = true := fun v hv => by
  unfold xs9 at hv
  simp only [List.mem_cons] at hv
  rcases hv with rfl | rfl | rfl | rfl | hv
  · rfl
  · rfl
  · exact ha
  · exact hb
  · exact bytes_oneCell key v hv
set_option maxRecDepth 8000 in
theorem xs9_at {u : World} {b : Nat} {what nn : Int} {vA vB : Value} {key : List Int} (h : Ar u b 36 (xs9 what nn vA vB key)) : u.cell? ⟨b, 0, none⟩ = some (.int .i64 what) ∧ u.cell? ⟨b, 1, none⟩ = some (.int .u64 nn) ∧ u.cell? ⟨b, 2, none⟩ = some vA ∧ u.cell? ⟨b, 3, none⟩ = some vB ∧ u.rangeAt b 4 (List.map (Value.int .u8) key) :=
  ⟨(h.cell 0 (by decide)).1, (h.cell 1 (by decide)).1, (h.cell 2 (by decide)).1, (h.cell 3 (by decide)).1, fun j v hv => by
    have := h.rng (4 + j) v (by rw [Nat.add_comm]; exact hv)
    rwa [Nat.zero_add] at this⟩
set_option maxRecDepth 8000 in
set_option maxHeartbeats 16000000 in
theorem cipherPlays_walk (aT : Option Addr) (lT cT : Nat) (w : World) (ht : RdS w aT lT) (hg : Gr w) :
    Calls Tryd.prog 3 #[.slice aT lT cT] w fun e w' => e = .returned (.bool true) ∧ Below w.heap.size w w' := by
  have HT : Hid (RdS w aT lT) := ht
  have HG : Hid (Gr w) := hg
  clear ht hg
  go_enter Tryd.func3, Tryd.ntmps3
  go_wp2_with fail
  refine (new9_c _).mono ?_
  rintro e V1 ⟨rfl, Hs, hb⟩
  obtain ⟨bs, hq⟩ : ∃ q, q = w.heap.size := ⟨_, rfl⟩
  rw [← hq] at Hs ⊢
  have ksw : w.heap.size ≤ bs := by rw [hq]; exact Nat.le_refl _
  clear hq
  have HB : Hid (Below w.heap.size w V1) := hb
  clear hb
  go_wp2_with fail
  refine (known9_any _).mono ?_
  rintro e V2 ⟨rfl, hb⟩
  replace Hs : Hid (Sx V2 bs z9l false 0) := Hs.out.later hb
  replace HB : Hid (Below w.heap.size w V2) := HB.out.trans (hb.mono HB.out.size)
  clear hb
  go_upto_region 5 with fail
  have Hr : Hid (Cx (V2.alloc (.cells #[.bool false, .int .u8 0, .int .u8 0, .int .u8 0, .int .u8 0, .int .u8 0, .int .u8 0, .int .u8 0, .int .u8 0, .int .u8 0, .int .u8 0, .int .u8 0, .int .u8 0, .int .u8 0, .int .u8 0, .int .u8 0, .int .u8 0, .int .u8 0, .int .u8 0, .int .u8 0, .int .u8 0, .int .u8 0, .int .u8 0, .int .u8 0, .int .u8 0, .int .u8 0, .int .u8 0, .int .u8 0, .int .u8 0, .int .u8 0, .int .u8 0, .int .u8 0, .int .u8 0, .int .u64 0] 30)) V2.heap.size z9l false 0) := cx_new V2 z9l false 0 z9l_bn (by decide) _
  have hb : Below V2.heap.size V2 (V2.alloc (.cells #[.bool false, .int .u8 0, .int .u8 0, .int .u8 0, .int .u8 0, .int .u8 0, .int .u8 0, .int .u8 0, .int .u8 0, .int .u8 0, .int .u8 0, .int .u8 0, .int .u8 0, .int .u8 0, .int .u8 0, .int .u8 0, .int .u8 0, .int .u8 0, .int .u8 0, .int .u8 0, .int .u8 0, .int .u8 0, .int .u8 0, .int .u8 0, .int .u8 0, .int .u8 0, .int .u8 0, .int .u8 0, .int .u8 0, .int .u8 0, .int .u8 0, .int .u8 0, .int .u8 0, .int .u64 0] 30)) := bel1 _ _
  have krs : bs < V2.heap.size := Hs.out.lt
  have krw : w.heap.size ≤ V2.heap.size := HB.out.size
  replace Hs : Hid (Sx (V2.alloc (.cells #[.bool false, .int .u8 0, .int .u8 0, .int .u8 0, .int .u8 0, .int .u8 0, .int .u8 0, .int .u8 0, .int .u8 0, .int .u8 0, .int .u8 0, .int .u8 0, .int .u8 0, .int .u8 0, .int .u8 0, .int .u8 0, .int .u8 0, .int .u8 0, .int .u8 0, .int .u8 0, .int .u8 0, .int .u8 0, .int .u8 0, .int .u8 0, .int .u8 0, .int .u8 0, .int .u8 0, .int .u8 0, .int .u8 0, .int .u8 0, .int .u8 0, .int .u8 0, .int .u8 0, .int .u64 0] 30)) bs z9l false 0) := Hs.out.later hb
  replace HB : Hid (Below w.heap.size w (V2.alloc (.cells #[.bool false, .int .u8 0, .int .u8 0, .int .u8 0, .int .u8 0, .int .u8 0, .int .u8 0, .int .u8 0, .int .u8 0, .int .u8 0, .int .u8 0, .int .u8 0, .int .u8 0, .int .u8 0, .int .u8 0, .int .u8 0, .int .u8 0, .int .u8 0, .int .u8 0, .int .u8 0, .int .u8 0, .int .u8 0, .int .u8 0, .int .u8 0, .int .u8 0, .int .u8 0, .int .u8 0, .int .u8 0, .int .u8 0, .int .u8 0, .int .u8 0, .int .u8 0, .int .u8 0, .int .u64 0] 30))) := HB.out.trans (hb.mono HB.out.size)
  clear hb
  obtain ⟨W0, hW0⟩ : ∃ W, W = (V2.alloc (.cells #[.bool false, .int .u8 0, .int .u8 0, .int .u8 0, .int .u8 0, .int .u8 0, .int .u8 0, .int .u8 0, .int .u8 0, .int .u8 0, .int .u8 0, .int .u8 0, .int .u8 0, .int .u8 0, .int .u8 0, .int .u8 0, .int .u8 0, .int .u8 0, .int .u8 0, .int .u8 0, .int .u8 0, .int .u8 0, .int .u8 0, .int .u8 0, .int .u8 0, .int .u8 0, .int .u8 0, .int .u8 0, .int .u8 0, .int .u8 0, .int .u8 0, .int .u8 0, .int .u8 0, .int .u64 0] 30)) := ⟨_, rfl⟩
  obtain ⟨br, hbr⟩ : ∃ q, q = V2.heap.size := ⟨_, rfl⟩
  rw [← hW0] at Hs Hr HB ⊢
  rw [← hbr] at Hr krs krw ⊢
  clear hW0 hbr
  obtain ⟨zc, hzc⟩ : ∃ z, z = (Value.agg #[.bool false, .int .u8 0, .int .u8 0, .int .u8 0, .int .u8 0, .int .u8 0, .int .u8 0, .int .u8 0, .int .u8 0, .int .u8 0, .int .u8 0, .int .u8 0, .int .u8 0, .int .u8 0, .int .u8 0, .int .u8 0, .int .u8 0, .int .u8 0, .int .u8 0, .int .u8 0, .int .u8 0, .int .u8 0, .int .u8 0, .int .u8 0, .int .u8 0, .int .u8 0, .int .u8 0, .int .u8 0, .int .u8 0, .int .u8 0, .int .u8 0, .int .u8 0, .int .u8 0, .int .u64 0]) := ⟨_, rfl⟩
  try rw [← hzc]
  clear hzc
  have nsr : bs ≠ br := by omega
  have krp : 0 < br := by have := HG.out.pos; omega
  go_wp2
  go_loopw [5] (fun iv wr => ∃ (k : Nat) (ky : List Int) (h : Bool) (m : Int), iv = .int .i64 k ∧ k ≤ 25 ∧ Hid (Sx wr bs ky h m) ∧ Hid (Cx wr br ky h m) ∧ Hid (Below w.heap.size w wr)) (fun iv _ => 25 - (intOf iv).toNat)
  case atStart => exact ⟨0, z9l, false, 0, rfl, by decide, Hs, Hr, HB⟩
  case round =>
    clear Hs Hr HB
    obtain ⟨k, ky, h, m, rfl, hk25, Hs, Hr, HB⟩ := hrel
    by_cases h1 : k < lT
    · have q1 : (k : Int) < lT := by omega
      by_cases h2 : k < 25
      · have q2 : (k : Int) < 25 := by omega
        obtain ⟨bT, oT, rfl, hcT⟩ := HT.out.cell (by omega)
        obtain ⟨what, nn, aA, lA, cA, ad, aB, lB, cB, bt, key, hst⟩ := hcT k h1
        have HST : Hid (St9 w bT (oT + k * 36) what nn aA lA cA ad aB lB cB bt key) := hst
        clear hcT hst
        obtain ⟨cs, hcs⟩ : ∃ cs, cs = (xs9 what nn (.slice aA lA cA) (.slice aB lB cB) key) := ⟨_, rfl⟩
        have HC : Hid (cs = (xs9 what nn (.slice aA lA cA) (.slice aB lB cB) key)) := hcs
        have hlen : cs.length = 36 := by rw [hcs]; exact xs9_len HST.out.bk.len
        have hone : ∀ v ∈ cs, v.oneCell' = true := by rw [hcs]; exact xs9_oneCell _ _ _ _ _ rfl rfl
        have hi : (Tryd.prog.info? 33).map (·.size) = some cs.length := by rw [hlen]; kernel_rfl
        have hR : wr.rangeAt bT (oT + k * 36) cs := by rw [hcs]; exact range_later HB.out HST.out.rng
        clear hcs
        have e36 : cs.toArray.size = 36 := by simpa using hlen
        have hth := there_new wr 36 #[.int .i64 0, .int .u64 0, .slice none 0 0, .slice none 0 0, .int .u8 0, .int .u8 0, .int .u8 0, .int .u8 0, .int .u8 0, .int .u8 0, .int .u8 0, .int .u8 0, .int .u8 0, .int .u8 0, .int .u8 0, .int .u8 0, .int .u8 0, .int .u8 0, .int .u8 0, .int .u8 0, .int .u8 0, .int .u8 0, .int .u8 0, .int .u8 0, .int .u8 0, .int .u8 0, .int .u8 0, .int .u8 0, .int .u8 0, .int .u8 0, .int .u8 0, .int .u8 0, .int .u8 0, .int .u8 0, .int .u8 0, .int .u8 0] rfl 33
        go_upto_region 9 with (first
          | (refine wpList_load_mid rfl 33 (.tmp 41) rfl bT (oT + k * 36) rfl cs _ hR Tryd.underlying33 rfl hi ?_)
          | (refine wpList_store_mid rfl 33 (.tmp 6) (.tmp 42) rfl wr.heap.size 0 cs.toArray rfl rfl (by rw [e36]; exact hth) (by simpa using hi) (all_oneCell_toArray hone) ?_))
        have AX : Hid (Ar ((wr.alloc (.cells #[.int .i64 0, .int .u64 0, .slice none 0 0, .slice none 0 0, .int .u8 0, .int .u8 0, .int .u8 0, .int .u8 0, .int .u8 0, .int .u8 0, .int .u8 0, .int .u8 0, .int .u8 0, .int .u8 0, .int .u8 0, .int .u8 0, .int .u8 0, .int .u8 0, .int .u8 0, .int .u8 0, .int .u8 0, .int .u8 0, .int .u8 0, .int .u8 0, .int .u8 0, .int .u8 0, .int .u8 0, .int .u8 0, .int .u8 0, .int .u8 0, .int .u8 0, .int .u8 0, .int .u8 0, .int .u8 0, .int .u8 0, .int .u8 0] 33)).setCells wr.heap.size 0 cs) wr.heap.size 36 (xs9 what nn (.slice aA lA cA) (.slice aB lB cB) key)) := by rw [← HC.out]; exact ar_var wr _ 36 rfl _ _ hlen
        have hb : Below wr.heap.size wr ((wr.alloc (.cells #[.int .i64 0, .int .u64 0, .slice none 0 0, .slice none 0 0, .int .u8 0, .int .u8 0, .int .u8 0, .int .u8 0, .int .u8 0, .int .u8 0, .int .u8 0, .int .u8 0, .int .u8 0, .int .u8 0, .int .u8 0, .int .u8 0, .int .u8 0, .int .u8 0, .int .u8 0, .int .u8 0, .int .u8 0, .int .u8 0, .int .u8 0, .int .u8 0, .int .u8 0, .int .u8 0, .int .u8 0, .int .u8 0, .int .u8 0, .int .u8 0, .int .u8 0, .int .u8 0, .int .u8 0, .int .u8 0, .int .u8 0, .int .u8 0] 33)).setCells wr.heap.size 0 cs) := bel_var _ _ _ _
        have k6s : bs < wr.heap.size := Hs.out.lt
        have k6r : br < wr.heap.size := Hr.out.lt
        have k6w : w.heap.size ≤ wr.heap.size := HB.out.size
        replace Hs : Hid (Sx ((wr.alloc (.cells #[.int .i64 0, .int .u64 0, .slice none 0 0, .slice none 0 0, .int .u8 0, .int .u8 0, .int .u8 0, .int .u8 0, .int .u8 0, .int .u8 0, .int .u8 0, .int .u8 0, .int .u8 0, .int .u8 0, .int .u8 0, .int .u8 0, .int .u8 0, .int .u8 0, .int .u8 0, .int .u8 0, .int .u8 0, .int .u8 0, .int .u8 0, .int .u8 0, .int .u8 0, .int .u8 0, .int .u8 0, .int .u8 0, .int .u8 0, .int .u8 0, .int .u8 0, .int .u8 0, .int .u8 0, .int .u8 0, .int .u8 0, .int .u8 0] 33)).setCells wr.heap.size 0 cs) bs ky h m) := Hs.out.later hb
        replace Hr : Hid (Cx ((wr.alloc (.cells #[.int .i64 0, .int .u64 0, .slice none 0 0, .slice none 0 0, .int .u8 0, .int .u8 0, .int .u8 0, .int .u8 0, .int .u8 0, .int .u8 0, .int .u8 0, .int .u8 0, .int .u8 0, .int .u8 0, .int .u8 0, .int .u8 0, .int .u8 0, .int .u8 0, .int .u8 0, .int .u8 0, .int .u8 0, .int .u8 0, .int .u8 0, .int .u8 0, .int .u8 0, .int .u8 0, .int .u8 0, .int .u8 0, .int .u8 0, .int .u8 0, .int .u8 0, .int .u8 0, .int .u8 0, .int .u8 0, .int .u8 0, .int .u8 0] 33)).setCells wr.heap.size 0 cs) br ky h m) := Hr.out.later hb
        replace HB : Hid (Below w.heap.size w ((wr.alloc (.cells #[.int .i64 0, .int .u64 0, .slice none 0 0, .slice none 0 0, .int .u8 0, .int .u8 0, .int .u8 0, .int .u8 0, .int .u8 0, .int .u8 0, .int .u8 0, .int .u8 0, .int .u8 0, .int .u8 0, .int .u8 0, .int .u8 0, .int .u8 0, .int .u8 0, .int .u8 0, .int .u8 0, .int .u8 0, .int .u8 0, .int .u8 0, .int .u8 0, .int .u8 0, .int .u8 0, .int .u8 0, .int .u8 0, .int .u8 0, .int .u8 0, .int .u8 0, .int .u8 0, .int .u8 0, .int .u8 0, .int .u8 0, .int .u8 0] 33)).setCells wr.heap.size 0 cs)) := HB.out.trans (hb.mono HB.out.size)
        obtain ⟨W1, hW1⟩ : ∃ W, W = ((wr.alloc (.cells #[.int .i64 0, .int .u64 0, .slice none 0 0, .slice none 0 0, .int .u8 0, .int .u8 0, .int .u8 0, .int .u8 0, .int .u8 0, .int .u8 0, .int .u8 0, .int .u8 0, .int .u8 0, .int .u8 0, .int .u8 0, .int .u8 0, .int .u8 0, .int .u8 0, .int .u8 0, .int .u8 0, .int .u8 0, .int .u8 0, .int .u8 0, .int .u8 0, .int .u8 0, .int .u8 0, .int .u8 0, .int .u8 0, .int .u8 0, .int .u8 0, .int .u8 0, .int .u8 0, .int .u8 0, .int .u8 0, .int .u8 0, .int .u8 0] 33)).setCells wr.heap.size 0 cs) := ⟨_, rfl⟩
        obtain ⟨b6, hb6⟩ : ∃ q, q = wr.heap.size := ⟨_, rfl⟩
        rw [← hW1] at AX Hs Hr HB ⊢
        rw [← hb6] at AX k6s k6r k6w ⊢
        clear hW1 hb6 hb hlen hone hi hR e36 hth HC
        have hle : lA + lB ≤ 1048576 := HST.out.le
        obtain ⟨c0, -⟩ := xs9_at AX.out
        go_wp2_with fail
        refine (pick_any what 9 HST.out.bw (by decide) _).mono ?_
        rintro e V20 ⟨p, rfl, p0, p1, hw⟩
        rw [hw]
        clear hw V20 c0
        go_upto_block 2 with fail
        go_cut [7, 8, 9, 10, 11, 12, 13, 14, 15, 16, 17, 18, 19] from 29 (fun v _ _ _ _ _ _ _ _ _ _ _ _ wx => ∃ (ky' : List Int) (h' : Bool) (m' : Int), v = .bool true ∧ Hid (Sx wx bs ky' h' m') ∧ Hid (Cx wx br ky' h' m') ∧ Hid (Below w.heap.size w wx))
        case first =>
          rcases (show p = 0 ∨ p = 1 ∨ p = 2 ∨ p = 3 ∨ p = 4 ∨ p = 5 ∨ p = 6 ∨ p = 7 ∨ p = 8 by omega) with rfl | rfl | rfl | rfl | rfl | rfl | rfl | rfl | rfl
          · as_aux_lemma =>
              obtain ⟨c0, c1, c2, c3, c4⟩ := xs9_at AX.out
              go_wp2_with fail
              refine (seal9_c bs ky h m aA lA cA ad aB lB cB bt _ Hs.out (HST.out.ra.below HB.out) (HST.out.rb.below HB.out) (by omega) (by omega)).mono ?_
              rintro e V101 ⟨a1, m1, d1, X1, E1, n1, rfl, -, HX1, HE1, HN1, R1, HS', hb⟩
              clear c0 c1 c2 c3 c4
              replace Hs := HS'
              clear HS'
              replace Hr : Hid (Cx V101 br ky h m) := Hr.out.extb hb (by omega)
              replace AX : Hid (Ar V101 b6 36 (xs9 what nn (.slice aA lA cA) (.slice aB lB cB) key)) := AX.out.extb hb (by omega)
              replace HB : Hid (Below w.heap.size w V101) := hb.below HB.out (by omega)
              clear hb
              obtain ⟨c0, c1, c2, c3, c4⟩ := xs9_at AX.out
              go_wp2_with fail
              refine (rseal9_c br ky h m aA lA cA ad aB lB cB bt _ Hr.out (HST.out.ra.below HB.out) (HST.out.rb.below HB.out) (HG.out.later HB.out) krp (by omega)).mono ?_
              rintro e V102 ⟨a2, m2, d2, X2, E2, n2, rfl, -, HX2, HE2, HN2, R2, HC', hb, hkp⟩
              clear c0 c1 c2 c3 c4
              replace Hr := HC'
              replace R1 : Hid (Rd V102 a1 m1 d1 X1) := hkp _ _ _ _ R1.out
              clear HC' hkp
              replace Hs : Hid (Sx V102 bs ky h n1) := Hs.out.extb hb (by omega)
              replace AX : Hid (Ar V102 b6 36 (xs9 what nn (.slice aA lA cA) (.slice aB lB cB) key)) := AX.out.extb hb (by omega)
              replace HB : Hid (Below w.heap.size w V102) := hb.below HB.out (by omega)
              clear hb
              have e1 : X2 = X1 := by rw [HX2.out, HX1.out]
              subst e1
              have e2 : E2 = E1 := by rw [HE2.out, HE1.out]
              subst e2
              have e3 : n2 = n1 := by rw [HN2.out, HN1.out]
              subst e3
              have s1 := str_of R1.out
              have s2 := str_of R2.out
              clear AX
              go_wp2_with fail
              go_meet
              case rel => exact ⟨ky, h, n2, rfl, Hs, Hr, HB⟩
          · as_aux_lemma =>
              obtain ⟨c0, c1, c2, c3, c4⟩ := xs9_at AX.out
              go_wp2_with fail
              refine (seal9_c bs ky h m aA lA cA ad aB lB cB bt _ Hs.out (HST.out.ra.below HB.out) (HST.out.rb.below HB.out) (by omega) (by omega)).mono ?_
              rintro e V101 ⟨a1, m1, d1, X1, E1, n1, rfl, -, HX1, HE1, HN1, R1, HS', hb⟩
              clear c0 c1 c2 c3 c4
              replace Hs := HS'
              clear HS'
              replace Hr : Hid (Cx V101 br ky h m) := Hr.out.extb hb (by omega)
              replace AX : Hid (Ar V101 b6 36 (xs9 what nn (.slice aA lA cA) (.slice aB lB cB) key)) := AX.out.extb hb (by omega)
              replace HB : Hid (Below w.heap.size w V101) := hb.below HB.out (by omega)
              clear hb
              obtain ⟨c0, c1, c2, c3, c4⟩ := xs9_at AX.out
              go_wp2_with fail
              refine (rseal9_c br ky h m aA lA cA ad aB lB cB bt _ Hr.out (HST.out.ra.below HB.out) (HST.out.rb.below HB.out) (HG.out.later HB.out) krp (by omega)).mono ?_
              rintro e V102 ⟨a2, m2, d2, X2, E2, n2, rfl, -, HX2, HE2, HN2, R2, HC', hb, hkp⟩
              clear c0 c1 c2 c3 c4
              replace Hr := HC'
              replace R1 : Hid (Rd V102 a1 m1 d1 X1) := hkp _ _ _ _ R1.out
              clear HC' hkp
              replace Hs : Hid (Sx V102 bs ky h n1) := Hs.out.extb hb (by omega)
              replace AX : Hid (Ar V102 b6 36 (xs9 what nn (.slice aA lA cA) (.slice aB lB cB) key)) := AX.out.extb hb (by omega)
              replace HB : Hid (Below w.heap.size w V102) := hb.below HB.out (by omega)
              clear hb
              have e1 : X2 = X1 := by rw [HX2.out, HX1.out]
              subst e1
              have e2 : E2 = E1 := by rw [HE2.out, HE1.out]
              subst e2
              have e3 : n2 = n1 := by rw [HN2.out, HN1.out]
              subst e3
              have s1 := str_of R1.out
              have s2 := str_of R2.out
              clear AX
              go_wp2_with fail
              go_meet
              case rel => exact ⟨ky, h, n2, rfl, Hs, Hr, HB⟩
          · as_aux_lemma =>
              obtain ⟨r9, hr9⟩ : ∃ r, r = what.tmod 9 := ⟨_, rfl⟩
              have hr1 : what.tmod 9 = r9 := hr9.symm
              clear hr9
              by_cases h4 : r9 = 4
              · subst h4
                obtain ⟨c0, c1, c2, c3, c4⟩ := xs9_at AX.out
                go_wp2_with fail
                refine (open9_c bs ky h m aA lA cA ad aB lB cB bt _ Hs.out (HST.out.ra.below HB.out) (HST.out.rb.below HB.out) (by omega) (by omega)).mono ?_
                rintro e V101 ⟨a1, m1, d1, X1, E1, n1, rfl, HX1, HE1, HN1, R1, HS', hb, hkp⟩
                clear c0 c1 c2 c3 c4
                replace Hs := HS'
                clear HS'
                clear hkp
                replace Hr : Hid (Cx V101 br ky h m) := Hr.out.extb hb (by omega)
                replace AX : Hid (Ar V101 b6 36 (xs9 what nn (.slice aA lA cA) (.slice aB lB cB) key)) := AX.out.extb hb (by omega)
                replace HB : Hid (Below w.heap.size w V101) := hb.below HB.out (by omega)
                clear hb
                obtain ⟨c0, c1, c2, c3, c4⟩ := xs9_at AX.out
                go_wp2_with fail
                refine (ropen9_c br ky h m aA lA cA ad aB lB cB bt _ Hr.out (HST.out.ra.below HB.out) (HST.out.rb.below HB.out) (HG.out.later HB.out) (by omega)).mono ?_
                rintro e V102 ⟨a2, m2, d2, X2, E2, n2, rfl, HX2, HE2, HN2, R2, HC', hb, hkp⟩
                clear c0 c1 c2 c3 c4
                replace Hr := HC'
                replace R1 : Hid (Rd V102 a1 m1 d1 X1) := hkp _ _ _ _ R1.out
                clear HC' hkp
                replace Hs : Hid (Sx V102 bs ky h n1) := Hs.out.extb hb (by omega)
                replace AX : Hid (Ar V102 b6 36 (xs9 what nn (.slice aA lA cA) (.slice aB lB cB) key)) := AX.out.extb hb (by omega)
                replace HB : Hid (Below w.heap.size w V102) := hb.below HB.out (by omega)
                clear hb
                have e1 : X2 = X1 := by rw [HX2.out, HX1.out]
                subst e1
                have e2 : E2 = E1 := by rw [HE2.out, HE1.out]
                subst e2
                have e3 : n2 = n1 := by rw [HN2.out, HN1.out]
                subst e3
                have s1 := str_of R1.out
                have s2 := str_of R2.out
                clear AX
                go_wp2_with fail
                go_meet
                case rel => exact ⟨ky, h, n2, rfl, Hs, Hr, HB⟩
              · obtain ⟨hlen, hone, hi⟩ := rc9_cells h m Hr.out.bk
                have hR := Hr.out.ar.rng
                obtain ⟨ds, hds⟩ : ∃ ds, ds = (rc9 ky h m) := ⟨_, rfl⟩
                have HC : Hid (ds = (rc9 ky h m)) := hds
                rw [← hds] at hlen hone hi hR
                clear hds
                have e34 : ds.toArray.size = 34 := by simpa using hlen
                have hth := there_new W1 34 #[.bool false, .int .u8 0, .int .u8 0, .int .u8 0, .int .u8 0, .int .u8 0, .int .u8 0, .int .u8 0, .int .u8 0, .int .u8 0, .int .u8 0, .int .u8 0, .int .u8 0, .int .u8 0, .int .u8 0, .int .u8 0, .int .u8 0, .int .u8 0, .int .u8 0, .int .u8 0, .int .u8 0, .int .u8 0, .int .u8 0, .int .u8 0, .int .u8 0, .int .u8 0, .int .u8 0, .int .u8 0, .int .u8 0, .int .u8 0, .int .u8 0, .int .u8 0, .int .u8 0, .int .u64 0] rfl 30
                obtain ⟨c0, c1, c2, c3, c4⟩ := xs9_at AX.out
                go_upto_region 20 with (first
                  | (refine wpList_load_mid rfl 30 (.tmp 85) rfl br 0 rfl ds _ hR Tryd.underlying30 rfl hi ?_)
                  | (refine wpList_store_mid rfl 30 (.tmp 9) (.tmp 86) rfl W1.heap.size 0 ds.toArray rfl rfl (by rw [e34]; exact hth) (by simpa using hi) (all_oneCell_toArray hone) ?_))
                have Hc : Hid (Cx ((W1.alloc (.cells #[.bool false, .int .u8 0, .int .u8 0, .int .u8 0, .int .u8 0, .int .u8 0, .int .u8 0, .int .u8 0, .int .u8 0, .int .u8 0, .int .u8 0, .int .u8 0, .int .u8 0, .int .u8 0, .int .u8 0, .int .u8 0, .int .u8 0, .int .u8 0, .int .u8 0, .int .u8 0, .int .u8 0, .int .u8 0, .int .u8 0, .int .u8 0, .int .u8 0, .int .u8 0, .int .u8 0, .int .u8 0, .int .u8 0, .int .u8 0, .int .u8 0, .int .u8 0, .int .u8 0, .int .u64 0] 30)).setCells W1.heap.size 0 ds) W1.heap.size ky h m) := ⟨by rw [← HC.out]; exact ar_var W1 _ 34 rfl _ _ hlen, Hr.out.bk, Hr.out.wn⟩
                have hb : Below W1.heap.size W1 ((W1.alloc (.cells #[.bool false, .int .u8 0, .int .u8 0, .int .u8 0, .int .u8 0, .int .u8 0, .int .u8 0, .int .u8 0, .int .u8 0, .int .u8 0, .int .u8 0, .int .u8 0, .int .u8 0, .int .u8 0, .int .u8 0, .int .u8 0, .int .u8 0, .int .u8 0, .int .u8 0, .int .u8 0, .int .u8 0, .int .u8 0, .int .u8 0, .int .u8 0, .int .u8 0, .int .u8 0, .int .u8 0, .int .u8 0, .int .u8 0, .int .u8 0, .int .u8 0, .int .u8 0, .int .u8 0, .int .u64 0] 30)).setCells W1.heap.size 0 ds) := bel_var _ _ _ _
                have kcs : bs < W1.heap.size := Hs.out.lt
                have kcr : br < W1.heap.size := Hr.out.lt
                have kc6 : b6 < W1.heap.size := AX.out.lt (by decide)
                have kcw : w.heap.size ≤ W1.heap.size := HB.out.size
                clear c0 c1 c2 c3 c4
                replace Hs : Hid (Sx ((W1.alloc (.cells #[.bool false, .int .u8 0, .int .u8 0, .int .u8 0, .int .u8 0, .int .u8 0, .int .u8 0, .int .u8 0, .int .u8 0, .int .u8 0, .int .u8 0, .int .u8 0, .int .u8 0, .int .u8 0, .int .u8 0, .int .u8 0, .int .u8 0, .int .u8 0, .int .u8 0, .int .u8 0, .int .u8 0, .int .u8 0, .int .u8 0, .int .u8 0, .int .u8 0, .int .u8 0, .int .u8 0, .int .u8 0, .int .u8 0, .int .u8 0, .int .u8 0, .int .u8 0, .int .u8 0, .int .u64 0] 30)).setCells W1.heap.size 0 ds) bs ky h m) := Hs.out.later hb
                replace Hr : Hid (Cx ((W1.alloc (.cells #[.bool false, .int .u8 0, .int .u8 0, .int .u8 0, .int .u8 0, .int .u8 0, .int .u8 0, .int .u8 0, .int .u8 0, .int .u8 0, .int .u8 0, .int .u8 0, .int .u8 0, .int .u8 0, .int .u8 0, .int .u8 0, .int .u8 0, .int .u8 0, .int .u8 0, .int .u8 0, .int .u8 0, .int .u8 0, .int .u8 0, .int .u8 0, .int .u8 0, .int .u8 0, .int .u8 0, .int .u8 0, .int .u8 0, .int .u8 0, .int .u8 0, .int .u8 0, .int .u8 0, .int .u64 0] 30)).setCells W1.heap.size 0 ds) br ky h m) := Hr.out.later hb
                replace AX : Hid (Ar ((W1.alloc (.cells #[.bool false, .int .u8 0, .int .u8 0, .int .u8 0, .int .u8 0, .int .u8 0, .int .u8 0, .int .u8 0, .int .u8 0, .int .u8 0, .int .u8 0, .int .u8 0, .int .u8 0, .int .u8 0, .int .u8 0, .int .u8 0, .int .u8 0, .int .u8 0, .int .u8 0, .int .u8 0, .int .u8 0, .int .u8 0, .int .u8 0, .int .u8 0, .int .u8 0, .int .u8 0, .int .u8 0, .int .u8 0, .int .u8 0, .int .u8 0, .int .u8 0, .int .u8 0, .int .u8 0, .int .u64 0] 30)).setCells W1.heap.size 0 ds) b6 36 (xs9 what nn (.slice aA lA cA) (.slice aB lB cB) key)) := AX.out.later hb
                replace HB : Hid (Below w.heap.size w ((W1.alloc (.cells #[.bool false, .int .u8 0, .int .u8 0, .int .u8 0, .int .u8 0, .int .u8 0, .int .u8 0, .int .u8 0, .int .u8 0, .int .u8 0, .int .u8 0, .int .u8 0, .int .u8 0, .int .u8 0, .int .u8 0, .int .u8 0, .int .u8 0, .int .u8 0, .int .u8 0, .int .u8 0, .int .u8 0, .int .u8 0, .int .u8 0, .int .u8 0, .int .u8 0, .int .u8 0, .int .u8 0, .int .u8 0, .int .u8 0, .int .u8 0, .int .u8 0, .int .u8 0, .int .u8 0, .int .u64 0] 30)).setCells W1.heap.size 0 ds)) := HB.out.trans (hb.mono HB.out.size)
                clear hb
                obtain ⟨W2, hW2⟩ : ∃ W, W = ((W1.alloc (.cells #[.bool false, .int .u8 0, .int .u8 0, .int .u8 0, .int .u8 0, .int .u8 0, .int .u8 0, .int .u8 0, .int .u8 0, .int .u8 0, .int .u8 0, .int .u8 0, .int .u8 0, .int .u8 0, .int .u8 0, .int .u8 0, .int .u8 0, .int .u8 0, .int .u8 0, .int .u8 0, .int .u8 0, .int .u8 0, .int .u8 0, .int .u8 0, .int .u8 0, .int .u8 0, .int .u8 0, .int .u8 0, .int .u8 0, .int .u8 0, .int .u8 0, .int .u8 0, .int .u8 0, .int .u64 0] 30)).setCells W1.heap.size 0 ds) := ⟨_, rfl⟩
                obtain ⟨bc, hbc⟩ : ∃ q, q = W1.heap.size := ⟨_, rfl⟩
                rw [← hW2] at AX Hs Hr HB Hc ⊢
                rw [← hbc] at Hc kcs kcr kc6 kcw ⊢
                clear hW2 hbc hlen hone hi hR e34 hth HC
                have kcp : 0 < bc := by omega
                obtain ⟨c0, c1, c2, c3, c4⟩ := xs9_at AX.out
                go_wp2_with fail
                refine (rseal9_c bc ky h m aA lA cA ad aB lB cB bt _ Hc.out (HST.out.ra.below HB.out) (HST.out.rb.below HB.out) (HG.out.later HB.out) kcp (by omega)).mono ?_
                rintro e V101 ⟨ax, mx, dx, XX, EX, nX, rfl, hmx, -, -, -, RX, -, hb, -⟩
                clear c0 c1 c2 c3 c4
                replace Hs : Hid (Sx V101 bs ky h m) := Hs.out.extb hb (by omega)
                replace Hr : Hid (Cx V101 br ky h m) := Hr.out.extb hb (by omega)
                replace AX : Hid (Ar V101 b6 36 (xs9 what nn (.slice aA lA cA) (.slice aB lB cB) key)) := AX.out.extb hb (by omega)
                replace HB : Hid (Below w.heap.size w V101) := hb.below HB.out (by omega)
                clear hb
                clear Hc
                obtain ⟨c0, c1, c2, c3, c4⟩ := xs9_at AX.out
                go_wp2_with fail
                refine (open9_c bs ky h m aA lA cA ad ax mx dx XX _ Hs.out (HST.out.ra.below HB.out) RX.out (by omega) (by omega)).mono ?_
                rintro e V102 ⟨a1, m1, d1, X1, E1, n1, rfl, HX1, HE1, HN1, R1, HS', hb, hkp⟩
                clear c0 c1 c2 c3 c4
                replace Hs := HS'
                clear HS'
                replace RX : Hid (Rd V102 ax mx dx XX) := hkp _ _ _ _ RX.out
                clear hkp
                replace Hr : Hid (Cx V102 br ky h m) := Hr.out.extb hb (by omega)
                replace AX : Hid (Ar V102 b6 36 (xs9 what nn (.slice aA lA cA) (.slice aB lB cB) key)) := AX.out.extb hb (by omega)
                replace HB : Hid (Below w.heap.size w V102) := hb.below HB.out (by omega)
                clear hb
                obtain ⟨c0, c1, c2, c3, c4⟩ := xs9_at AX.out
                go_wp2_with fail
                refine (ropen9_c br ky h m aA lA cA ad ax mx dx XX _ Hr.out (HST.out.ra.below HB.out) RX.out (HG.out.later HB.out) (by omega)).mono ?_
                rintro e V103 ⟨a2, m2, d2, X2, E2, n2, rfl, HX2, HE2, HN2, R2, HC', hb, hkp⟩
                clear c0 c1 c2 c3 c4
                replace Hr := HC'
                replace R1 : Hid (Rd V103 a1 m1 d1 X1) := hkp _ _ _ _ R1.out
                clear HC' hkp
                replace Hs : Hid (Sx V103 bs ky h n1) := Hs.out.extb hb (by omega)
                replace AX : Hid (Ar V103 b6 36 (xs9 what nn (.slice aA lA cA) (.slice aB lB cB) key)) := AX.out.extb hb (by omega)
                replace HB : Hid (Below w.heap.size w V103) := hb.below HB.out (by omega)
                clear hb
                have e1 : X2 = X1 := by rw [HX2.out, HX1.out]
                subst e1
                have e2 : E2 = E1 := by rw [HE2.out, HE1.out]
                subst e2
                have e3 : n2 = n1 := by rw [HN2.out, HN1.out]
                subst e3
                have s1 := str_of R1.out
                have s2 := str_of R2.out
                clear AX
                go_wp2_with fail
                go_meet
                case rel => exact ⟨ky, h, n2, rfl, Hs, Hr, HB⟩
          · as_aux_lemma =>
              obtain ⟨r9, hr9⟩ : ∃ r, r = what.tmod 9 := ⟨_, rfl⟩
              have hr1 : what.tmod 9 = r9 := hr9.symm
              clear hr9
              by_cases h4 : r9 = 4
              · subst h4
                obtain ⟨c0, c1, c2, c3, c4⟩ := xs9_at AX.out
                go_wp2_with fail
                refine (open9_c bs ky h m aA lA cA ad aB lB cB bt _ Hs.out (HST.out.ra.below HB.out) (HST.out.rb.below HB.out) (by omega) (by omega)).mono ?_
                rintro e V101 ⟨a1, m1, d1, X1, E1, n1, rfl, HX1, HE1, HN1, R1, HS', hb, hkp⟩
                clear c0 c1 c2 c3 c4
                replace Hs := HS'
                clear HS'
                clear hkp
                replace Hr : Hid (Cx V101 br ky h m) := Hr.out.extb hb (by omega)
                replace AX : Hid (Ar V101 b6 36 (xs9 what nn (.slice aA lA cA) (.slice aB lB cB) key)) := AX.out.extb hb (by omega)
                replace HB : Hid (Below w.heap.size w V101) := hb.below HB.out (by omega)
                clear hb
                obtain ⟨c0, c1, c2, c3, c4⟩ := xs9_at AX.out
                go_wp2_with fail
                refine (ropen9_c br ky h m aA lA cA ad aB lB cB bt _ Hr.out (HST.out.ra.below HB.out) (HST.out.rb.below HB.out) (HG.out.later HB.out) (by omega)).mono ?_
                rintro e V102 ⟨a2, m2, d2, X2, E2, n2, rfl, HX2, HE2, HN2, R2, HC', hb, hkp⟩
                clear c0 c1 c2 c3 c4
                replace Hr := HC'
                replace R1 : Hid (Rd V102 a1 m1 d1 X1) := hkp _ _ _ _ R1.out
                clear HC' hkp
                replace Hs : Hid (Sx V102 bs ky h n1) := Hs.out.extb hb (by omega)
                replace AX : Hid (Ar V102 b6 36 (xs9 what nn (.slice aA lA cA) (.slice aB lB cB) key)) := AX.out.extb hb (by omega)
                replace HB : Hid (Below w.heap.size w V102) := hb.below HB.out (by omega)
                clear hb
                have e1 : X2 = X1 := by rw [HX2.out, HX1.out]
                subst e1
                have e2 : E2 = E1 := by rw [HE2.out, HE1.out]
                subst e2
                have e3 : n2 = n1 := by rw [HN2.out, HN1.out]
                subst e3
                have s1 := str_of R1.out
                have s2 := str_of R2.out
                clear AX
                go_wp2_with fail
                go_meet
                case rel => exact ⟨ky, h, n2, rfl, Hs, Hr, HB⟩
              · obtain ⟨hlen, hone, hi⟩ := rc9_cells h m Hr.out.bk
                have hR := Hr.out.ar.rng
                obtain ⟨ds, hds⟩ : ∃ ds, ds = (rc9 ky h m) := ⟨_, rfl⟩
                have HC : Hid (ds = (rc9 ky h m)) := hds
                rw [← hds] at hlen hone hi hR
                clear hds
                have e34 : ds.toArray.size = 34 := by simpa using hlen
                have hth := there_new W1 34 #[.bool false, .int .u8 0, .int .u8 0, .int .u8 0, .int .u8 0, .int .u8 0, .int .u8 0, .int .u8 0, .int .u8 0, .int .u8 0, .int .u8 0, .int .u8 0, .int .u8 0, .int .u8 0, .int .u8 0, .int .u8 0, .int .u8 0, .int .u8 0, .int .u8 0, .int .u8 0, .int .u8 0, .int .u8 0, .int .u8 0, .int .u8 0, .int .u8 0, .int .u8 0, .int .u8 0, .int .u8 0, .int .u8 0, .int .u8 0, .int .u8 0, .int .u8 0, .int .u8 0, .int .u64 0] rfl 30
                obtain ⟨c0, c1, c2, c3, c4⟩ := xs9_at AX.out
                go_upto_region 20 with (first
                  | (refine wpList_load_mid rfl 30 (.tmp 85) rfl br 0 rfl ds _ hR Tryd.underlying30 rfl hi ?_)
                  | (refine wpList_store_mid rfl 30 (.tmp 9) (.tmp 86) rfl W1.heap.size 0 ds.toArray rfl rfl (by rw [e34]; exact hth) (by simpa using hi) (all_oneCell_toArray hone) ?_))
                have Hc : Hid (Cx ((W1.alloc (.cells #[.bool false, .int .u8 0, .int .u8 0, .int .u8 0, .int .u8 0, .int .u8 0, .int .u8 0, .int .u8 0, .int .u8 0, .int .u8 0, .int .u8 0, .int .u8 0, .int .u8 0, .int .u8 0, .int .u8 0, .int .u8 0, .int .u8 0, .int .u8 0, .int .u8 0, .int .u8 0, .int .u8 0, .int .u8 0, .int .u8 0, .int .u8 0, .int .u8 0, .int .u8 0, .int .u8 0, .int .u8 0, .int .u8 0, .int .u8 0, .int .u8 0, .int .u8 0, .int .u8 0, .int .u64 0] 30)).setCells W1.heap.size 0 ds) W1.heap.size ky h m) := ⟨by rw [← HC.out]; exact ar_var W1 _ 34 rfl _ _ hlen, Hr.out.bk, Hr.out.wn⟩
                have hb : Below W1.heap.size W1 ((W1.alloc (.cells #[.bool false, .int .u8 0, .int .u8 0, .int .u8 0, .int .u8 0, .int .u8 0, .int .u8 0, .int .u8 0, .int .u8 0, .int .u8 0, .int .u8 0, .int .u8 0, .int .u8 0, .int .u8 0, .int .u8 0, .int .u8 0, .int .u8 0, .int .u8 0, .int .u8 0, .int .u8 0, .int .u8 0, .int .u8 0, .int .u8 0, .int .u8 0, .int .u8 0, .int .u8 0, .int .u8 0, .int .u8 0, .int .u8 0, .int .u8 0, .int .u8 0, .int .u8 0, .int .u8 0, .int .u64 0] 30)).setCells W1.heap.size 0 ds) := bel_var _ _ _ _
                have kcs : bs < W1.heap.size := Hs.out.lt
                have kcr : br < W1.heap.size := Hr.out.lt
                have kc6 : b6 < W1.heap.size := AX.out.lt (by decide)
                have kcw : w.heap.size ≤ W1.heap.size := HB.out.size
                clear c0 c1 c2 c3 c4
                replace Hs : Hid (Sx ((W1.alloc (.cells #[.bool false, .int .u8 0, .int .u8 0, .int .u8 0, .int .u8 0, .int .u8 0, .int .u8 0, .int .u8 0, .int .u8 0, .int .u8 0, .int .u8 0, .int .u8 0, .int .u8 0, .int .u8 0, .int .u8 0, .int .u8 0, .int .u8 0, .int .u8 0, .int .u8 0, .int .u8 0, .int .u8 0, .int .u8 0, .int .u8 0, .int .u8 0, .int .u8 0, .int .u8 0, .int .u8 0, .int .u8 0, .int .u8 0, .int .u8 0, .int .u8 0, .int .u8 0, .int .u8 0, .int .u64 0] 30)).setCells W1.heap.size 0 ds) bs ky h m) := Hs.out.later hb
                replace Hr : Hid (Cx ((W1.alloc (.cells #[.bool false, .int .u8 0, .int .u8 0, .int .u8 0, .int .u8 0, .int .u8 0, .int .u8 0, .int .u8 0, .int .u8 0, .int .u8 0, .int .u8 0, .int .u8 0, .int .u8 0, .int .u8 0, .int .u8 0, .int .u8 0, .int .u8 0, .int .u8 0, .int .u8 0, .int .u8 0, .int .u8 0, .int .u8 0, .int .u8 0, .int .u8 0, .int .u8 0, .int .u8 0, .int .u8 0, .int .u8 0, .int .u8 0, .int .u8 0, .int .u8 0, .int .u8 0, .int .u8 0, .int .u64 0] 30)).setCells W1.heap.size 0 ds) br ky h m) := Hr.out.later hb
                replace AX : Hid (Ar ((W1.alloc (.cells #[.bool false, .int .u8 0, .int .u8 0, .int .u8 0, .int .u8 0, .int .u8 0, .int .u8 0, .int .u8 0, .int .u8 0, .int .u8 0, .int .u8 0, .int .u8 0, .int .u8 0, .int .u8 0, .int .u8 0, .int .u8 0, .int .u8 0, .int .u8 0, .int .u8 0, .int .u8 0, .int .u8 0, .int .u8 0, .int .u8 0, .int .u8 0, .int .u8 0, .int .u8 0, .int .u8 0, .int .u8 0, .int .u8 0, .int .u8 0, .int .u8 0, .int .u8 0, .int .u8 0, .int .u64 0] 30)).setCells W1.heap.size 0 ds) b6 36 (xs9 what nn (.slice aA lA cA) (.slice aB lB cB) key)) := AX.out.later hb
                replace HB : Hid (Below w.heap.size w ((W1.alloc (.cells #[.bool false, .int .u8 0, .int .u8 0, .int .u8 0, .int .u8 0, .int .u8 0, .int .u8 0, .int .u8 0, .int .u8 0, .int .u8 0, .int .u8 0, .int .u8 0, .int .u8 0, .int .u8 0, .int .u8 0, .int .u8 0, .int .u8 0, .int .u8 0, .int .u8 0, .int .u8 0, .int .u8 0, .int .u8 0, .int .u8 0, .int .u8 0, .int .u8 0, .int .u8 0, .int .u8 0, .int .u8 0, .int .u8 0, .int .u8 0, .int .u8 0, .int .u8 0, .int .u8 0, .int .u64 0] 30)).setCells W1.heap.size 0 ds)) := HB.out.trans (hb.mono HB.out.size)
                clear hb
                obtain ⟨W2, hW2⟩ : ∃ W, W = ((W1.alloc (.cells #[.bool false, .int .u8 0, .int .u8 0, .int .u8 0, .int .u8 0, .int .u8 0, .int .u8 0, .int .u8 0, .int .u8 0, .int .u8 0, .int .u8 0, .int .u8 0, .int .u8 0, .int .u8 0, .int .u8 0, .int .u8 0, .int .u8 0, .int .u8 0, .int .u8 0, .int .u8 0, .int .u8 0, .int .u8 0, .int .u8 0, .int .u8 0, .int .u8 0, .int .u8 0, .int .u8 0, .int .u8 0, .int .u8 0, .int .u8 0, .int .u8 0, .int .u8 0, .int .u8 0, .int .u64 0] 30)).setCells W1.heap.size 0 ds) := ⟨_, rfl⟩
                obtain ⟨bc, hbc⟩ : ∃ q, q = W1.heap.size := ⟨_, rfl⟩
                rw [← hW2] at AX Hs Hr HB Hc ⊢
                rw [← hbc] at Hc kcs kcr kc6 kcw ⊢
                clear hW2 hbc hlen hone hi hR e34 hth HC
                have kcp : 0 < bc := by omega
                obtain ⟨c0, c1, c2, c3, c4⟩ := xs9_at AX.out
                go_wp2_with fail
                refine (rseal9_c bc ky h m aA lA cA ad aB lB cB bt _ Hc.out (HST.out.ra.below HB.out) (HST.out.rb.below HB.out) (HG.out.later HB.out) kcp (by omega)).mono ?_
                rintro e V101 ⟨ax, mx, dx, XX, EX, nX, rfl, hmx, -, -, -, RX, -, hb, -⟩
                clear c0 c1 c2 c3 c4
                replace Hs : Hid (Sx V101 bs ky h m) := Hs.out.extb hb (by omega)
                replace Hr : Hid (Cx V101 br ky h m) := Hr.out.extb hb (by omega)
                replace AX : Hid (Ar V101 b6 36 (xs9 what nn (.slice aA lA cA) (.slice aB lB cB) key)) := AX.out.extb hb (by omega)
                replace HB : Hid (Below w.heap.size w V101) := hb.below HB.out (by omega)
                clear hb
                clear Hc
                obtain ⟨c0, c1, c2, c3, c4⟩ := xs9_at AX.out
                go_wp2_with fail
                refine (open9_c bs ky h m aA lA cA ad ax mx dx XX _ Hs.out (HST.out.ra.below HB.out) RX.out (by omega) (by omega)).mono ?_
                rintro e V102 ⟨a1, m1, d1, X1, E1, n1, rfl, HX1, HE1, HN1, R1, HS', hb, hkp⟩
                clear c0 c1 c2 c3 c4
                replace Hs := HS'
                clear HS'
                replace RX : Hid (Rd V102 ax mx dx XX) := hkp _ _ _ _ RX.out
                clear hkp
                replace Hr : Hid (Cx V102 br ky h m) := Hr.out.extb hb (by omega)
                replace AX : Hid (Ar V102 b6 36 (xs9 what nn (.slice aA lA cA) (.slice aB lB cB) key)) := AX.out.extb hb (by omega)
                replace HB : Hid (Below w.heap.size w V102) := hb.below HB.out (by omega)
                clear hb
                obtain ⟨c0, c1, c2, c3, c4⟩ := xs9_at AX.out
                go_wp2_with fail
                refine (ropen9_c br ky h m aA lA cA ad ax mx dx XX _ Hr.out (HST.out.ra.below HB.out) RX.out (HG.out.later HB.out) (by omega)).mono ?_
                rintro e V103 ⟨a2, m2, d2, X2, E2, n2, rfl, HX2, HE2, HN2, R2, HC', hb, hkp⟩
                clear c0 c1 c2 c3 c4
                replace Hr := HC'
                replace R1 : Hid (Rd V103 a1 m1 d1 X1) := hkp _ _ _ _ R1.out
                clear HC' hkp
                replace Hs : Hid (Sx V103 bs ky h n1) := Hs.out.extb hb (by omega)
                replace AX : Hid (Ar V103 b6 36 (xs9 what nn (.slice aA lA cA) (.slice aB lB cB) key)) := AX.out.extb hb (by omega)
                replace HB : Hid (Below w.heap.size w V103) := hb.below HB.out (by omega)
                clear hb
                have e1 : X2 = X1 := by rw [HX2.out, HX1.out]
                subst e1
                have e2 : E2 = E1 := by rw [HE2.out, HE1.out]
                subst e2
                have e3 : n2 = n1 := by rw [HN2.out, HN1.out]
                subst e3
                have s1 := str_of R1.out
                have s2 := str_of R2.out
                clear AX
                go_wp2_with fail
                go_meet
                case rel => exact ⟨ky, h, n2, rfl, Hs, Hr, HB⟩
          · as_aux_lemma =>
              obtain ⟨r9, hr9⟩ : ∃ r, r = what.tmod 9 := ⟨_, rfl⟩
              have hr1 : what.tmod 9 = r9 := hr9.symm
              clear hr9
              by_cases h4 : r9 = 4
              · subst h4
                obtain ⟨c0, c1, c2, c3, c4⟩ := xs9_at AX.out
                go_wp2_with fail
                refine (open9_c bs ky h m aA lA cA ad aB lB cB bt _ Hs.out (HST.out.ra.below HB.out) (HST.out.rb.below HB.out) (by omega) (by omega)).mono ?_
                rintro e V101 ⟨a1, m1, d1, X1, E1, n1, rfl, HX1, HE1, HN1, R1, HS', hb, hkp⟩
                clear c0 c1 c2 c3 c4
                replace Hs := HS'
                clear HS'
                clear hkp
                replace Hr : Hid (Cx V101 br ky h m) := Hr.out.extb hb (by omega)
                replace AX : Hid (Ar V101 b6 36 (xs9 what nn (.slice aA lA cA) (.slice aB lB cB) key)) := AX.out.extb hb (by omega)
                replace HB : Hid (Below w.heap.size w V101) := hb.below HB.out (by omega)
                clear hb
                obtain ⟨c0, c1, c2, c3, c4⟩ := xs9_at AX.out
                go_wp2_with fail
                refine (ropen9_c br ky h m aA lA cA ad aB lB cB bt _ Hr.out (HST.out.ra.below HB.out) (HST.out.rb.below HB.out) (HG.out.later HB.out) (by omega)).mono ?_
                rintro e V102 ⟨a2, m2, d2, X2, E2, n2, rfl, HX2, HE2, HN2, R2, HC', hb, hkp⟩
                clear c0 c1 c2 c3 c4
                replace Hr := HC'
                replace R1 : Hid (Rd V102 a1 m1 d1 X1) := hkp _ _ _ _ R1.out
                clear HC' hkp
                replace Hs : Hid (Sx V102 bs ky h n1) := Hs.out.extb hb (by omega)
                replace AX : Hid (Ar V102 b6 36 (xs9 what nn (.slice aA lA cA) (.slice aB lB cB) key)) := AX.out.extb hb (by omega)
                replace HB : Hid (Below w.heap.size w V102) := hb.below HB.out (by omega)
                clear hb
                have e1 : X2 = X1 := by rw [HX2.out, HX1.out]
                subst e1
                have e2 : E2 = E1 := by rw [HE2.out, HE1.out]
                subst e2
                have e3 : n2 = n1 := by rw [HN2.out, HN1.out]
                subst e3
                have s1 := str_of R1.out
                have s2 := str_of R2.out
                clear AX
                go_wp2_with fail
                go_meet
                case rel => exact ⟨ky, h, n2, rfl, Hs, Hr, HB⟩
              · obtain ⟨hlen, hone, hi⟩ := rc9_cells h m Hr.out.bk
                have hR := Hr.out.ar.rng
                obtain ⟨ds, hds⟩ : ∃ ds, ds = (rc9 ky h m) := ⟨_, rfl⟩
                have HC : Hid (ds = (rc9 ky h m)) := hds
                rw [← hds] at hlen hone hi hR
                clear hds
                have e34 : ds.toArray.size = 34 := by simpa using hlen
                have hth := there_new W1 34 #[.bool false, .int .u8 0, .int .u8 0, .int .u8 0, .int .u8 0, .int .u8 0, .int .u8 0, .int .u8 0, .int .u8 0, .int .u8 0, .int .u8 0, .int .u8 0, .int .u8 0, .int .u8 0, .int .u8 0, .int .u8 0, .int .u8 0, .int .u8 0, .int .u8 0, .int .u8 0, .int .u8 0, .int .u8 0, .int .u8 0, .int .u8 0, .int .u8 0, .int .u8 0, .int .u8 0, .int .u8 0, .int .u8 0, .int .u8 0, .int .u8 0, .int .u8 0, .int .u8 0, .int .u64 0] rfl 30
                obtain ⟨c0, c1, c2, c3, c4⟩ := xs9_at AX.out
                go_upto_region 20 with (first
                  | (refine wpList_load_mid rfl 30 (.tmp 85) rfl br 0 rfl ds _ hR Tryd.underlying30 rfl hi ?_)
                  | (refine wpList_store_mid rfl 30 (.tmp 9) (.tmp 86) rfl W1.heap.size 0 ds.toArray rfl rfl (by rw [e34]; exact hth) (by simpa using hi) (all_oneCell_toArray hone) ?_))
                have Hc : Hid (Cx ((W1.alloc (.cells #[.bool false, .int .u8 0, .int .u8 0, .int .u8 0, .int .u8 0, .int .u8 0, .int .u8 0, .int .u8 0, .int .u8 0, .int .u8 0, .int .u8 0, .int .u8 0, .int .u8 0, .int .u8 0, .int .u8 0, .int .u8 0, .int .u8 0, .int .u8 0, .int .u8 0, .int .u8 0, .int .u8 0, .int .u8 0, .int .u8 0, .int .u8 0, .int .u8 0, .int .u8 0, .int .u8 0, .int .u8 0, .int .u8 0, .int .u8 0, .int .u8 0, .int .u8 0, .int .u8 0, .int .u64 0] 30)).setCells W1.heap.size 0 ds) W1.heap.size ky h m) := ⟨by rw [← HC.out]; exact ar_var W1 _ 34 rfl _ _ hlen, Hr.out.bk, Hr.out.wn⟩
                have hb : Below W1.heap.size W1 ((W1.alloc (.cells #[.bool false, .int .u8 0, .int .u8 0, .int .u8 0, .int .u8 0, .int .u8 0, .int .u8 0, .int .u8 0, .int .u8 0, .int .u8 0, .int .u8 0, .int .u8 0, .int .u8 0, .int .u8 0, .int .u8 0, .int .u8 0, .int .u8 0, .int .u8 0, .int .u8 0, .int .u8 0, .int .u8 0, .int .u8 0, .int .u8 0, .int .u8 0, .int .u8 0, .int .u8 0, .int .u8 0, .int .u8 0, .int .u8 0, .int .u8 0, .int .u8 0, .int .u8 0, .int .u8 0, .int .u64 0] 30)).setCells W1.heap.size 0 ds) := bel_var _ _ _ _
                have kcs : bs < W1.heap.size := Hs.out.lt
                have kcr : br < W1.heap.size := Hr.out.lt
                have kc6 : b6 < W1.heap.size := AX.out.lt (by decide)
                have kcw : w.heap.size ≤ W1.heap.size := HB.out.size
                clear c0 c1 c2 c3 c4
                replace Hs : Hid (Sx ((W1.alloc (.cells #[.bool false, .int .u8 0, .int .u8 0, .int .u8 0, .int .u8 0, .int .u8 0, .int .u8 0, .int .u8 0, .int .u8 0, .int .u8 0, .int .u8 0, .int .u8 0, .int .u8 0, .int .u8 0, .int .u8 0, .int .u8 0, .int .u8 0, .int .u8 0, .int .u8 0, .int .u8 0, .int .u8 0, .int .u8 0, .int .u8 0, .int .u8 0, .int .u8 0, .int .u8 0, .int .u8 0, .int .u8 0, .int .u8 0, .int .u8 0, .int .u8 0, .int .u8 0, .int .u8 0, .int .u64 0] 30)).setCells W1.heap.size 0 ds) bs ky h m) := Hs.out.later hb
                replace Hr : Hid (Cx ((W1.alloc (.cells #[.bool false, .int .u8 0, .int .u8 0, .int .u8 0, .int .u8 0, .int .u8 0, .int .u8 0, .int .u8 0, .int .u8 0, .int .u8 0, .int .u8 0, .int .u8 0, .int .u8 0, .int .u8 0, .int .u8 0, .int .u8 0, .int .u8 0, .int .u8 0, .int .u8 0, .int .u8 0, .int .u8 0, .int .u8 0, .int .u8 0, .int .u8 0, .int .u8 0, .int .u8 0, .int .u8 0, .int .u8 0, .int .u8 0, .int .u8 0, .int .u8 0, .int .u8 0, .int .u8 0, .int .u64 0] 30)).setCells W1.heap.size 0 ds) br ky h m) := Hr.out.later hb
                replace AX : Hid (Ar ((W1.alloc (.cells #[.bool false, .int .u8 0, .int .u8 0, .int .u8 0, .int .u8 0, .int .u8 0, .int .u8 0, .int .u8 0, .int .u8 0, .int .u8 0, .int .u8 0, .int .u8 0, .int .u8 0, .int .u8 0, .int .u8 0, .int .u8 0, .int .u8 0, .int .u8 0, .int .u8 0, .int .u8 0, .int .u8 0, .int .u8 0, .int .u8 0, .int .u8 0, .int .u8 0, .int .u8 0, .int .u8 0, .int .u8 0, .int .u8 0, .int .u8 0, .int .u8 0, .int .u8 0, .int .u8 0, .int .u64 0] 30)).setCells W1.heap.size 0 ds) b6 36 (xs9 what nn (.slice aA lA cA) (.slice aB lB cB) key)) := AX.out.later hb
                replace HB : Hid (Below w.heap.size w ((W1.alloc (.cells #[.bool false, .int .u8 0, .int .u8 0, .int .u8 0, .int .u8 0, .int .u8 0, .int .u8 0, .int .u8 0, .int .u8 0, .int .u8 0, .int .u8 0, .int .u8 0, .int .u8 0, .int .u8 0, .int .u8 0, .int .u8 0, .int .u8 0, .int .u8 0, .int .u8 0, .int .u8 0, .int .u8 0, .int .u8 0, .int .u8 0, .int .u8 0, .int .u8 0, .int .u8 0, .int .u8 0, .int .u8 0, .int .u8 0, .int .u8 0, .int .u8 0, .int .u8 0, .int .u8 0, .int .u64 0] 30)).setCells W1.heap.size 0 ds)) := HB.out.trans (hb.mono HB.out.size)
                clear hb
                obtain ⟨W2, hW2⟩ : ∃ W, W = ((W1.alloc (.cells #[.bool false, .int .u8 0, .int .u8 0, .int .u8 0, .int .u8 0, .int .u8 0, .int .u8 0, .int .u8 0, .int .u8 0, .int .u8 0, .int .u8 0, .int .u8 0, .int .u8 0, .int .u8 0, .int .u8 0, .int .u8 0, .int .u8 0, .int .u8 0, .int .u8 0, .int .u8 0, .int .u8 0, .int .u8 0, .int .u8 0, .int .u8 0, .int .u8 0, .int .u8 0, .int .u8 0, .int .u8 0, .int .u8 0, .int .u8 0, .int .u8 0, .int .u8 0, .int .u8 0, .int .u64 0] 30)).setCells W1.heap.size 0 ds) := ⟨_, rfl⟩
                obtain ⟨bc, hbc⟩ : ∃ q, q = W1.heap.size := ⟨_, rfl⟩
                rw [← hW2] at AX Hs Hr HB Hc ⊢
                rw [← hbc] at Hc kcs kcr kc6 kcw ⊢
                clear hW2 hbc hlen hone hi hR e34 hth HC
                have kcp : 0 < bc := by omega
                obtain ⟨c0, c1, c2, c3, c4⟩ := xs9_at AX.out
                go_wp2_with fail
                refine (rseal9_c bc ky h m aA lA cA ad aB lB cB bt _ Hc.out (HST.out.ra.below HB.out) (HST.out.rb.below HB.out) (HG.out.later HB.out) kcp (by omega)).mono ?_
                rintro e V101 ⟨ax, mx, dx, XX, EX, nX, rfl, hmx, -, -, -, RX, -, hb, -⟩
                clear c0 c1 c2 c3 c4
                replace Hs : Hid (Sx V101 bs ky h m) := Hs.out.extb hb (by omega)
                replace Hr : Hid (Cx V101 br ky h m) := Hr.out.extb hb (by omega)
                replace AX : Hid (Ar V101 b6 36 (xs9 what nn (.slice aA lA cA) (.slice aB lB cB) key)) := AX.out.extb hb (by omega)
                replace HB : Hid (Below w.heap.size w V101) := hb.below HB.out (by omega)
                clear hb
                clear Hc
                obtain ⟨c0, c1, c2, c3, c4⟩ := xs9_at AX.out
                go_wp2_with fail
                refine (open9_c bs ky h m aA lA cA ad ax mx dx XX _ Hs.out (HST.out.ra.below HB.out) RX.out (by omega) (by omega)).mono ?_
                rintro e V102 ⟨a1, m1, d1, X1, E1, n1, rfl, HX1, HE1, HN1, R1, HS', hb, hkp⟩
                clear c0 c1 c2 c3 c4
                replace Hs := HS'
                clear HS'
                replace RX : Hid (Rd V102 ax mx dx XX) := hkp _ _ _ _ RX.out
                clear hkp
                replace Hr : Hid (Cx V102 br ky h m) := Hr.out.extb hb (by omega)
                replace AX : Hid (Ar V102 b6 36 (xs9 what nn (.slice aA lA cA) (.slice aB lB cB) key)) := AX.out.extb hb (by omega)
                replace HB : Hid (Below w.heap.size w V102) := hb.below HB.out (by omega)
                clear hb
                obtain ⟨c0, c1, c2, c3, c4⟩ := xs9_at AX.out
                go_wp2_with fail
                refine (ropen9_c br ky h m aA lA cA ad ax mx dx XX _ Hr.out (HST.out.ra.below HB.out) RX.out (HG.out.later HB.out) (by omega)).mono ?_
                rintro e V103 ⟨a2, m2, d2, X2, E2, n2, rfl, HX2, HE2, HN2, R2, HC', hb, hkp⟩
                clear c0 c1 c2 c3 c4
                replace Hr := HC'
                replace R1 : Hid (Rd V103 a1 m1 d1 X1) := hkp _ _ _ _ R1.out
                clear HC' hkp
                replace Hs : Hid (Sx V103 bs ky h n1) := Hs.out.extb hb (by omega)
                replace AX : Hid (Ar V103 b6 36 (xs9 what nn (.slice aA lA cA) (.slice aB lB cB) key)) := AX.out.extb hb (by omega)
                replace HB : Hid (Below w.heap.size w V103) := hb.below HB.out (by omega)
                clear hb
                have e1 : X2 = X1 := by rw [HX2.out, HX1.out]
                subst e1
                have e2 : E2 = E1 := by rw [HE2.out, HE1.out]
                subst e2
                have e3 : n2 = n1 := by rw [HN2.out, HN1.out]
                subst e3
                have s1 := str_of R1.out
                have s2 := str_of R2.out
                clear AX
                go_wp2_with fail
                go_meet
                case rel => exact ⟨ky, h, n2, rfl, Hs, Hr, HB⟩
          · as_aux_lemma =>
              go_wp2_with fail
              refine (rekey9_c bs ky h m _ Hs.out).mono ?_
              rintro e V101 ⟨E1, K1, rfl, HE1, HK1, HS', hb⟩
              replace Hs := HS'
              clear HS'
              replace Hr : Hid (Cx V101 br ky h m) := Hr.out.extb hb (by omega)
              replace AX : Hid (Ar V101 b6 36 (xs9 what nn (.slice aA lA cA) (.slice aB lB cB) key)) := AX.out.extb hb (by omega)
              replace HB : Hid (Below w.heap.size w V101) := hb.below HB.out (by omega)
              clear hb
              go_wp2_with fail
              refine (rrekey9_c br ky h m _ Hr.out (HG.out.later HB.out)).mono ?_
              rintro e V102 ⟨E2, K2, rfl, HE2, HK2, HC', hb⟩
              replace Hr := HC'
              clear HC'
              replace Hs : Hid (Sx V102 bs K1 h m) := Hs.out.extb hb (by omega)
              replace AX : Hid (Ar V102 b6 36 (xs9 what nn (.slice aA lA cA) (.slice aB lB cB) key)) := AX.out.extb hb (by omega)
              replace HB : Hid (Below w.heap.size w V102) := hb.below HB.out (by omega)
              clear hb
              have e2 : E2 = E1 := by rw [HE2.out, HE1.out]
              subst e2
              have e3 : K2 = K1 := by rw [HK2.out, HK1.out]
              subst e3
              clear AX
              go_wp2_with fail
              go_meet
              case rel => exact ⟨K2, h, m, rfl, Hs, Hr, HB⟩
          · as_aux_lemma =>
              have hnn := HST.out.bn
              obtain ⟨r3, hr3⟩ : ∃ r, r = nn.tmod 3 := ⟨_, rfl⟩
              have hq3 : nn.tmod 3 = r3 := hr3.symm
              clear hr3
              by_cases h3 : r3 = 0
              · subst h3
                obtain ⟨r5, hr5⟩ : ∃ r, r = nn.tmod 5 := ⟨_, rfl⟩
                have hq5 : nn.tmod 5 = r5 := hr5.symm
                have hr52 : 0 ≤ r5 ∧ r5 < 5 := by rw [hr5, Int.tmod_eq_emod_of_nonneg hnn.1]; omega
                clear hr5
                obtain ⟨m0, hm0'⟩ : ∃ m, m = 18446744073709551615 - r5 := ⟨_, rfl⟩
                have hm0 : 0 ≤ m0 ∧ m0 < 18446744073709551616 := by omega
                have hw0 : IntKind.u64.wrap (18446744073709551615 - r5) = m0 := by rw [IntKind.wrap_u64, hm0']; omega
                clear hm0' hr52
                obtain ⟨c0, c1, c2, c3, c4⟩ := xs9_at AX.out
                go_wp2_with fail
                refine (setn9_c bs ky h m m0 hm0 _ Hs.out).mono ?_
                rintro e V101 ⟨rfl, HS', hb⟩
                replace Hs := HS'
                clear c0 c1 c2 c3 c4 HS'
                replace Hr : Hid (Cx V101 br ky h m) := Hr.out.extb hb (by omega)
                replace AX : Hid (Ar V101 b6 36 (xs9 what nn (.slice aA lA cA) (.slice aB lB cB) key)) := AX.out.extb hb (by omega)
                replace HB : Hid (Below w.heap.size w V101) := hb.below HB.out (by omega)
                clear hb
                obtain ⟨cn, fn⟩ := Hr.out.nonce
                have Hs2 : Hid (Sx (V101.setCell ⟨br, 33, none⟩ (.int .u64 m0)) bs ky h m0) := Hs.out.else br 33 nsr _
                have Hr2 : Hid (Cx (V101.setCell ⟨br, 33, none⟩ (.int .u64 m0)) br ky h m0) := Hr.out.setN hm0
                have HB2 : Hid (Below w.heap.size w (V101.setCell ⟨br, 33, none⟩ (.int .u64 m0))) := HB.out.setCell (p := ⟨br, 33, none⟩) (by dsimp only; omega) _
                clear AX Hs Hr HB
                go_wp2_with fail
                go_meet
                case rel => exact ⟨ky, h, m0, rfl, Hs2, Hr2, HB2⟩
              · have hm0 : 0 ≤ nn ∧ nn < 18446744073709551616 := by omega
                obtain ⟨c0, c1, c2, c3, c4⟩ := xs9_at AX.out
                go_wp2_with fail
                refine (setn9_c bs ky h m nn hm0 _ Hs.out).mono ?_
                rintro e V101 ⟨rfl, HS', hb⟩
                replace Hs := HS'
                clear c0 c1 c2 c3 c4 HS'
                replace Hr : Hid (Cx V101 br ky h m) := Hr.out.extb hb (by omega)
                replace AX : Hid (Ar V101 b6 36 (xs9 what nn (.slice aA lA cA) (.slice aB lB cB) key)) := AX.out.extb hb (by omega)
                replace HB : Hid (Below w.heap.size w V101) := hb.below HB.out (by omega)
                clear hb
                obtain ⟨cn, fn⟩ := Hr.out.nonce
                have Hs2 : Hid (Sx (V101.setCell ⟨br, 33, none⟩ (.int .u64 nn)) bs ky h nn) := Hs.out.else br 33 nsr _
                have Hr2 : Hid (Cx (V101.setCell ⟨br, 33, none⟩ (.int .u64 nn)) br ky h nn) := Hr.out.setN hm0
                have HB2 : Hid (Below w.heap.size w (V101.setCell ⟨br, 33, none⟩ (.int .u64 nn))) := HB.out.setCell (p := ⟨br, 33, none⟩) (by dsimp only; omega) _
                clear AX Hs Hr HB
                go_wp2_with fail
                go_meet
                case rel => exact ⟨ky, h, nn, rfl, Hs2, Hr2, HB2⟩
          · as_aux_lemma =>
              obtain ⟨_, _, hiK⟩ := bn32_cells HST.out.bk
              obtain ⟨c0, c1, c2, c3, c4⟩ := xs9_at AX.out
              go_wp2_with (refine wpList_load_mid rfl 27 (.tmp 148) rfl b6 4 rfl (List.map (Value.int .u8) key) _ c4 Tryd.underlying27 rfl hiK ?_)
              refine (init9_c bs ky h m key HST.out.bk _ Hs.out).mono ?_
              rintro e V101 ⟨rfl, HS', hb⟩
              replace Hs := HS'
              clear c0 c1 c2 c3 c4 HS'
              replace Hr : Hid (Cx V101 br ky h m) := Hr.out.extb hb (by omega)
              replace AX : Hid (Ar V101 b6 36 (xs9 what nn (.slice aA lA cA) (.slice aB lB cB) key)) := AX.out.extb hb (by omega)
              replace HB : Hid (Below w.heap.size w V101) := hb.below HB.out (by omega)
              clear hb
              obtain ⟨c0, c1, c2, c3, c4⟩ := xs9_at AX.out
              go_wp2_with (refine wpList_load_mid rfl 27 (.tmp 152) rfl b6 4 rfl (List.map (Value.int .u8) key) _ c4 Tryd.underlying27 rfl hiK ?_)
              refine (rinit9_c br ky h m key HST.out.bk _ Hr.out).mono ?_
              rintro e V102 ⟨rfl, HC', hb⟩
              replace Hr := HC'
              clear c0 c1 c2 c3 c4 HC'
              replace Hs : Hid (Sx V102 bs key true 0) := Hs.out.extb hb (by omega)
              replace AX : Hid (Ar V102 b6 36 (xs9 what nn (.slice aA lA cA) (.slice aB lB cB) key)) := AX.out.extb hb (by omega)
              replace HB : Hid (Below w.heap.size w V102) := hb.below HB.out (by omega)
              clear hb
              clear AX
              go_wp2_with fail
              go_meet
              case rel => exact ⟨key, true, 0, rfl, Hs, Hr, HB⟩
          · as_aux_lemma =>
              go_wp2_with fail
              refine (copy9_c bs ky h m _ Hs.out).mono ?_
              rintro e V101 ⟨rfl, Hc, hb⟩
              obtain ⟨bc, hq⟩ : ∃ q, q = W1.heap.size := ⟨_, rfl⟩
              rw [← hq] at Hc ⊢
              have kcs : bs < bc := by rw [hq]; exact Hs.out.lt
              have kcr : br < bc := by rw [hq]; exact Hr.out.lt
              have kcw : w.heap.size ≤ bc := by rw [hq]; exact HB.out.size
              clear hq AX
              replace Hs : Hid (Sx V101 bs ky h m) := Hs.out.later hb
              replace Hr : Hid (Cx V101 br ky h m) := Hr.out.later hb
              replace HB : Hid (Below w.heap.size w V101) := HB.out.trans (hb.mono HB.out.size)
              clear hb
              go_wp2_with fail
              refine (key9_c bc ky h m _ Hc.out).mono ?_
              rintro e V102 ⟨rfl, hb⟩
              replace Hs : Hid (Sx V102 bs ky h m) := Hs.out.later hb
              replace Hr : Hid (Cx V102 br ky h m) := Hr.out.later hb
              replace Hc : Hid (Sx V102 bc ky h m) := Hc.out.later hb
              replace HB : Hid (Below w.heap.size w V102) := HB.out.trans (hb.mono HB.out.size)
              clear hb
              go_wp2_with fail
              refine (key9_c bs ky h m _ Hs.out).mono ?_
              rintro e V103 ⟨rfl, hb⟩
              replace Hs : Hid (Sx V103 bs ky h m) := Hs.out.later hb
              replace Hr : Hid (Cx V103 br ky h m) := Hr.out.later hb
              replace Hc : Hid (Sx V103 bc ky h m) := Hc.out.later hb
              replace HB : Hid (Below w.heap.size w V103) := HB.out.trans (hb.mono HB.out.size)
              clear hb
              have hne : ∀ u, Sem.run Tryd.prog (binOp .neq 27 (.agg (List.map (Value.int .u8) ky).toArray) (.agg (List.map (Value.int .u8) ky).toArray)) u = .ok (.bool false) u := fun u => neq32 ky ky Hs.out.bk rfl u
              go_wp2_with fail
              refine (nonce9_c bc ky h m _ Hc.out).mono ?_
              rintro e V104 ⟨rfl, hw⟩
              rw [hw]
              clear hw V104
              go_wp2_with fail
              refine (nonce9_c bs ky h m _ Hs.out).mono ?_
              rintro e V105 ⟨rfl, hw⟩
              rw [hw]
              clear hw V105
              go_wp2_with fail
              refine (has9_c bc ky h m _ Hc.out).mono ?_
              rintro e V106 ⟨rfl, hw⟩
              rw [hw]
              clear hw V106
              go_wp2_with fail
              refine (has9_c bs ky h m _ Hs.out).mono ?_
              rintro e V107 ⟨rfl, hw⟩
              rw [hw]
              clear hw V107
              go_wp2_with fail
              refine (secret_l 1 _).mono ?_
              rintro e V108 ⟨k1, rfl, -, HK, hb⟩
              replace Hs : Hid (Sx V108 bs ky h m) := Hs.out.later hb
              replace Hr : Hid (Cx V108 br ky h m) := Hr.out.later hb
              replace Hc : Hid (Sx V108 bc ky h m) := Hc.out.later hb
              replace HB : Hid (Below w.heap.size w V108) := HB.out.trans (hb.mono HB.out.size)
              clear hb
              go_wp2_with fail
              refine (init9_c bc ky h m k1 HK.out _ Hc.out).mono ?_
              rintro e V109 ⟨rfl, HS', hb⟩
              replace Hc := HS'
              clear HS'
              replace Hs : Hid (Sx V109 bs ky h m) := Hs.out.extb hb (by omega)
              replace Hr : Hid (Cx V109 br ky h m) := Hr.out.extb hb (by omega)
              replace HB : Hid (Below w.heap.size w V109) := hb.below HB.out (by omega)
              clear hb
              go_wp2_with fail
              refine (setn9_c bc k1 true 0 77 (by decide) _ Hc.out).mono ?_
              rintro e V110 ⟨rfl, HS', hb⟩
              replace Hc := HS'
              clear HS'
              replace Hs : Hid (Sx V110 bs ky h m) := Hs.out.extb hb (by omega)
              replace Hr : Hid (Cx V110 br ky h m) := Hr.out.extb hb (by omega)
              replace HB : Hid (Below w.heap.size w V110) := hb.below HB.out (by omega)
              clear hb
              clear Hc
              go_wp2_with fail
              go_meet
              case rel => exact ⟨ky, h, m, rfl, Hs, Hr, HB⟩
        case rest =>
          as_aux_lemma =>
            obtain ⟨ky', h', m', rfl, Hs', Hr', HB'⟩ := hcut
            clear Hs Hr HB AX
            obtain ⟨U, hU⟩ : ∃ U, U = wc := ⟨_, rfl⟩
            have Hs : Hid (Sx U bs ky' h' m') := by rw [hU]; exact Hs'
            have Hr : Hid (Cx U br ky' h' m') := by rw [hU]; exact Hr'
            have HB : Hid (Below w.heap.size w U) := by rw [hU]; exact HB'
            rw [← hU]
            clear Hs' Hr' HB' hU
            go_upto_region 41 with fail
            refine wp_region_noPanic ?_
            refine wp_region_held_drew (S := Ext U) (by kernel_rfl) (Ext.refl _).drew (fun hH => ?_)
            change wpAnyH _ _ _ _ _ _ #[false, false, false, false, false, false, false, false, false, false, false, false, false, false, false, false, false, false, false, false, false, false, false, false, false, false, false, false, false] _ _
            obtain ⟨ch, -⟩ := Hr.out.has
            obtain ⟨cn, -⟩ := Hr.out.nonce
            obtain ⟨_, _, hiK⟩ := bn32_cells Hr.out.bk
            have hxn : ∀ u, Ext U u → u.cell? ⟨br, 33, none⟩ = some (.int .u64 m') := fun u hu => hu.cell cn
            have hxh : ∀ u, Ext U u → u.cell? ⟨br, 0, none⟩ = some (.bool h') := fun u hu => hu.cell ch
            clear cn ch
            refine wpAnyH_take (i := 0) (oi := ?o0f) (v := ?v0f) ?h0f (by kernel_rfl) ?f0f ?r0f (fun _ _ _ h => h) (Or.inl ⟨?w0f, ?y0f⟩) (by assumption) ?t0f
            case h0f => simp only [List.getElem?_toArray]; rfl
            case f0f => kernel_rfl
            case r0f => kernel_rfl
            case w0f => rfl
            case y0f => (intro u hu; (go_simp) <;> with_reducible rfl)
            try simp only [Act.put, List.setIfInBounds_toArray, List.set_cons_zero, List.set_cons_succ]
            refine wpAnyH_take (i := 1) (oi := ?o1f) (v := ?v1f) ?h1f (by kernel_rfl) ?f1f ?r1f (fun _ _ _ h => h) (Or.inl ⟨?w1f, ?y1f⟩) (by assumption) ?t1f
            case h1f => simp only [List.getElem?_toArray]; rfl
            case f1f => kernel_rfl
            case r1f => kernel_rfl
            case w1f => rfl
            case y1f => (intro u hu; (go_simp) <;> with_reducible rfl)
            try simp only [Act.put, List.setIfInBounds_toArray, List.set_cons_zero, List.set_cons_succ]
            refine wpAnyH_take (i := 2) (oi := ?o2f) (v := ?v2f) ?h2f (by kernel_rfl) ?f2f ?r2f (fun _ _ _ h => h) (Or.inl ⟨?w2f, ?y2f⟩) (by assumption) ?t2f
            case h2f => simp only [List.getElem?_toArray]; rfl
            case f2f => kernel_rfl
            case r2f => kernel_rfl
            case w2f => rfl
            case y2f => (intro u hu; (go_simp) <;> with_reducible rfl)
            try simp only [Act.put, List.setIfInBounds_toArray, List.set_cons_zero, List.set_cons_succ]
            refine wpAnyH_take (i := 3) (oi := ?o3f) (v := ?v3f) ?h3f (by kernel_rfl) ?f3f ?r3f (fun _ _ _ h => h) (Or.inl ⟨?w3f, ?y3f⟩) (by assumption) ?t3f
            case h3f => simp only [List.getElem?_toArray]; rfl
            case f3f => kernel_rfl
            case r3f => kernel_rfl
            case w3f => rfl
            case y3f => (intro u hu; (go_simp) <;> with_reducible rfl)
            try simp only [Act.put, List.setIfInBounds_toArray, List.set_cons_zero, List.set_cons_succ]
            refine wpAnyH_take (i := 5) (oi := ?o5f) (v := ?v5f) ?h5f (by kernel_rfl) ?f5f ?r5f (fun _ _ _ h => h) (Or.inl ⟨?w5f, ?y5f⟩) (by assumption) ?t5f
            case h5f => simp only [List.getElem?_toArray]; rfl
            case f5f => kernel_rfl
            case r5f => kernel_rfl
            case w5f => rfl
            case y5f => (intro u hu; (go_simp) <;> with_reducible rfl)
            try simp only [Act.put, List.setIfInBounds_toArray, List.set_cons_zero, List.set_cons_succ]
            refine wpAnyH_take (i := 6) (oi := ?o6f) (v := ?v6f) ?h6f (by kernel_rfl) ?f6f ?r6f (fun _ _ _ h => h) (Or.inl ⟨?w6f, ?y6f⟩) (by assumption) ?t6f
            case h6f => simp only [List.getElem?_toArray]; rfl
            case f6f => kernel_rfl
            case r6f => kernel_rfl
            case w6f => rfl
            case y6f => (intro u hu; (go_simp) <;> with_reducible rfl)
            try simp only [Act.put, List.setIfInBounds_toArray, List.set_cons_zero, List.set_cons_succ]
            refine wpAnyH_take (i := 7) (oi := ?o7f) (v := ?v7f) ?h7f (by kernel_rfl) ?f7f ?r7f (fun _ _ _ h => h) (Or.inl ⟨?w7f, ?y7f⟩) (by assumption) ?t7f
            case h7f => simp only [List.getElem?_toArray]; rfl
            case f7f => kernel_rfl
            case r7f => kernel_rfl
            case w7f => rfl
            case y7f => (intro u hu; (go_simp) <;> with_reducible rfl)
            try simp only [Act.put, List.setIfInBounds_toArray, List.set_cons_zero, List.set_cons_succ]
            refine wpAnyH_take (i := 8) (oi := ?o8f) (v := ?v8f) ?h8f (by kernel_rfl) ?f8f ?r8f (fun _ _ _ h => h) (Or.inl ⟨?w8f, ?y8f⟩) (by assumption) ?t8f
            case h8f => simp only [List.getElem?_toArray]; rfl
            case f8f => kernel_rfl
            case r8f => kernel_rfl
            case w8f => rfl
            case y8f => (intro u hu; (have hx := hxn u hu; go_simp) <;> with_reducible rfl)
            try simp only [Act.put, List.setIfInBounds_toArray, List.set_cons_zero, List.set_cons_succ]
            refine wpAnyH_ready (rs := [4]) (by kernel_rfl) (by simp) ?_
            refine AllReadyH.cons (o := ?o4f) ?h4f (fun K hK => ?_) AllReadyH.nil
            case h4f => simp only [List.getElem?_toArray]; rfl
            go_simp
            refine (nonce9_c bs ky' h' m' _ (Hs.out.later hH)).mono ?_
            rintro e V60 ⟨rfl, hw⟩
            rw [hw]
            clear hw V60
            refine hK.out _ _ hH (fun hH' => ?_)
            clear hK K hH
            have hH := hH'
            clear hH'
            try simp only [List.setIfInBounds_toArray, List.set]
            refine wpAnyH_take (i := 9) (oi := ?o9f) (v := ?v9f) ?h9f (by kernel_rfl) ?f9f ?r9f (fun _ _ _ h => h) (Or.inl ⟨?w9f, ?y9f⟩) (by assumption) ?t9f
            case h9f => simp only [List.getElem?_toArray]; rfl
            case f9f => kernel_rfl
            case r9f => kernel_rfl
            case w9f => rfl
            case y9f => (intro u hu; (go_simp) <;> with_reducible rfl)
            try simp only [Act.put, List.setIfInBounds_toArray, List.set_cons_zero, List.set_cons_succ]
            refine wpAnyH_take (i := 10) (oi := ?o10f) (v := ?v10f) ?h10f (by kernel_rfl) ?f10f ?r10f (fun _ _ _ h => h) (Or.inl ⟨?w10f, ?y10f⟩) (by assumption) ?t10f
            case h10f => simp only [List.getElem?_toArray]; rfl
            case f10f => kernel_rfl
            case r10f => kernel_rfl
            case w10f => rfl
            case y10f => (intro u hu; (go_simp) <;> with_reducible rfl)
            try simp only [Act.put, List.setIfInBounds_toArray, List.set_cons_zero, List.set_cons_succ]
            refine wpAnyH_take (i := 11) (oi := ?o11f) (v := ?v11f) ?h11f (by kernel_rfl) ?f11f ?r11f (fun _ _ _ h => h) (Or.inl ⟨?w11f, ?y11f⟩) (by assumption) ?t11f
            case h11f => simp only [List.getElem?_toArray]; rfl
            case f11f => kernel_rfl
            case r11f => kernel_rfl
            case w11f => rfl
            case y11f => (intro u hu; (go_simp) <;> with_reducible rfl)
            try simp only [Act.put, List.setIfInBounds_toArray, List.set_cons_zero, List.set_cons_succ]
            refine wpAnyH_take (i := 12) (oi := ?o12f) (v := ?v12f) ?h12f (by kernel_rfl) ?f12f ?r12f (fun _ _ _ h => h) (Or.inl ⟨?w12f, ?y12f⟩) (by assumption) ?t12f
            case h12f => simp only [List.getElem?_toArray]; rfl
            case f12f => kernel_rfl
            case r12f => kernel_rfl
            case w12f => rfl
            case y12f => (intro u hu; (go_simp) <;> with_reducible rfl)
            try simp only [Act.put, List.setIfInBounds_toArray, List.set_cons_zero, List.set_cons_succ]
            refine wpAnyH_take (i := 14) (oi := ?o14f) (v := ?v14f) ?h14f (by kernel_rfl) ?f14f ?r14f (fun _ _ _ h => h) (Or.inl ⟨?w14f, ?y14f⟩) (by assumption) ?t14f
            case h14f => simp only [List.getElem?_toArray]; rfl
            case f14f => kernel_rfl
            case r14f => kernel_rfl
            case w14f => rfl
            case y14f => (intro u hu; (go_simp) <;> with_reducible rfl)
            try simp only [Act.put, List.setIfInBounds_toArray, List.set_cons_zero, List.set_cons_succ]
            refine wpAnyH_take (i := 15) (oi := ?o15f) (v := ?v15f) ?h15f (by kernel_rfl) ?f15f ?r15f (fun _ _ _ h => h) (Or.inl ⟨?w15f, ?y15f⟩) (by assumption) ?t15f
            case h15f => simp only [List.getElem?_toArray]; rfl
            case f15f => kernel_rfl
            case r15f => kernel_rfl
            case w15f => rfl
            case y15f => (intro u hu; (go_simp) <;> with_reducible rfl)
            try simp only [Act.put, List.setIfInBounds_toArray, List.set_cons_zero, List.set_cons_succ]
            refine wpAnyH_take (i := 16) (oi := ?o16f) (v := ?v16f) ?h16f (by kernel_rfl) ?f16f ?r16f (fun _ _ _ h => h) (Or.inl ⟨?w16f, ?y16f⟩) (by assumption) ?t16f
            case h16f => simp only [List.getElem?_toArray]; rfl
            case f16f => kernel_rfl
            case r16f => kernel_rfl
            case w16f => rfl
            case y16f => (intro u hu; (go_simp) <;> with_reducible rfl)
            try simp only [Act.put, List.setIfInBounds_toArray, List.set_cons_zero, List.set_cons_succ]
            refine wpAnyH_take (i := 17) (oi := ?o17f) (v := ?v17f) ?h17f (by kernel_rfl) ?f17f ?r17f (fun _ _ _ h => h) (Or.inl ⟨?w17f, ?y17f⟩) (by assumption) ?t17f
            case h17f => simp only [List.getElem?_toArray]; rfl
            case f17f => kernel_rfl
            case r17f => kernel_rfl
            case w17f => rfl
            case y17f => (intro u hu; (have hx := hxh u hu; go_simp) <;> with_reducible rfl)
            try simp only [Act.put, List.setIfInBounds_toArray, List.set_cons_zero, List.set_cons_succ]
            refine wpAnyH_ready (rs := [13]) (by kernel_rfl) (by simp) ?_
            refine AllReadyH.cons (o := ?o13f) ?h13f (fun K hK => ?_) AllReadyH.nil
            case h13f => simp only [List.getElem?_toArray]; rfl
            go_simp
            refine (has9_c bs ky' h' m' _ (Hs.out.later hH)).mono ?_
            rintro e V61 ⟨rfl, hw⟩
            rw [hw]
            clear hw V61
            refine hK.out _ _ hH (fun hH' => ?_)
            clear hK K hH
            have hH := hH'
            clear hH'
            try simp only [List.setIfInBounds_toArray, List.set]
            refine wpAnyH_take (i := 18) (oi := ?o18f) (v := ?v18f) ?h18f (by kernel_rfl) ?f18f ?r18f (fun _ _ _ h => h) (Or.inl ⟨?w18f, ?y18f⟩) (by assumption) ?t18f
            case h18f => simp only [List.getElem?_toArray]; rfl
            case f18f => kernel_rfl
            case r18f => kernel_rfl
            case w18f => rfl
            case y18f => (intro u hu; (go_simp) <;> with_reducible rfl)
            try simp only [Act.put, List.setIfInBounds_toArray, List.set_cons_zero, List.set_cons_succ]
            refine wpAnyH_take (i := 19) (oi := ?o19f) (v := ?v19f) ?h19f (by kernel_rfl) ?f19f ?r19f (fun _ _ _ h => h) (Or.inl ⟨?w19f, ?y19f⟩) (by assumption) ?t19f
            case h19f => simp only [List.getElem?_toArray]; rfl
            case f19f => kernel_rfl
            case r19f => kernel_rfl
            case w19f => rfl
            case y19f => (intro u hu; (go_simp) <;> with_reducible rfl)
            try simp only [Act.put, List.setIfInBounds_toArray, List.set_cons_zero, List.set_cons_succ]
            refine wpAnyH_take (i := 20) (oi := ?o20f) (v := ?v20f) ?h20f (by kernel_rfl) ?f20f ?r20f (fun _ _ _ h => h) (Or.inl ⟨?w20f, ?y20f⟩) (by assumption) ?t20f
            case h20f => simp only [List.getElem?_toArray]; rfl
            case f20f => kernel_rfl
            case r20f => kernel_rfl
            case w20f => rfl
            case y20f => (intro u hu; (go_simp) <;> with_reducible rfl)
            try simp only [Act.put, List.setIfInBounds_toArray, List.set_cons_zero, List.set_cons_succ]
            refine wpAnyH_take (i := 21) (oi := ?o21f) (v := ?v21f) ?h21f (by kernel_rfl) ?f21f ?r21f (fun _ _ _ h => h) (Or.inl ⟨?w21f, ?y21f⟩) (by assumption) ?t21f
            case h21f => simp only [List.getElem?_toArray]; rfl
            case f21f => kernel_rfl
            case r21f => kernel_rfl
            case w21f => rfl
            case y21f => (intro u hu; (go_simp) <;> with_reducible rfl)
            try simp only [Act.put, List.setIfInBounds_toArray, List.set_cons_zero, List.set_cons_succ]
            refine wpAnyH_take (i := 23) (oi := ?o23f) (v := ?v23f) ?h23f (by kernel_rfl) ?f23f ?r23f (fun _ _ _ h => h) (Or.inl ⟨?w23f, ?y23f⟩) (by assumption) ?t23f
            case h23f => simp only [List.getElem?_toArray]; rfl
            case f23f => kernel_rfl
            case r23f => kernel_rfl
            case w23f => rfl
            case y23f => (intro u hu; (go_simp) <;> with_reducible rfl)
            try simp only [Act.put, List.setIfInBounds_toArray, List.set_cons_zero, List.set_cons_succ]
            refine wpAnyH_take (i := 24) (oi := ?o24f) (v := ?v24f) ?h24f (by kernel_rfl) ?f24f ?r24f (fun _ _ _ h => h) (Or.inl ⟨?w24f, ?y24f⟩) (by assumption) ?t24f
            case h24f => simp only [List.getElem?_toArray]; rfl
            case f24f => kernel_rfl
            case r24f => kernel_rfl
            case w24f => rfl
            case y24f => (intro u hu; (go_simp) <;> with_reducible rfl)
            try simp only [Act.put, List.setIfInBounds_toArray, List.set_cons_zero, List.set_cons_succ]
            refine wpAnyH_take (i := 25) (oi := ?o25f) (v := ?v25f) ?h25f (by kernel_rfl) ?f25f ?r25f (fun _ _ _ h => h) (Or.inl ⟨?w25f, ?y25f⟩) (by assumption) ?t25f
            case h25f => simp only [List.getElem?_toArray]; rfl
            case f25f => kernel_rfl
            case r25f => kernel_rfl
            case w25f => rfl
            case y25f => (intro u hu; (go_simp) <;> with_reducible rfl)
            try simp only [Act.put, List.setIfInBounds_toArray, List.set_cons_zero, List.set_cons_succ]
            refine wpAnyH_take (i := 26) (oi := ?o26f) (v := .agg (List.map (Value.int .u8) ky').toArray) ?h26f (by kernel_rfl) ?f26f ?r26f (fun _ _ _ h => h) ?y26f (by assumption) ?t26f
            case h26f => simp only [List.getElem?_toArray]; rfl
            case f26f => kernel_rfl
            case r26f => kernel_rfl
            case y26f => exact yieldsIf_load_mid (by rfl) 27 (.tmp 212) rfl br 1 rfl (List.map (Value.int .u8) ky') _ (fun u hu => range_later hu Hr.out.key) Tryd.underlying27 rfl hiK
            try simp only [Act.put, List.setIfInBounds_toArray, List.set_cons_zero, List.set_cons_succ]
            refine wpAnyH_ready (rs := [22]) (by kernel_rfl) (by simp) ?_
            refine AllReadyH.cons (o := ?o22f) ?h22f (fun K hK => ?_) AllReadyH.nil
            case h22f => simp only [List.getElem?_toArray]; rfl
            go_simp
            refine (key9_c bs ky' h' m' _ (Hs.out.later hH)).mono ?_
            rintro e V62 ⟨rfl, hb⟩
            refine hK.out _ _ (hH.trans hb) (fun hH' => ?_)
            clear hK K hH
            have hH := hH'
            clear hH'
            try simp only [List.setIfInBounds_toArray, List.set]
            clear hb
            have hne : ∀ u, Sem.run Tryd.prog (binOp .neq 27 (.agg (List.map (Value.int .u8) ky').toArray) (.agg (List.map (Value.int .u8) ky').toArray)) u = .ok (.bool false) u := fun u => neq32 ky' ky' Hs.out.bk rfl u
            refine wpAnyH_take (i := 27) (oi := ?o27f) (v := ?v27f) ?h27f (by kernel_rfl) ?f27f ?r27f (fun _ _ _ h => h) (Or.inl ⟨?w27f, ?y27f⟩) (by assumption) ?t27f
            case h27f => simp only [List.getElem?_toArray]; rfl
            case f27f => kernel_rfl
            case r27f => kernel_rfl
            case w27f => rfl
            case y27f => (intro u hu; (go_simp) <;> with_reducible rfl)
            try simp only [Act.put, List.setIfInBounds_toArray, List.set_cons_zero, List.set_cons_succ]
            refine wpAnyH_take (i := 28) (oi := ?o28f) (v := ?v28f) ?h28f (by kernel_rfl) ?f28f ?r28f (fun _ _ _ h => h) (Or.inl ⟨?w28f, ?y28f⟩) (by assumption) ?t28f
            case h28f => simp only [List.getElem?_toArray]; rfl
            case f28f => kernel_rfl
            case r28f => kernel_rfl
            case w28f => rfl
            case y28f => (intro u hu; (go_simp) <;> with_reducible rfl)
            try simp only [Act.put, List.setIfInBounds_toArray, List.set_cons_zero, List.set_cons_succ]
            refine wpAnyH_done (by kernel_rfl) ?_ _
            refine NoPanic.normal ?_
            have hb2 : Below U.heap.size U _ := hH
            replace Hs := Hs.out.later hb2
            replace Hr := Hr.out.later hb2
            replace HB : Hid (Below w.heap.size w _) := HB.out.trans (hb2.mono HB.out.size)
            clear hb2 hH hxn hxh hne hiK
            go_wp2
            go_roundw
            case rel => exact ⟨k + 1, ky', h', m', by go_num, by omega, Hs, Hr, HB⟩
            case measure => simp [intOf]; omega
      · have q2 : ¬ (k : Int) < 25 := by omega
        go_wp2
        go_ret
        exact ⟨rfl, HB.out⟩
    · have q1 : ¬ (k : Int) < lT := by omega
      go_wp2
      go_ret
      exact ⟨rfl, HB.out⟩
end Go.Proofs.YtjmdgmbkkkoamaaDoor
