/-
  What the reference's reduced does. No statement of the seat is proved here.
-/
import Derived.Test.YtjmdgmbkkkoamaaDoorPRPlus
import Derived.Test.YtjmdgmbkkkoamaaDoorPRTim
import Derived.Test.YtjmdgmbkkkoamaaDoorPRHigh
import Derived.Test.YtjmdgmbkkkoamaaDoorPk31
import Derived.Deep.LoopGhost
namespace Go.Proofs.YtjmdgmbkkkoamaaDoor
open Go.RowKit

set_option maxRecDepth 8000 in
theorem ru_five (w : World) (t : TypeId) : Ru (w.alloc (.cells #[.int .u32 5] t)) (some ⟨w.heap.size, 0, none⟩) 1 1 [5] :=
  ⟨rfl, Nat.le_refl _, Byt.cons (by decide) (by decide) Byt.nil, fun _ => ⟨w.heap.size, 0, rfl, fun i hi => by
    have : i = 0 := by omega
    subst this
    rw [Nat.zero_add, cell_of_row _ _ _ _ _ _ (heap_alloc_new w _)]
    rfl⟩⟩
set_option maxRecDepth 8000 in
theorem red_end (v h l : Int) (h0 : 0 ≤ v) (h1 : v < 1361129467683753853853498429727072845824) (hh : h = (v + 5) / 1361129467683753853853498429727072845824) (hn : h ≠ 0) (hl : l = (v + 5) % 1361129467683753853853498429727072845824) : l = v % 1361129467683753853853498429727072845819 := by
  have hv : 1361129467683753853853498429727072845819 ≤ v := by omega
  have e1 : l = v + 5 - 1361129467683753853853498429727072845824 := by omega
  have e2 : v % 1361129467683753853853498429727072845819 = v - 1361129467683753853853498429727072845819 := by
    have := Int.sub_emod_right v 1361129467683753853853498429727072845819
    rw [← this]
    exact Int.emod_eq_of_lt (by omega) (by omega)
  rw [e1, e2]
  omega
set_option maxRecDepth 8000 in
theorem red_same (v : Int) : (v % 1361129467683753853853498429727072845824 + 5 * (v / 1361129467683753853853498429727072845824)) % 1361129467683753853853498429727072845819 = v % 1361129467683753853853498429727072845819 := by
  have e : v = v % 1361129467683753853853498429727072845824 + 5 * (v / 1361129467683753853853498429727072845824) + 1361129467683753853853498429727072845819 * (v / 1361129467683753853853498429727072845824) := by omega
  have h := Int.add_mul_emod_self_left (v % 1361129467683753853853498429727072845824 + 5 * (v / 1361129467683753853853498429727072845824)) 1361129467683753853853498429727072845819 (v / 1361129467683753853853498429727072845824)
  rw [← e] at h
  exact h.symm
set_option maxRecDepth 4000 in
set_option maxHeartbeats 8000000 in
theorem reduced_c (a : Option Addr) (len cap : Nat) (x : List Int) (w : World) (hr : Ru w a len cap x) (hm : len ≤ 8000000 - 100) :
    Calls Tryd.prog 50 #[.slice a len cap] w fun e w' => ∃ a' n' c' z, e = .returned (.slice a' n' c') ∧ n' ≤ max len 40 ∧ Hid (Ru w' a' n' c' z) ∧ Hid (leN z = leN x % 1361129467683753853853498429727072845819) ∧ Below w.heap.size w w' := by
  have HX : Hid (Ru w a len cap x) := hr
  clear hr
  obtain ⟨M, hM⟩ : ∃ M, M = max len 40 := ⟨_, rfl⟩
  have hMb : 40 ≤ M ∧ M ≤ 8000000 - 60 ∧ len ≤ M := by omega
  rw [← hM]
  clear hM
  obtain ⟨hM1, hM2, hM3⟩ := hMb
  go_enter Tryd.func50, Tryd.ntmps50
  go_wp2
  go_loopg [0] (leN x).toNat (fun k tv wr => ∃ (a : Option Addr) (n c : Nat) (z : List Int), tv = .slice a n c ∧ n ≤ M ∧ Hid (Ru wr a n c z) ∧ Hid ((leN z).toNat ≤ k) ∧ Hid (leN z % 1361129467683753853853498429727072845819 = leN x % 1361129467683753853853498429727072845819) ∧ Hid (Below w.heap.size w wr))
  case atStart => exact ⟨a, len, cap, x, rfl, hM3, HX, Nat.le_refl _, rfl, Below.refl _ _⟩
  case round =>
    obtain ⟨a, n, c, z, rfl, hn, HZ, HK, HS, HB⟩ := hrel
    have HZ0 : Hid (0 ≤ leN z) := (leN_w z HZ.out.byt).1
    go_wp2_with fail
    refine (high_c a n c z _ HZ.out (by omega)).mono ?_
    rintro e V1 ⟨v1, z1, rfl, HZB1, HN1, HO1, hb⟩
    replace HZ : Hid (Ru V1 a n c z) := HZ.out.below hb
    replace HB : Hid (Below w.heap.size w V1) := HB.out.trans (hb.mono HB.out.size)
    obtain ⟨a1, c1, rfl⟩ := owns_shape HO1.out
    have HR1 : Hid (Ru V1 a1 (n - 16) c1 z1) := Ru.owns HZB1.out HO1.out
    clear hb HO1
    go_wp2_with fail
    refine (zero_c a1 (n - 16) c1 z1 _ HR1.out (by omega)).mono ?_
    rintro e w' ⟨rfl, hw⟩
    rw [hw]
    clear hw w' HR1 HZB1
    by_cases h0 : leN z1 = 0
    · have HLt : Hid (leN z < 1361129467683753853853498429727072845824) := by have h1 := HN1.out; have h2 := HZ0.out; unfold Hid; omega
      have hdec : decide (leN z1 = 0) = true := decide_eq_true h0
      rw [hdec]
      clear hdec h0 HN1
      go_wp2_with fail
      replace HZ : Hid (Ru (V1.alloc (.cells #[.int .u32 5] 57)) a n c z) := HZ.out.below (bel1 _ _)
      replace HB : Hid (Below w.heap.size w (V1.alloc (.cells #[.int .u32 5] 57))) := HB.out.alloc HB.out.size _
      refine (plus_c a n c z (some ⟨V1.heap.size, 0, none⟩) 1 1 [5] _ HZ.out (ru_five V1 _) (by omega) (by omega)).mono ?_
      rintro e V2 ⟨v2, n2, z2, rfl, hn2, HZB2, HN2, HO2, hb⟩
      replace HZ : Hid (Ru V2 a n c z) := HZ.out.below hb
      replace HB : Hid (Below w.heap.size w V2) := HB.out.trans (hb.mono HB.out.size)
      have hn2' : n2 ≤ M + 1 := by omega
      clear hn2
      obtain ⟨a2, c2, rfl⟩ := owns_shape HO2.out
      have HR2 : Hid (Ru V2 a2 n2 c2 z2) := Ru.owns HZB2.out HO2.out
      clear hb HO2
      go_wp2_with fail
      refine (high_c a2 n2 c2 z2 _ HR2.out (by omega)).mono ?_
      rintro e V3 ⟨v3, z3, rfl, HZB3, HN3, HO3, hb⟩
      replace HZ : Hid (Ru V3 a n c z) := HZ.out.below hb
      replace HR2 : Hid (Ru V3 a2 n2 c2 z2) := HR2.out.below hb
      replace HB : Hid (Below w.heap.size w V3) := HB.out.trans (hb.mono HB.out.size)
      obtain ⟨a3, c3, rfl⟩ := owns_shape HO3.out
      have HR3 : Hid (Ru V3 a3 (n2 - 16) c3 z3) := Ru.owns HZB3.out HO3.out
      clear hb HO3
      go_wp2_with fail
      refine (zero_c a3 (n2 - 16) c3 z3 _ HR3.out (by omega)).mono ?_
      rintro e w' ⟨rfl, hw⟩
      rw [hw]
      clear hw w' HR3 HZB3
      have HN2' : Hid (leN z2 = leN z + 5) := HN2.out
      by_cases h1 : leN z3 = 0
      · have hdec : decide (leN z3 = 0) = true := decide_eq_true h1
        have HF : Hid (leN z = leN x % 1361129467683753853853498429727072845819) := by
          have q1 := HN3.out
          have q2 := HN2'.out
          have q3 := HS.out
          have q4 := HZ0.out
          unfold Hid
          omega
        rw [hdec]
        clear hdec h1 HN3 HN2 HN2' HZB2
        go_wp2
        go_ret
        exact ⟨a, n, c, z, rfl, hn, HZ, HF, HB.out⟩
      · have hdec : decide (leN z3 = 0) = false := decide_eq_false h1
        rw [hdec]
        go_wp2_with fail
        refine (low_c a2 n2 c2 z2 _ HR2.out (by omega)).mono ?_
        rintro e V4 ⟨v4, z4, rfl, HZB4, HN4, HO4, hb⟩
        replace HB : Hid (Below w.heap.size w V4) := HB.out.trans (hb.mono HB.out.size)
        obtain ⟨a4, c4, rfl⟩ := owns_shape HO4.out
        have HR4 : Hid (Ru V4 a4 (min 17 n2) c4 z4) := Ru.owns HZB4.out HO4.out
        clear hb HO4
        have HF : Hid (leN z4 = leN x % 1361129467683753853853498429727072845819) := by
          have q1 := HN3.out
          have q2 := HN2'.out
          have q3 := HS.out
          have q4 := HZ0.out
          have q5 := HN4.out
          have q6 := HLt.out
          have q7 : leN z3 ≠ 0 := h1
          unfold Hid
          rw [← q3]
          rw [q2] at q1 q5
          generalize leN z = v at *
          exact red_end v _ _ q4 q6 q1 q7 q5
        clear hdec h1 HN3 HN2 HN2' HN4 HZB2 HZB4
        go_wp2
        go_ret
        exact ⟨a4, min 17 n2, c4, z4, rfl, by omega, HR4, HF, HB.out⟩
    · have hdec : decide (leN z1 = 0) = false := decide_eq_false h0
      have HGe : Hid (1361129467683753853853498429727072845824 ≤ leN z) := by have h1 := HN1.out; have h2 := HZ0.out; unfold Hid; omega
      rw [hdec]
      clear hdec h0 HN1
      go_wp2_with fail
      refine (low_c a n c z _ HZ.out (by omega)).mono ?_
      rintro e V2 ⟨v2, z2, rfl, HZB2, HN2, HO2, hb⟩
      replace HZ : Hid (Ru V2 a n c z) := HZ.out.below hb
      replace HB : Hid (Below w.heap.size w V2) := HB.out.trans (hb.mono HB.out.size)
      obtain ⟨a2, c2, rfl⟩ := owns_shape HO2.out
      have HR2 : Hid (Ru V2 a2 (min 17 n) c2 z2) := Ru.owns HZB2.out HO2.out
      clear hb HO2
      go_wp2_with fail
      replace HZ : Hid (Ru (V2.alloc (.cells #[.int .u32 5] 57)) a n c z) := HZ.out.below (bel1 _ _)
      replace HR2 : Hid (Ru (V2.alloc (.cells #[.int .u32 5] 57)) a2 (min 17 n) c2 z2) := HR2.out.below (bel1 _ _)
      replace HB : Hid (Below w.heap.size w (V2.alloc (.cells #[.int .u32 5] 57))) := HB.out.alloc HB.out.size _
      have HR5 : Hid (Ru (V2.alloc (.cells #[.int .u32 5] 57)) (some ⟨V2.heap.size, 0, none⟩) 1 1 [5]) := ru_five V2 _
      generalize V2.alloc (.cells #[.int .u32 5] 57) = Y2 at *
      generalize V2.heap.size = b5 at *
      refine (high_c a n c z _ HZ.out (by omega)).mono ?_
      rintro e V3 ⟨v3, z3, rfl, HZB3, HN3, HO3, hb⟩
      replace HR2 : Hid (Ru V3 a2 (min 17 n) c2 z2) := HR2.out.below hb
      replace HR5 : Hid (Ru V3 (some ⟨b5, 0, none⟩) 1 1 [5]) := HR5.out.below hb
      replace HB : Hid (Below w.heap.size w V3) := HB.out.trans (hb.mono HB.out.size)
      obtain ⟨a3, c3, rfl⟩ := owns_shape HO3.out
      have HR3 : Hid (Ru V3 a3 (n - 16) c3 z3) := Ru.owns HZB3.out HO3.out
      clear hb HO3
      go_wp2_with fail
      refine (times_c (some ⟨b5, 0, none⟩) 1 1 [5] a3 (n - 16) c3 z3 _ HR5.out HR3.out (by omega) (by omega)).mono ?_
      rintro e V4 ⟨v4, z4, rfl, HZB4, HN4, HO4, hb⟩
      replace HR2 : Hid (Ru V4 a2 (min 17 n) c2 z2) := HR2.out.below hb
      replace HB : Hid (Below w.heap.size w V4) := HB.out.trans (hb.mono HB.out.size)
      obtain ⟨a4, c4, rfl⟩ := owns_shape HO4.out
      have HR4 : Hid (Ru V4 a4 (1 + (n - 16) + 1) c4 z4) := Ru.owns HZB4.out HO4.out
      clear hb HO4
      go_wp2_with fail
      refine (plus_c a2 (min 17 n) c2 z2 a4 (1 + (n - 16) + 1) c4 z4 _ HR2.out HR4.out (by omega) (by omega)).mono ?_
      rintro e V5 ⟨v5, n5, z5, rfl, hn5, HZB5, HN5, HO5, hb⟩
      replace HB : Hid (Below w.heap.size w V5) := HB.out.trans (hb.mono HB.out.size)
      obtain ⟨a5, c5, rfl⟩ := owns_shape HO5.out
      have HR5 : Hid (Ru V5 a5 n5 c5 z5) := Ru.owns HZB5.out HO5.out
      clear hb HO5
      have HV5 : Hid (leN z5 = leN z % 1361129467683753853853498429727072845824 + 5 * (leN z / 1361129467683753853853498429727072845824)) := by
        have q1 := HN5.out
        have q2 := HN4.out
        rw [HN3.out] at q2
        have q3 : leN [5] = 5 := rfl
        rw [q3] at q2
        unfold Hid
        rw [q1, q2, HN2.out]
      have HS5 : Hid (leN z5 % 1361129467683753853853498429727072845819 = leN x % 1361129467683753853853498429727072845819) := by unfold Hid; rw [HV5.out, red_same]; exact HS.out
      have HK5 : Hid ((leN z5).toNat < gk) := by
        have q1 := HV5.out
        have q2 := HGe.out
        have q3 := HK.out
        unfold Hid
        omega
      have hn5' : n5 ≤ M := by omega
      clear HV5 HS HK HN2 HN3 HN4 HN5 HZB2 HZB3 HZB4 HZB5 HGe hn5
      go_wp2
      go_roundg (leN z5).toNat
      case rel => exact ⟨a5, n5, c5, z5, rfl, hn5', HR5, Nat.le_refl _, HS5, HB⟩
      case measure => exact HK5.out
end Go.Proofs.YtjmdgmbkkkoamaaDoor
