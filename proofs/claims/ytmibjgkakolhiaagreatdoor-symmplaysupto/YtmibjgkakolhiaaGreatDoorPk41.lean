/-
  Several texts of one's own, laid together. No statement of the seat is proved here.
-/
import Derived.Test.YtmibjgkakolhiaaGreatDoorPk1
import Derived.Test.YtmibjgkakolhiaaGreatDoorPk39
import Derived.Test.YtmibjgkakolhiaaGreatDoorPk40
import Derived.Deep.LoopGhost
import Derived.Test.YtmibjgkakolhiaaGreatDoorPk38
import Derived.Test.YtmibjgkakolhiaaGreatDoorPk26
/-
 What the reference's reduced does. No statement of the seat is proved here.
-/
namespace Go.Proofs.YtmibjgkakolhiaaGreatDoor
open Go.RowKit

set_option maxRecDepth 8000 in
theorem ru_five (w : World) (t : TypeId) : Ru (w.alloc (.cells #[.int .u32 5] t)) (some ⟨w.heap.size, 0, none⟩) 1 1 [5] :=
 ⟨rfl, Nat.le_refl _, Byt.cons (by decide) (by decide) Byt.nil, fun _ => ⟨w.heap.size, 0, rfl, fun i hi => by
  have : i = 0 := by omega
  subst this
  rw [Nat.zero_add, cell_of_row _ _ _ _ _ _ (heap_alloc_new w _)]
  rfl⟩⟩
set_option maxRecDepth 8000 in
theorem red_end (v h l : Int) (h0 : 0 ≤ v) (h1 : v < 1361129467683753853853498429727072845824) (hh : h = (v + 5) / 1361129467683753853853498429727072845824) (hn : h ≠ 0) (hl : l = (v + 5) % 1361129467683753853853498429727072845824) : l = v % 1361129467683753853853498429727072845819 := by
 have hv : 1361129467683753853853498429727072845819 ≤ v := by omega
 have e1 : l = v + 5 - 1361129467683753853853498429727072845824 := by omega
 have e2 : v % 1361129467683753853853498429727072845819 = v - 1361129467683753853853498429727072845819 := by
  have := Int.sub_emod_right v 1361129467683753853853498429727072845819
  rw [← this]
  exact Int.emod_eq_of_lt (by omega) (by omega)
 rw [e1, e2]
 omega
set_option maxRecDepth 8000 in
theorem red_same (v : Int) : (v % 1361129467683753853853498429727072845824 + 5 * (v / 1361129467683753853853498429727072845824)) % 1361129467683753853853498429727072845819 = v % 1361129467683753853853498429727072845819 := by
 have e : v = v % 1361129467683753853853498429727072845824 + 5 * (v / 1361129467683753853853498429727072845824) + 1361129467683753853853498429727072845819 * (v / 1361129467683753853853498429727072845824) := by omega
 have h := Int.add_mul_emod_self_left (v % 1361129467683753853853498429727072845824 + 5 * (v / 1361129467683753853853498429727072845824)) 1361129467683753853853498429727072845819 (v / 1361129467683753853853498429727072845824)
 rw [← e] at h
 exact h.symm
set_option maxRecDepth 4000 in
set_option maxHeartbeats 8000000 in
theorem reduced_c (a : Option Addr) (len cap : Nat) (x : List Int) (w : World) (hr : Ru w a len cap x) (hm : len ≤ 8000000 - 100) :
  Calls Tryz.prog 82 #[.slice a len cap] w fun e w' => ∃ a' n' c' z, e = .returned (.slice a' n' c') ∧ n' ≤ max len 40 ∧ Hid (Ru w' a' n' c' z) ∧ Hid (leN z = leN x % 1361129467683753853853498429727072845819) ∧ Below w.heap.size w w' := by
 have HX : Hid (Ru w a len cap x) := hr
 clear hr
 obtain ⟨M, hM⟩ : ∃ M, M = max len 40 := ⟨_, rfl⟩
 have hMb : 40 ≤ M ∧ M ≤ 8000000 - 60 ∧ len ≤ M := by omega
 rw [← hM]
 clear hM
 obtain ⟨hM1, hM2, hM3⟩ := hMb
 go_enter Tryz.func82, Tryz.ntmps82
 go_wp2
 go_loopg [0] (leN x).toNat (fun k tv wr => ∃ (a : Option Addr) (n c : Nat) (z : List Int), tv = .slice a n c ∧ n ≤ M ∧ Hid (Ru wr a n c z) ∧ Hid ((leN z).toNat ≤ k) ∧ Hid (leN z % 1361129467683753853853498429727072845819 = leN x % 1361129467683753853853498429727072845819) ∧ Hid (Below w.heap.size w wr))
 case atStart => exact ⟨a, len, cap, x, rfl, hM3, HX, Nat.le_refl _, rfl, Below.refl _ _⟩
 case round =>
  obtain ⟨a, n, c, z, rfl, hn, HZ, HK, HS, HB⟩ := hrel
  have HZ0 : Hid (0 ≤ leN z) := (leN_w z HZ.out.byt).1
  go_wp2_with fail
  refine (high_c a n c z _ HZ.out (by omega)).mono ?_
  rintro e V1 ⟨v1, z1, rfl, HZB1, HN1, HO1, hb⟩
  replace HZ := hidp (HZ.out.below hb)
  replace HB := hidp (HB.out.trans (hb.mono HB.out.size))
  obtain ⟨a1, c1, rfl⟩ := owns_shape HO1.out
  have HR1 : Hid (Ru V1 a1 (n - 16) c1 z1) := Ru.owns HZB1.out HO1.out
  clear hb HO1
  go_wp2_with fail
  refine (zero_c a1 (n - 16) c1 z1 _ HR1.out (by omega)).mono ?_
  rintro e w' ⟨rfl, hw⟩
  rw [hw]
  clear hw w' HR1 HZB1
  by_cases h0 : leN z1 = 0
  ·have HLt : Hid (leN z < 1361129467683753853853498429727072845824) := by have h1 := HN1.out; have h2 := HZ0.out; unfold Hid; omega
   have hdec : decide (leN z1 = 0) = true := decide_eq_true h0
   rw [hdec]
   clear hdec h0 HN1
   go_wp2_with fail
   replace HZ : Hid (Ru (V1.alloc (.cells #[.int .u32 5] 63)) a n c z) := HZ.out.below (bel1 _ _)
   replace HB : Hid (Below w.heap.size w (V1.alloc (.cells #[.int .u32 5] 63))) := HB.out.alloc HB.out.size _
   refine (plus_c a n c z (some ⟨V1.heap.size, 0, none⟩) 1 1 [5] _ HZ.out (ru_five V1 _) (by omega) (by omega)).mono ?_
   rintro e V2 ⟨v2, n2, z2, rfl, hn2, HZB2, HN2, HO2, hb⟩
   replace HZ := hidp (HZ.out.below hb)
   replace HB := hidp (HB.out.trans (hb.mono HB.out.size))
   have hn2' : n2 ≤ M + 1 := by omega
   clear hn2
   obtain ⟨a2, c2, rfl⟩ := owns_shape HO2.out
   have HR2 : Hid (Ru V2 a2 n2 c2 z2) := Ru.owns HZB2.out HO2.out
   clear hb HO2
   go_wp2_with fail
   refine (high_c a2 n2 c2 z2 _ HR2.out (by omega)).mono ?_
   rintro e V3 ⟨v3, z3, rfl, HZB3, HN3, HO3, hb⟩
   replace HZ := hidp (HZ.out.below hb)
   replace HR2 := hidp (HR2.out.below hb)
   replace HB := hidp (HB.out.trans (hb.mono HB.out.size))
   obtain ⟨a3, c3, rfl⟩ := owns_shape HO3.out
   have HR3 : Hid (Ru V3 a3 (n2 - 16) c3 z3) := Ru.owns HZB3.out HO3.out
   clear hb HO3
   go_wp2_with fail
   refine (zero_c a3 (n2 - 16) c3 z3 _ HR3.out (by omega)).mono ?_
   rintro e w' ⟨rfl, hw⟩
   rw [hw]
   clear hw w' HR3 HZB3
   have HN2' : Hid (leN z2 = leN z + 5) := HN2.out
   by_cases h1 : leN z3 = 0
   ·have hdec : decide (leN z3 = 0) = true := decide_eq_true h1
    have HF : Hid (leN z = leN x % 1361129467683753853853498429727072845819) := by
     have q1 := HN3.out
     have q2 := HN2'.out
     have q3 := HS.out
     have q4 := HZ0.out
     unfold Hid
     omega
    rw [hdec]
    clear hdec h1 HN3 HN2 HN2' HZB2
    go_wp2
    go_ret
    exact ⟨a, n, c, z, rfl, hn, HZ, HF, HB.out⟩
   ·have hdec : decide (leN z3 = 0) = false := decide_eq_false h1
    rw [hdec]
    go_wp2_with fail
    refine (low_c a2 n2 c2 z2 _ HR2.out (by omega)).mono ?_
    rintro e V4 ⟨v4, z4, rfl, HZB4, HN4, HO4, hb⟩
    replace HB := hidp (HB.out.trans (hb.mono HB.out.size))
    obtain ⟨a4, c4, rfl⟩ := owns_shape HO4.out
    have HR4 : Hid (Ru V4 a4 (min 17 n2) c4 z4) := Ru.owns HZB4.out HO4.out
    clear hb HO4
    have HF : Hid (leN z4 = leN x % 1361129467683753853853498429727072845819) := by
     have q1 := HN3.out
     have q2 := HN2'.out
     have q3 := HS.out
     have q4 := HZ0.out
     have q5 := HN4.out
     have q6 := HLt.out
     have q7 : leN z3 ≠ 0 := h1
     unfold Hid
     rw [← q3]
     rw [q2] at q1 q5
     generalize leN z = v at *
     exact red_end v _ _ q4 q6 q1 q7 q5
    clear hdec h1 HN3 HN2 HN2' HN4 HZB2 HZB4
    go_wp2
    go_ret
    exact ⟨a4, min 17 n2, c4, z4, rfl, by omega, HR4, HF, HB.out⟩
  ·have hdec : decide (leN z1 = 0) = false := decide_eq_false h0
   have HGe : Hid (1361129467683753853853498429727072845824 ≤ leN z) := by have h1 := HN1.out; have h2 := HZ0.out; unfold Hid; omega
   rw [hdec]
   clear hdec h0 HN1
   go_wp2_with fail
   refine (low_c a n c z _ HZ.out (by omega)).mono ?_
   rintro e V2 ⟨v2, z2, rfl, HZB2, HN2, HO2, hb⟩
   replace HZ := hidp (HZ.out.below hb)
   replace HB := hidp (HB.out.trans (hb.mono HB.out.size))
   obtain ⟨a2, c2, rfl⟩ := owns_shape HO2.out
   have HR2 : Hid (Ru V2 a2 (min 17 n) c2 z2) := Ru.owns HZB2.out HO2.out
   clear hb HO2
   go_wp2_with fail
   replace HZ : Hid (Ru (V2.alloc (.cells #[.int .u32 5] 63)) a n c z) := HZ.out.below (bel1 _ _)
   replace HR2 : Hid (Ru (V2.alloc (.cells #[.int .u32 5] 63)) a2 (min 17 n) c2 z2) := HR2.out.below (bel1 _ _)
   replace HB : Hid (Below w.heap.size w (V2.alloc (.cells #[.int .u32 5] 63))) := HB.out.alloc HB.out.size _
   have HR5 : Hid (Ru (V2.alloc (.cells #[.int .u32 5] 63)) (some ⟨V2.heap.size, 0, none⟩) 1 1 [5]) := ru_five V2 _
   generalize V2.alloc (.cells #[.int .u32 5] 63) = Y2 at *
   generalize V2.heap.size = b5 at *
   refine (high_c a n c z _ HZ.out (by omega)).mono ?_
   rintro e V3 ⟨v3, z3, rfl, HZB3, HN3, HO3, hb⟩
   replace HR2 := hidp (HR2.out.below hb)
   replace HR5 := hidp (HR5.out.below hb)
   replace HB := hidp (HB.out.trans (hb.mono HB.out.size))
   obtain ⟨a3, c3, rfl⟩ := owns_shape HO3.out
   have HR3 : Hid (Ru V3 a3 (n - 16) c3 z3) := Ru.owns HZB3.out HO3.out
   clear hb HO3
   go_wp2_with fail
   refine (times_c (some ⟨b5, 0, none⟩) 1 1 [5] a3 (n - 16) c3 z3 _ HR5.out HR3.out (by omega) (by omega)).mono ?_
   rintro e V4 ⟨v4, z4, rfl, HZB4, HN4, HO4, hb⟩
   replace HR2 := hidp (HR2.out.below hb)
   replace HB := hidp (HB.out.trans (hb.mono HB.out.size))
   obtain ⟨a4, c4, rfl⟩ := owns_shape HO4.out
   have HR4 : Hid (Ru V4 a4 (1 + (n - 16) + 1) c4 z4) := Ru.owns HZB4.out HO4.out
   clear hb HO4
   go_wp2_with fail
   refine (plus_c a2 (min 17 n) c2 z2 a4 (1 + (n - 16) + 1) c4 z4 _ HR2.out HR4.out (by omega) (by omega)).mono ?_
   rintro e V5 ⟨v5, n5, z5, rfl, hn5, HZB5, HN5, HO5, hb⟩
   replace HB := hidp (HB.out.trans (hb.mono HB.out.size))
   obtain ⟨a5, c5, rfl⟩ := owns_shape HO5.out
   have HR5 : Hid (Ru V5 a5 n5 c5 z5) := Ru.owns HZB5.out HO5.out
   clear hb HO5
   have HV5 : Hid (leN z5 = leN z % 1361129467683753853853498429727072845824 + 5 * (leN z / 1361129467683753853853498429727072845824)) := by
    have q1 := HN5.out
    have q2 := HN4.out
    rw [HN3.out] at q2
    have q3 : leN [5] = 5 := rfl
    rw [q3] at q2
    unfold Hid
    rw [q1, q2, HN2.out]
   have HS5 : Hid (leN z5 % 1361129467683753853853498429727072845819 = leN x % 1361129467683753853853498429727072845819) := by unfold Hid; rw [HV5.out, red_same]; exact HS.out
   have HK5 : Hid ((leN z5).toNat < gk) := by
    have q1 := HV5.out
    have q2 := HGe.out
    have q3 := HK.out
    unfold Hid
    omega
   have hn5' : n5 ≤ M := by omega
   clear HV5 HS HK HN2 HN3 HN4 HN5 HZB2 HZB3 HZB4 HZB5 HGe hn5
   go_wp2
   go_roundg (leN z5).toNat
   case rel => exact ⟨a5, n5, c5, z5, rfl, hn5', HR5, Nat.le_refl _, HS5, HB⟩
   case measure => exact HK5.out
end Go.Proofs.YtmibjgkakolhiaaGreatDoor
/-
 What the reference's digits does. No statement of the seat is proved here.
-/
namespace Go.Proofs.YtmibjgkakolhiaaGreatDoor
open Go.RowKit

set_option maxRecDepth 8000 in
set_option maxHeartbeats 1000000 in
theorem digits_c (a : Option Addr) (len cap : Nat) (l : List Int) (w : World) (hr : Rd w a len cap l) (hm : len ≤ 8000000) :
  Calls Tryz.prog 81 #[.slice a len cap] w fun e w' => ∃ v, e = .returned v ∧ Hid (w'.ownsRow w.heap.size 63 1 v len (List.map (Value.int .u32) l)) ∧ Below w.heap.size w w' := by
 obtain ⟨i0, hi, hz0, hz1, hz2⟩ := info_parts infoU
 have HR : Hid (Rd w a len cap l) := hr
 have HL : Hid (l.length = len) := hr.hlen
 clear hr
 go_enter Tryz.func81, Tryz.ntmps81
 go_wp2
 go_loopw [4, 3] (fun i b wr => ∃ (k : Nat) (v : Value), k ≤ len ∧ i = .int .i64 k ∧ b = v ∧ Hid (wr.ownsRow w.heap.size 63 1 v k (List.map (Value.int .u32) (l.take k))) ∧ Hid (Below w.heap.size w wr)) (fun i _ _ => len - (intOf i).toNat)
 case atStart => exact ⟨0, _, Nat.zero_le _, rfl, rfl, World.ownsRow_nil _ _ _ _, Below.refl _ _⟩
 case round =>
  obtain ⟨k, v, hk, rfl, rfl, HO, HB⟩ := hrel
  by_cases hlt : k < len
  ·have g1 : (k : Int) < len := by omega
   have htn : (k : Int).toNat = k := by omega
   obtain ⟨b, off, rfl, hc⟩ := (HR.out.below HB.out).cell (by omega)
   have ck := hc k hlt
   have hb := HR.out.byt.at k
   have HNX : Hid (l.take (k + 1) = l.take k ++ [l[k]?.getD 0]) := by
    have hl : k < l.length := by rw [HL.out]; exact hlt
    unfold Hid
    rw [List.take_succ_eq_append_getElem hl, List.getElem?_eq_getElem hl]
    rfl
   clear hc
   generalize l[k]?.getD 0 = x at *
   obtain ⟨hb0, hb1⟩ := hb
   have hw : IntKind.u32.wrap x = x := by rw [IntKind.wrap_u32']; omega
   go_wp2_with (at_builtin; refine wpList_append_own _ rfl (.tmp 11) (.tmp 17) 118 rfl w.heap.size 63 i0 (.int .u32 0) 1 4 Tryz.underlying118 hi hz0 hz1 hz2 rfl (by decide) _ k (List.map (Value.int .u32) (l.take k)) rfl (HO.out.alloc _) ⟨wr.heap.size, 0, none⟩ 1 1 [.int .u32 x] rfl rfl (fun j u hu => one_news32 wr _ _ j u hu) (by intro u hu; simp at hu; rw [hu]; rfl) (by unfold maxLen; omega) (by omega) (by have := HB.out.size; simp; omega) ?_)
   intro v' w1 hown hg _
   have HO' : Hid (w1.ownsRow w.heap.size 63 1 v' (k + 1) (List.map (Value.int .u32) (l.take (k + 1)))) := by unfold Hid; rw [HNX.out, List.map_append, List.map_take]; exact hown
   have HB' : Hid (Below w.heap.size w w1) := (HB.out.alloc HB.out.size _).grown hg (by have := HB.out.size; simp; omega) (fun j hj => ((HO.out.lt j hj).1))
   clear hown hg HO HB
   go_wp2
   go_roundw
   case rel => exact ⟨k + 1, v', by omega, by go_num, rfl, HO', HB'⟩
   case measure => simp [intOf]; omega
  ·have e : k = len := by omega
   subst e
   have e2 : l.take k = l := List.take_of_length_le (by rw [HL.out]; exact Nat.le_refl _)
   rw [e2] at HO
   go_wp2
   go_ret
   exact ⟨_, rfl, HO, HB.out⟩
end Go.Proofs.YtmibjgkakolhiaaGreatDoor
/-
 The key's r as the reference has it, and as poly has it. No statement of the seat is proved here.
-/
namespace Go.Proofs.YtmibjgkakolhiaaGreatDoor
open Go.RowKit

set_option maxRecDepth 8000 in
theorem and_nat (x X m M : Nat) (hx : x < 256) (hm : m < 256) : (x + 256 * X) &&& (m + 256 * M) = (x &&& m) + 256 * (X &&& M) := by
 have hxm : x &&& m < 256 := Nat.lt_of_le_of_lt Nat.and_le_left hx
 have h1 : ((x + 256 * X) &&& (m + 256 * M)) % 2 ^ 8 = ((x &&& m) + 256 * (X &&& M)) % 2 ^ 8 := by
  rw [Nat.and_mod_two_pow]
  have e1 : (x + 256 * X) % 2 ^ 8 = x := by omega
  have e2 : (m + 256 * M) % 2 ^ 8 = m := by omega
  rw [e1, e2]
  omega
 have h2 : ((x + 256 * X) &&& (m + 256 * M)) / 2 ^ 8 = ((x &&& m) + 256 * (X &&& M)) / 2 ^ 8 := by
  rw [Nat.and_div_two_pow]
  have e1 : (x + 256 * X) / 2 ^ 8 = X := by omega
  have e2 : (m + 256 * M) / 2 ^ 8 = M := by omega
  rw [e1, e2]
  omega
 omega
set_option maxRecDepth 8000 in
theorem and_step (x X m M : Int) (hx : 0 ≤ x ∧ x ≤ 255) (hm : 0 ≤ m ∧ m ≤ 255) (hX : 0 ≤ X ∧ X < 72057594037927936) (hM : 0 ≤ M ∧ M < 72057594037927936) :
  bits .and .u64 (x + 256 * X) (m + 256 * M) = bits .and .u64 x m + 256 * bits .and .u64 X M := by
 obtain ⟨x, rfl⟩ := Int.eq_ofNat_of_zero_le hx.1
 obtain ⟨X, rfl⟩ := Int.eq_ofNat_of_zero_le hX.1
 obtain ⟨m, rfl⟩ := Int.eq_ofNat_of_zero_le hm.1
 obtain ⟨M, rfl⟩ := Int.eq_ofNat_of_zero_le hM.1
 have e1 : ((x : Int) + 256 * (X : Int)) = ((x + 256 * X : Nat) : Int) := by simp
 have e2 : ((m : Int) + 256 * (M : Int)) = ((m + 256 * M : Nat) : Int) := by simp
 rw [e1, e2, bits_and_u64_nat _ _ (by omega) (by omega), bits_and_u64_nat x m (by omega) (by omega), bits_and_u64_nat X M (by omega) (by omega), and_nat x X m M (by omega) (by omega)]
 simp
set_option maxRecDepth 8000 in
theorem and_f (x : Int) (h : 0 ≤ x ∧ x ≤ 255) : bits .and .u64 x 255 = x ∧ bits .and .u64 x 15 = x % 16 ∧ bits .and .u64 x 252 = x / 4 * 4 := by
 have : ∀ k : Fin 256, bits .and .u64 ((k.val : Nat) : Int) 255 = ((k.val : Nat) : Int) ∧ bits .and .u64 ((k.val : Nat) : Int) 15 = ((k.val % 16 : Nat) : Int) ∧ bits .and .u64 ((k.val : Nat) : Int) 252 = ((k.val / 4 * 4 : Nat) : Int) := by decide +kernel
 obtain ⟨n, rfl⟩ := Int.eq_ofNat_of_zero_le h.1
 have h2 : bits .and .u64 (n : Int) 255 = (n : Int) ∧ bits .and .u64 (n : Int) 15 = ((n % 16 : Nat) : Int) ∧ bits .and .u64 (n : Int) 252 = ((n / 4 * 4 : Nat) : Int) := this ⟨n, by omega⟩
 refine ⟨h2.1, ?_, ?_⟩
 ·rw [h2.2.1]; omega
 ·rw [h2.2.2]; omega
set_option maxRecDepth 8000 in
theorem mask_lo (x0 x1 x2 x3 x4 x5 x6 x7 : Int) (h0 : 0 ≤ x0 ∧ x0 ≤ 255) (h1 : 0 ≤ x1 ∧ x1 ≤ 255) (h2 : 0 ≤ x2 ∧ x2 ≤ 255) (h3 : 0 ≤ x3 ∧ x3 ≤ 255) (h4 : 0 ≤ x4 ∧ x4 ≤ 255) (h5 : 0 ≤ x5 ∧ x5 ≤ 255) (h6 : 0 ≤ x6 ∧ x6 ≤ 255) (h7 : 0 ≤ x7 ∧ x7 ≤ 255) : bits .and .u64 (leN [x0, x1, x2, x3, x4, x5, x6, x7]) 1152921487695413247 = leN [x0, x1, x2, x3 % 16, x4 / 4 * 4, x5, x6, x7 % 16] := by
 simp only [leN]
 have m0 : (1152921487695413247 : Int) = 255 + 256 * 4503599561310207 := by decide
 have s0 := and_step x0 (x1 + 256 * (x2 + 256 * (x3 + 256 * (x4 + 256 * (x5 + 256 * (x6 + 256 * (x7 + 256 * 0))))))) 255 4503599561310207 h0 (by decide) (by omega) (by decide)
 rw [← m0] at s0
 have m1 : (4503599561310207 : Int) = 255 + 256 * 17592185786367 := by decide
 have s1 := and_step x1 (x2 + 256 * (x3 + 256 * (x4 + 256 * (x5 + 256 * (x6 + 256 * (x7 + 256 * 0)))))) 255 17592185786367 h1 (by decide) (by omega) (by decide)
 rw [← m1] at s1
 have m2 : (17592185786367 : Int) = 255 + 256 * 68719475727 := by decide
 have s2 := and_step x2 (x3 + 256 * (x4 + 256 * (x5 + 256 * (x6 + 256 * (x7 + 256 * 0))))) 255 68719475727 h2 (by decide) (by omega) (by decide)
 rw [← m2] at s2
 have m3 : (68719475727 : Int) = 15 + 256 * 268435452 := by decide
 have s3 := and_step x3 (x4 + 256 * (x5 + 256 * (x6 + 256 * (x7 + 256 * 0)))) 15 268435452 h3 (by decide) (by omega) (by decide)
 rw [← m3] at s3
 have m4 : (268435452 : Int) = 252 + 256 * 1048575 := by decide
 have s4 := and_step x4 (x5 + 256 * (x6 + 256 * (x7 + 256 * 0))) 252 1048575 h4 (by decide) (by omega) (by decide)
 rw [← m4] at s4
 have m5 : (1048575 : Int) = 255 + 256 * 4095 := by decide
 have s5 := and_step x5 (x6 + 256 * (x7 + 256 * 0)) 255 4095 h5 (by decide) (by omega) (by decide)
 rw [← m5] at s5
 have m6 : (4095 : Int) = 255 + 256 * 15 := by decide
 have s6 := and_step x6 (x7 + 256 * 0) 255 15 h6 (by decide) (by omega) (by decide)
 rw [← m6] at s6
 have m7 : (15 : Int) = 15 + 256 * 0 := by decide
 have s7 := and_step x7 0 15 0 h7 (by decide) (by omega) (by decide)
 rw [← m7] at s7
 have z : bits .and .u64 0 0 = 0 := by decide
 rw [s0, s1, s2, s3, s4, s5, s6, s7, z, (and_f x0 h0).1, (and_f x1 h1).1, (and_f x2 h2).1, (and_f x3 h3).2.1, (and_f x4 h4).2.2, (and_f x5 h5).1, (and_f x6 h6).1, (and_f x7 h7).2.1]
set_option maxRecDepth 8000 in
theorem mask_hi (x0 x1 x2 x3 x4 x5 x6 x7 : Int) (h0 : 0 ≤ x0 ∧ x0 ≤ 255) (h1 : 0 ≤ x1 ∧ x1 ≤ 255) (h2 : 0 ≤ x2 ∧ x2 ≤ 255) (h3 : 0 ≤ x3 ∧ x3 ≤ 255) (h4 : 0 ≤ x4 ∧ x4 ≤ 255) (h5 : 0 ≤ x5 ∧ x5 ≤ 255) (h6 : 0 ≤ x6 ∧ x6 ≤ 255) (h7 : 0 ≤ x7 ∧ x7 ≤ 255) : bits .and .u64 (leN [x0, x1, x2, x3, x4, x5, x6, x7]) 1152921487695413244 = leN [x0 / 4 * 4, x1, x2, x3 % 16, x4 / 4 * 4, x5, x6, x7 % 16] := by
 simp only [leN]
 have m0 : (1152921487695413244 : Int) = 252 + 256 * 4503599561310207 := by decide
 have s0 := and_step x0 (x1 + 256 * (x2 + 256 * (x3 + 256 * (x4 + 256 * (x5 + 256 * (x6 + 256 * (x7 + 256 * 0))))))) 252 4503599561310207 h0 (by decide) (by omega) (by decide)
 rw [← m0] at s0
 have m1 : (4503599561310207 : Int) = 255 + 256 * 17592185786367 := by decide
 have s1 := and_step x1 (x2 + 256 * (x3 + 256 * (x4 + 256 * (x5 + 256 * (x6 + 256 * (x7 + 256 * 0)))))) 255 17592185786367 h1 (by decide) (by omega) (by decide)
 rw [← m1] at s1
 have m2 : (17592185786367 : Int) = 255 + 256 * 68719475727 := by decide
 have s2 := and_step x2 (x3 + 256 * (x4 + 256 * (x5 + 256 * (x6 + 256 * (x7 + 256 * 0))))) 255 68719475727 h2 (by decide) (by omega) (by decide)
 rw [← m2] at s2
 have m3 : (68719475727 : Int) = 15 + 256 * 268435452 := by decide
 have s3 := and_step x3 (x4 + 256 * (x5 + 256 * (x6 + 256 * (x7 + 256 * 0)))) 15 268435452 h3 (by decide) (by omega) (by decide)
 rw [← m3] at s3
 have m4 : (268435452 : Int) = 252 + 256 * 1048575 := by decide
 have s4 := and_step x4 (x5 + 256 * (x6 + 256 * (x7 + 256 * 0))) 252 1048575 h4 (by decide) (by omega) (by decide)
 rw [← m4] at s4
 have m5 : (1048575 : Int) = 255 + 256 * 4095 := by decide
 have s5 := and_step x5 (x6 + 256 * (x7 + 256 * 0)) 255 4095 h5 (by decide) (by omega) (by decide)
 rw [← m5] at s5
 have m6 : (4095 : Int) = 255 + 256 * 15 := by decide
 have s6 := and_step x6 (x7 + 256 * 0) 255 15 h6 (by decide) (by omega) (by decide)
 rw [← m6] at s6
 have m7 : (15 : Int) = 15 + 256 * 0 := by decide
 have s7 := and_step x7 0 15 0 h7 (by decide) (by omega) (by decide)
 rw [← m7] at s7
 have z : bits .and .u64 0 0 = 0 := by decide
 rw [s0, s1, s2, s3, s4, s5, s6, s7, z, (and_f x0 h0).2.2, (and_f x1 h1).1, (and_f x2 h2).1, (and_f x3 h3).2.1, (and_f x4 h4).2.2, (and_f x5 h5).1, (and_f x6 h6).1, (and_f x7 h7).2.1]
set_option maxRecDepth 8000 in
theorem cl5_digits (x0 x1 x2 x3 x4 x5 x6 x7 x8 x9 x10 x11 x12 x13 x14 x15 : Int) (h0 : 0 ≤ x0 ∧ x0 ≤ 255) (h1 : 0 ≤ x1 ∧ x1 ≤ 255) (h2 : 0 ≤ x2 ∧ x2 ≤ 255) (h3 : 0 ≤ x3 ∧ x3 ≤ 255) (h4 : 0 ≤ x4 ∧ x4 ≤ 255) (h5 : 0 ≤ x5 ∧ x5 ≤ 255) (h6 : 0 ≤ x6 ∧ x6 ≤ 255) (h7 : 0 ≤ x7 ∧ x7 ≤ 255) (h8 : 0 ≤ x8 ∧ x8 ≤ 255) (h9 : 0 ≤ x9 ∧ x9 ≤ 255) (h10 : 0 ≤ x10 ∧ x10 ≤ 255) (h11 : 0 ≤ x11 ∧ x11 ≤ 255) (h12 : 0 ≤ x12 ∧ x12 ≤ 255) (h13 : 0 ≤ x13 ∧ x13 ≤ 255) (h14 : 0 ≤ x14 ∧ x14 ≤ 255) (h15 : 0 ≤ x15 ∧ x15 ≤ 255) (r : List Int) : cl5 ([x0, x1, x2, x3, x4, x5, x6, x7, x8, x9, x10, x11, x12, x13, x14, x15] ++ r) = leN [x0, x1, x2, x3 % 16, x4 / 4 * 4, x5, x6, x7 % 16, x8 / 4 * 4, x9, x10, x11 % 16, x12 / 4 * 4, x13, x14, x15 % 16] := by
 rw [cl5_head [x0, x1, x2, x3, x4, x5, x6, x7, x8, x9, x10, x11, x12, x13, x14, x15] r [] rfl]
 unfold cl5
 have e1 : ([x0, x1, x2, x3, x4, x5, x6, x7, x8, x9, x10, x11, x12, x13, x14, x15] ++ []).take 8 = [x0, x1, x2, x3, x4, x5, x6, x7] := rfl
 have e2 : (([x0, x1, x2, x3, x4, x5, x6, x7, x8, x9, x10, x11, x12, x13, x14, x15] ++ []).drop 8).take 8 = [x8, x9, x10, x11, x12, x13, x14, x15] := rfl
 rw [e1, e2, mask_lo x0 x1 x2 x3 x4 x5 x6 x7 h0 h1 h2 h3 h4 h5 h6 h7, mask_hi x8 x9 x10 x11 x12 x13 x14 x15 h8 h9 h10 h11 h12 h13 h14 h15]
 simp only [leN]
 omega
set_option maxRecDepth 8000 in
/-- A list of sixteen. -/
theorem list16 (l : List Int) (h : l.length = 16) : ∃ x0 x1 x2 x3 x4 x5 x6 x7 x8 x9 x10 x11 x12 x13 x14 x15 : Int, l = [x0, x1, x2, x3, x4, x5, x6, x7, x8, x9, x10, x11, x12, x13, x14, x15] := by
 match l, h with
 | [x0, x1, x2, x3, x4, x5, x6, x7, x8, x9, x10, x11, x12, x13, x14, x15], _ => exact ⟨x0, x1, x2, x3, x4, x5, x6, x7, x8, x9, x10, x11, x12, x13, x14, x15, rfl⟩
set_option maxRecDepth 8000 in
theorem lay_get : ∀ (k : Nat) (l : List Int), Byt l → ∀ i, i < k → (lay k (leN l))[i]? = some (l[i]?.getD 0)
 | k + 1, [], _, 0, _ => by simp [lay, leN]
 | k + 1, [], h, i + 1, hi => by
  have := lay_get k [] h i (by omega)
  rw [leN] at this
  simpa [lay, leN] using this
 | k + 1, x :: l, h, 0, _ => by
  have hx := h x (by simp)
  have e : (x + 256 * leN l) % 256 = x := by omega
  simp [lay, leN, e]
 | k + 1, x :: l, h, i + 1, hi => by
  have hx := h x (by simp)
  have e : (x + 256 * leN l) / 256 = leN l := by omega
  have := lay_get k l (fun y hy => h y (List.mem_cons_of_mem _ hy)) i (by omega)
  simpa [lay, leN, e] using this
set_option maxRecDepth 8000 in
theorem half_end (F : List Int) (k : Nat) (hk : k ≤ F.length) (h : ∀ i, k ≤ i → i < F.length → F[i]? = some 0) : half F k = F := by
 apply List.ext_getElem?
 intro i
 unfold half
 by_cases hi : i < k
 ·rw [List.getElem?_append_left (by rw [List.length_take]; omega), List.getElem?_take_of_lt hi]
 ·have e1 : (F.take k).length = k := by rw [List.length_take]; omega
  rw [List.getElem?_append_right (by omega), e1]
  by_cases hf : i < F.length
  ·rw [List.getElem?_replicate, if_pos (by omega), h i (by omega) hf]
  ·rw [List.getElem?_eq_none (by simp; omega), List.getElem?_eq_none (by omega)]
end Go.Proofs.YtmibjgkakolhiaaGreatDoor
