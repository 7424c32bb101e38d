/-
  What the law's own 'known' does: chapter 9's example holds. No statement of the seat is proved here.
-/
import Derived.Test.YtjmdgmbkkkoamaaVSeal
import Derived.Test.YtjmdgmbkkkoamaaVRek
import Derived.Test.YtjmdgmbkkkoamaaKSec
namespace Go.Proofs.Ytjmdgmbkkkoamaa
open Go.RowKit

set_option maxRecDepth 8000 in
set_option maxHeartbeats 4000000 in
theorem known9_any (w : World) : Calls Try.prog 9 #[] w fun e w' => e = .returned (.bool true) ∧ Below w.heap.size w w' := by
  go_enter Try.func9, Try.ntmps9
  go_wp2_with fail
  refine (new9_c _).mono ?_
  rintro e V1 ⟨rfl, Ha, hb⟩
  obtain ⟨ba, hq⟩ : ∃ q, q = w.heap.size := ⟨_, rfl⟩
  rw [← hq] at Ha ⊢
  have kaw : w.heap.size ≤ ba := by rw [hq]; exact Nat.le_refl _
  clear hq
  have HB : Hid (Below w.heap.size w V1) := hb
  clear hb
  go_wp2_with fail
  refine (has9_c ba z9l false 0 _ Ha.out).mono ?_
  rintro e V2 ⟨rfl, hw⟩
  rw [hw]
  clear hw V2
  go_wp2_with fail
  refine (secret_l 3 _).mono ?_
  rintro e V3 ⟨key, rfl, -, HK, hb⟩
  replace Ha : Hid (Sx V3 ba z9l false 0) := Ha.out.later hb
  replace HB : Hid (Below w.heap.size w V3) := HB.out.trans (hb.mono HB.out.size)
  clear hb
  go_wp2_with fail
  refine (init9_c ba z9l false 0 key HK.out _ Ha.out).mono ?_
  rintro e V4 ⟨rfl, HS', hb⟩
  replace Ha := HS'
  clear HS'
  replace HB : Hid (Below w.heap.size w V4) := hb.below HB.out (by omega)
  clear hb
  go_wp2_with fail
  refine (setn9_c ba key true 0 18446744073709551614 (by decide) _ Ha.out).mono ?_
  rintro e V5 ⟨rfl, HS', hb⟩
  replace Ha := HS'
  clear HS'
  replace HB : Hid (Below w.heap.size w V5) := hb.below HB.out (by omega)
  clear hb
  have hLt : Lt (V5.alloc (.cells #[.int .u8 97] 5)) V5.heap.size [97] := lt_new V5 [97]
  have hcvt := conv_mark (V5.alloc (.cells #[.int .u8 97] 5)) V5.heap.size [97] 1 1 hLt
  simp only [List.length_cons, List.length_nil, Nat.zero_add] at hcvt
  have hY : Below V5.heap.size V5 ((V5.alloc (.cells #[.int .u8 97] 5)).freeze ⟨V5.heap.size, 1, none⟩ 1) := ext_frz (bel1 _ _) _ _ (Nat.le_refl _)
  have Rt : Hid (Rd ((V5.alloc (.cells #[.int .u8 97] 5)).freeze ⟨V5.heap.size, 1, none⟩ 1) (some ⟨V5.heap.size, 0, none⟩) 1 1 [97]) := (hLt.rd (byt5 _ (by decide)) 1 (by decide)).frz _ _
  have hZ : Below V5.heap.size V5 ((V5.alloc (.cells #[.int .u8 97] 5)).freeze ⟨V5.heap.size, 1, none⟩ 1) := hY
  clear hY
  have hZ0 := hZ
  clear hZ
  have hb := hZ0
  clear hZ0
  replace Ha : Hid (Sx ((V5.alloc (.cells #[.int .u8 97] 5)).freeze ⟨V5.heap.size, 1, none⟩ 1) ba key true 18446744073709551614) := Ha.out.later hb
  replace HB : Hid (Below w.heap.size w ((V5.alloc (.cells #[.int .u8 97] 5)).freeze ⟨V5.heap.size, 1, none⟩ 1)) := HB.out.trans (hb.mono HB.out.size)
  clear hb
  go_wp2_with fail
  refine (seal9_yes ba key 18446744073709551614 none 0 0 [] (some ⟨V5.heap.size, 0, none⟩) 1 1 [97] _ Ha.out (by decide) (Rd.nil _ _ _ (fun _ => rfl)) Rt.out (by decide) (by decide)).mono ?_
  rintro e V6 ⟨g, mg, Xg, n', rfl, hg, Hmg, HXg, HN', Og, HS', hb⟩
  clear hcvt
  replace Ha := HS'
  clear HS' Rt hLt Og HXg hg
  replace HB : Hid (Below w.heap.size w V6) := hb.below HB.out (by omega)
  clear hb
  have hn' : n' = 18446744073709551615 := by rw [HN'.out]; rfl
  subst hn'
  have hm' : mg = 17 := Hmg.out
  subst hm'
  clear HN' Hmg
  have hLt : Lt (V6.alloc (.cells #[.int .u8 97] 5)) V6.heap.size [97] := lt_new V6 [97]
  have hcvt := conv_mark (V6.alloc (.cells #[.int .u8 97] 5)) V6.heap.size [97] 1 1 hLt
  simp only [List.length_cons, List.length_nil, Nat.zero_add] at hcvt
  have hY : Below V6.heap.size V6 ((V6.alloc (.cells #[.int .u8 97] 5)).freeze ⟨V6.heap.size, 1, none⟩ 1) := ext_frz (bel1 _ _) _ _ (Nat.le_refl _)
  have Rt : Hid (Rd ((V6.alloc (.cells #[.int .u8 97] 5)).freeze ⟨V6.heap.size, 1, none⟩ 1) (some ⟨V6.heap.size, 0, none⟩) 1 1 [97]) := (hLt.rd (byt5 _ (by decide)) 1 (by decide)).frz _ _
  have hZ : Below V6.heap.size V6 ((V6.alloc (.cells #[.int .u8 97] 5)).freeze ⟨V6.heap.size, 1, none⟩ 1) := hY
  clear hY
  have hZ0 := hZ
  clear hZ
  have hb := hZ0
  clear hZ0
  replace Ha : Hid (Sx ((V6.alloc (.cells #[.int .u8 97] 5)).freeze ⟨V6.heap.size, 1, none⟩ 1) ba key true 18446744073709551615) := Ha.out.later hb
  replace HB : Hid (Below w.heap.size w ((V6.alloc (.cells #[.int .u8 97] 5)).freeze ⟨V6.heap.size, 1, none⟩ 1)) := HB.out.trans (hb.mono HB.out.size)
  clear hb
  go_wp2_with fail
  refine (seal9_last ba key 18446744073709551615 none 0 0 [] (some ⟨V6.heap.size, 0, none⟩) 1 1 [97] _ Ha.out rfl).mono ?_
  rintro e V9 ⟨rfl, hw⟩
  rw [hw]
  clear hw V9 Rt hLt hcvt
  go_wp2_with fail
  refine (has9_c ba key true 18446744073709551615 _ Ha.out).mono ?_
  rintro e V7 ⟨rfl, hw⟩
  rw [hw]
  clear hw V7
  go_wp2_with fail
  refine (nonce9_c ba key true 18446744073709551615 _ Ha.out).mono ?_
  rintro e V8 ⟨rfl, hw⟩
  rw [hw]
  clear hw V8
  go_wp2
  go_ret
  exact ⟨rfl, HB.out⟩
end Go.Proofs.Ytjmdgmbkkkoamaa
