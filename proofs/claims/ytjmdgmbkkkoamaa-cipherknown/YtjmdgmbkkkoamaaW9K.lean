/-
  CipherKnown's walk. No statement of the seat is proved here.
-/
import Derived.Test.YtjmdgmbkkkoamaaVKn
import Derived.Test.YtjmdgmbkkkoamaaVOpen
import Derived.Test.YtjmdgmbkkkoamaaQParts
namespace Go.Proofs.Ytjmdgmbkkkoamaa
open Go.RowKit

def one9 : List Int := [1, 0, 0, 0, 0, 0, 0, 0, 0, 0, 0, 0, 0, 0, 0, 0, 0, 0, 0, 0, 0, 0, 0, 0, 0, 0, 0, 0, 0, 0, 0, 0]
def two9 : List Int := [2, 0, 0, 0, 0, 0, 0, 0, 0, 0, 0, 0, 0, 0, 0, 0, 0, 0, 0, 0, 0, 0, 0, 0, 0, 0, 0, 0, 0, 0, 0, 0]
theorem one9_bn : Bn 32 one9 := ⟨rfl, byt5 _ (by decide)⟩
theorem two9_bn : Bn 32 two9 := ⟨rfl, byt5 _ (by decide)⟩
theorem str97 : strOfNums [97] = { data := #[97] } := by decide +kernel
theorem str98 : strOfNums [98] = { data := #[98] } := by decide +kernel
theorem rk9_ap (k : List Int) : rk9 k = ap k 1 (nn6 18446744073709551615) (List.replicate 32 0) := by
  unfold rk9
  have h := se6_body k (nn6 18446744073709551615) [] (List.replicate 32 0)
  rw [se6_len, List.length_replicate] at h
  exact h
theorem rk9_two : rk9 two9 = [107, 42, 126, 185, 20, 128, 57, 139, 116, 70, 54, 142, 167, 223, 185, 46, 218, 83, 15, 151, 221, 143, 24, 217, 154, 230, 145, 172, 236, 8, 105, 231] := by
  rw [rk9_ap, ← ap_enough _ _ _ _ 1 (by decide)]
  decide +kernel
set_option maxRecDepth 8000 in
set_option maxHeartbeats 4000000 in
theorem cipherKnown_walk (w : World) : Calls Try.prog 3 #[] w fun e w' => e = .returned (.bool true) ∧ Below w.heap.size w w' := by
  go_enter Try.func3, Try.ntmps3
  go_wp2_with fail
  refine (new9_c _).mono ?_
  rintro e V1 ⟨rfl, Ha, hb⟩
  obtain ⟨ba, hq⟩ : ∃ q, q = w.heap.size := ⟨_, rfl⟩
  rw [← hq] at Ha ⊢
  have kaw : w.heap.size ≤ ba := by rw [hq]; exact Nat.le_refl _
  clear hq
  have HB : Hid (Below w.heap.size w V1) := hb
  clear hb
  go_wp2_with fail
  refine (known9_any _).mono ?_
  rintro e V2 ⟨rfl, hb⟩
  replace Ha : Hid (Sx V2 ba z9l false 0) := Ha.out.later hb
  replace HB : Hid (Below w.heap.size w V2) := HB.out.trans (hb.mono HB.out.size)
  clear hb
  have hLx : Lt (V2.alloc (.cells #[.int .u8 120] 5)) V2.heap.size [120] := lt_new V2 [120]
  have hcvx := conv_mark (V2.alloc (.cells #[.int .u8 120] 5)) V2.heap.size [120] 1 1 hLx
  simp only [List.length_cons, List.length_nil, Nat.zero_add] at hcvx
  have hY : Below V2.heap.size V2 ((V2.alloc (.cells #[.int .u8 120] 5)).freeze ⟨V2.heap.size, 1, none⟩ 1) := ext_frz (bel1 _ _) _ _ (Nat.le_refl _)
  have Rx : Hid (Rd ((V2.alloc (.cells #[.int .u8 120] 5)).freeze ⟨V2.heap.size, 1, none⟩ 1) (some ⟨V2.heap.size, 0, none⟩) 1 1 [120]) := (hLx.rd (byt5 _ (by decide)) 1 (by decide)).frz _ _
  have hZ : Below V2.heap.size V2 ((V2.alloc (.cells #[.int .u8 120] 5)).freeze ⟨V2.heap.size, 1, none⟩ 1) := hY
  clear hY
  have hZ0 := hZ
  clear hZ
  have hNy : ((V2.alloc (.cells #[.int .u8 120] 5)).freeze ⟨V2.heap.size, 1, none⟩ 1).heap.size = (V2.heap.size + 1) := by simp [World.freeze]
  have hLy : Lt (((V2.alloc (.cells #[.int .u8 120] 5)).freeze ⟨V2.heap.size, 1, none⟩ 1).alloc (.cells #[.int .u8 97] 5)) (V2.heap.size + 1) [97] := by have := lt_new ((V2.alloc (.cells #[.int .u8 120] 5)).freeze ⟨V2.heap.size, 1, none⟩ 1) [97]; rw [hNy] at this; exact this
  have hcvy := conv_mark (((V2.alloc (.cells #[.int .u8 120] 5)).freeze ⟨V2.heap.size, 1, none⟩ 1).alloc (.cells #[.int .u8 97] 5)) (V2.heap.size + 1) [97] 1 1 hLy
  simp only [List.length_cons, List.length_nil, Nat.zero_add] at hcvy
  have hY : Below ((V2.alloc (.cells #[.int .u8 120] 5)).freeze ⟨V2.heap.size, 1, none⟩ 1).heap.size ((V2.alloc (.cells #[.int .u8 120] 5)).freeze ⟨V2.heap.size, 1, none⟩ 1) ((((V2.alloc (.cells #[.int .u8 120] 5)).freeze ⟨V2.heap.size, 1, none⟩ 1).alloc (.cells #[.int .u8 97] 5)).freeze ⟨(V2.heap.size + 1), 1, none⟩ 1) := ext_frz (bel1 _ _) _ _ (by rw [hNy]; exact Nat.le_refl _)
  replace Rx : Hid (Rd ((((V2.alloc (.cells #[.int .u8 120] 5)).freeze ⟨V2.heap.size, 1, none⟩ 1).alloc (.cells #[.int .u8 97] 5)).freeze ⟨(V2.heap.size + 1), 1, none⟩ 1) (some ⟨V2.heap.size, 0, none⟩) 1 1 [120]) := Rx.out.below hY
  have Ry : Hid (Rd ((((V2.alloc (.cells #[.int .u8 120] 5)).freeze ⟨V2.heap.size, 1, none⟩ 1).alloc (.cells #[.int .u8 97] 5)).freeze ⟨(V2.heap.size + 1), 1, none⟩ 1) (some ⟨(V2.heap.size + 1), 0, none⟩) 1 1 [97]) := (hLy.rd (byt5 _ (by decide)) 1 (by decide)).frz _ _
  have hZ : Below V2.heap.size V2 ((((V2.alloc (.cells #[.int .u8 120] 5)).freeze ⟨V2.heap.size, 1, none⟩ 1).alloc (.cells #[.int .u8 97] 5)).freeze ⟨(V2.heap.size + 1), 1, none⟩ 1) := hZ0.trans (hY.mono hZ0.size)
  clear hY
  clear hZ0
  have hZ0 := hZ
  clear hZ
  have hb := hZ0
  clear hZ0
  replace Ha : Hid (Sx ((((V2.alloc (.cells #[.int .u8 120] 5)).freeze ⟨V2.heap.size, 1, none⟩ 1).alloc (.cells #[.int .u8 97] 5)).freeze ⟨(V2.heap.size + 1), 1, none⟩ 1) ba z9l false 0) := Ha.out.later hb
  replace HB : Hid (Below w.heap.size w ((((V2.alloc (.cells #[.int .u8 120] 5)).freeze ⟨V2.heap.size, 1, none⟩ 1).alloc (.cells #[.int .u8 97] 5)).freeze ⟨(V2.heap.size + 1), 1, none⟩ 1)) := HB.out.trans (hb.mono HB.out.size)
  clear hb
  go_wp2_with fail
  refine (seal9_none ba z9l 0 (some ⟨V2.heap.size, 0, none⟩) 1 1 [120] (some ⟨(V2.heap.size + 1), 0, none⟩) 1 1 [97] _ Ha.out Ry.out (by decide)).mono ?_
  rintro e U1 ⟨g1, rfl, hg1, O1, HS', hb⟩
  have hna1 : g1 ≠ ba := by have := Ha.out.lt; omega
  clear hg1
  clear hcvx hLx Rx hcvy hLy Ry hNy
  clear HS'
  replace Ha : Hid (Sx U1 ba z9l false 0) := Ha.out.later hb
  replace HB : Hid (Below w.heap.size w U1) := HB.out.trans (hb.mono HB.out.size)
  clear hb
  replace O1 : Hid (Rd U1 (some ⟨g1, 0, none⟩) 1 1 [97]) := O1.out.rd
  have hLx : Lt (U1.alloc (.cells #[.int .u8 120] 5)) U1.heap.size [120] := lt_new U1 [120]
  have hcvx := conv_mark (U1.alloc (.cells #[.int .u8 120] 5)) U1.heap.size [120] 1 1 hLx
  simp only [List.length_cons, List.length_nil, Nat.zero_add] at hcvx
  have hY : Below U1.heap.size U1 ((U1.alloc (.cells #[.int .u8 120] 5)).freeze ⟨U1.heap.size, 1, none⟩ 1) := ext_frz (bel1 _ _) _ _ (Nat.le_refl _)
  have Rx : Hid (Rd ((U1.alloc (.cells #[.int .u8 120] 5)).freeze ⟨U1.heap.size, 1, none⟩ 1) (some ⟨U1.heap.size, 0, none⟩) 1 1 [120]) := (hLx.rd (byt5 _ (by decide)) 1 (by decide)).frz _ _
  have hZ : Below U1.heap.size U1 ((U1.alloc (.cells #[.int .u8 120] 5)).freeze ⟨U1.heap.size, 1, none⟩ 1) := hY
  clear hY
  have hZ0 := hZ
  clear hZ
  have hNy : ((U1.alloc (.cells #[.int .u8 120] 5)).freeze ⟨U1.heap.size, 1, none⟩ 1).heap.size = (U1.heap.size + 1) := by simp [World.freeze]
  have hLy : Lt (((U1.alloc (.cells #[.int .u8 120] 5)).freeze ⟨U1.heap.size, 1, none⟩ 1).alloc (.cells #[.int .u8 98] 5)) (U1.heap.size + 1) [98] := by have := lt_new ((U1.alloc (.cells #[.int .u8 120] 5)).freeze ⟨U1.heap.size, 1, none⟩ 1) [98]; rw [hNy] at this; exact this
  have hcvy := conv_mark (((U1.alloc (.cells #[.int .u8 120] 5)).freeze ⟨U1.heap.size, 1, none⟩ 1).alloc (.cells #[.int .u8 98] 5)) (U1.heap.size + 1) [98] 1 1 hLy
  simp only [List.length_cons, List.length_nil, Nat.zero_add] at hcvy
  have hY : Below ((U1.alloc (.cells #[.int .u8 120] 5)).freeze ⟨U1.heap.size, 1, none⟩ 1).heap.size ((U1.alloc (.cells #[.int .u8 120] 5)).freeze ⟨U1.heap.size, 1, none⟩ 1) ((((U1.alloc (.cells #[.int .u8 120] 5)).freeze ⟨U1.heap.size, 1, none⟩ 1).alloc (.cells #[.int .u8 98] 5)).freeze ⟨(U1.heap.size + 1), 1, none⟩ 1) := ext_frz (bel1 _ _) _ _ (by rw [hNy]; exact Nat.le_refl _)
  replace Rx : Hid (Rd ((((U1.alloc (.cells #[.int .u8 120] 5)).freeze ⟨U1.heap.size, 1, none⟩ 1).alloc (.cells #[.int .u8 98] 5)).freeze ⟨(U1.heap.size + 1), 1, none⟩ 1) (some ⟨U1.heap.size, 0, none⟩) 1 1 [120]) := Rx.out.below hY
  have Ry : Hid (Rd ((((U1.alloc (.cells #[.int .u8 120] 5)).freeze ⟨U1.heap.size, 1, none⟩ 1).alloc (.cells #[.int .u8 98] 5)).freeze ⟨(U1.heap.size + 1), 1, none⟩ 1) (some ⟨(U1.heap.size + 1), 0, none⟩) 1 1 [98]) := (hLy.rd (byt5 _ (by decide)) 1 (by decide)).frz _ _
  have hZ : Below U1.heap.size U1 ((((U1.alloc (.cells #[.int .u8 120] 5)).freeze ⟨U1.heap.size, 1, none⟩ 1).alloc (.cells #[.int .u8 98] 5)).freeze ⟨(U1.heap.size + 1), 1, none⟩ 1) := hZ0.trans (hY.mono hZ0.size)
  clear hY
  clear hZ0
  have hZ0 := hZ
  clear hZ
  have hb := hZ0
  clear hZ0
  replace Ha : Hid (Sx ((((U1.alloc (.cells #[.int .u8 120] 5)).freeze ⟨U1.heap.size, 1, none⟩ 1).alloc (.cells #[.int .u8 98] 5)).freeze ⟨(U1.heap.size + 1), 1, none⟩ 1) ba z9l false 0) := Ha.out.later hb
  replace O1 : Hid (Rd ((((U1.alloc (.cells #[.int .u8 120] 5)).freeze ⟨U1.heap.size, 1, none⟩ 1).alloc (.cells #[.int .u8 98] 5)).freeze ⟨(U1.heap.size + 1), 1, none⟩ 1) (some ⟨g1, 0, none⟩) 1 1 [97]) := O1.out.below hb
  replace HB : Hid (Below w.heap.size w ((((U1.alloc (.cells #[.int .u8 120] 5)).freeze ⟨U1.heap.size, 1, none⟩ 1).alloc (.cells #[.int .u8 98] 5)).freeze ⟨(U1.heap.size + 1), 1, none⟩ 1)) := HB.out.trans (hb.mono HB.out.size)
  clear hb
  go_wp2_with fail
  refine (open9_none ba z9l 0 (some ⟨U1.heap.size, 0, none⟩) 1 1 [120] (some ⟨(U1.heap.size + 1), 0, none⟩) 1 1 [98] _ Ha.out Ry.out (by decide)).mono ?_
  rintro e U2 ⟨g2, rfl, hg2, O2, HS', hb⟩
  have hna2 : g2 ≠ ba := by have := Ha.out.lt; omega
  clear hg2
  clear hcvx hLx Rx hcvy hLy Ry hNy
  clear HS'
  replace Ha : Hid (Sx U2 ba z9l false 0) := Ha.out.later hb
  replace O1 : Hid (Rd U2 (some ⟨g1, 0, none⟩) 1 1 [97]) := O1.out.below hb
  replace HB : Hid (Below w.heap.size w U2) := HB.out.trans (hb.mono HB.out.size)
  clear hb
  replace O2 : Hid (Rd U2 (some ⟨g2, 0, none⟩) 1 1 [98]) := O2.out.rd
  go_wp2_with fail
  refine (rekey9_none ba z9l 0 _ Ha.out).mono ?_
  rintro e U3 ⟨rfl, hw⟩
  rw [hw]
  clear hw U3
  have n1a : g1 ≠ ba := hna1
  have n2a : g2 ≠ ba := hna2
  go_wp2_with fail
  refine (init9_c ba z9l false 0 one9 one9_bn _ Ha.out).mono ?_
  rintro e V3 ⟨rfl, HS', hb⟩
  replace Ha := HS'
  clear HS'
  replace O1 : Hid (Rd V3 (some ⟨g1, 0, none⟩) 1 1 [97]) := O1.out.extb hb (by omega)
  replace O2 : Hid (Rd V3 (some ⟨g2, 0, none⟩) 1 1 [98]) := O2.out.extb hb (by omega)
  replace HB : Hid (Below w.heap.size w V3) := hb.below HB.out (by omega)
  clear hb
  go_wp2_with fail
  refine (init9_c ba one9 true 0 two9 two9_bn _ Ha.out).mono ?_
  rintro e V4 ⟨rfl, HS', hb⟩
  replace Ha := HS'
  clear HS'
  replace O1 : Hid (Rd V4 (some ⟨g1, 0, none⟩) 1 1 [97]) := O1.out.extb hb (by omega)
  replace O2 : Hid (Rd V4 (some ⟨g2, 0, none⟩) 1 1 [98]) := O2.out.extb hb (by omega)
  replace HB : Hid (Below w.heap.size w V4) := hb.below HB.out (by omega)
  clear hb
  have sx : (convert 25 9 (.slice (some ⟨g1, 0, none⟩) 1 1)).run Try.prog V4 = .ok (.string { data := #[97] }) V4 := by
    have := str_of O1.out
    rwa [str97] at this
  have sy : (convert 25 9 (.slice (some ⟨g2, 0, none⟩) 1 1)).run Try.prog V4 = .ok (.string { data := #[98] }) V4 := by
    have := str_of O2.out
    rwa [str98] at this
  clear O1 O2 n1a n2a hna1 hna2
  go_wp2_with fail
  refine (key9_c ba two9 true 0 _ Ha.out).mono ?_
  rintro e V5 ⟨rfl, hb⟩
  replace Ha : Hid (Sx V5 ba two9 true 0) := Ha.out.later hb
  replace HB : Hid (Below w.heap.size w V5) := HB.out.trans (hb.mono HB.out.size)
  clear hb
  have heq : ∀ u, Sem.run Try.prog (binOp .eql 31 (.agg (List.map (Value.int .u8) two9).toArray) (.agg #[.int .u8 2, .int .u8 0, .int .u8 0, .int .u8 0, .int .u8 0, .int .u8 0, .int .u8 0, .int .u8 0, .int .u8 0, .int .u8 0, .int .u8 0, .int .u8 0, .int .u8 0, .int .u8 0, .int .u8 0, .int .u8 0, .int .u8 0, .int .u8 0, .int .u8 0, .int .u8 0, .int .u8 0, .int .u8 0, .int .u8 0, .int .u8 0, .int .u8 0, .int .u8 0, .int .u8 0, .int .u8 0, .int .u8 0, .int .u8 0, .int .u8 0, .int .u8 0])) u = .ok (.bool true) u := fun u => eql32 two9 two9 two9_bn rfl u
  go_wp2_with fail
  refine (nonce9_c ba two9 true 0 _ Ha.out).mono ?_
  rintro e V6 ⟨rfl, hw⟩
  rw [hw]
  clear hw V6
  go_wp2_with fail
  refine (rekey9_yes ba two9 0 _ Ha.out).mono ?_
  rintro e V7 ⟨K, rfl, HKK, HS', hb⟩
  have HKn : Hid (Bn 32 K) := HS'.out.bk
  replace Ha := HS'
  clear HS'
  replace HB : Hid (Below w.heap.size w V7) := hb.below HB.out (by omega)
  clear hb
  go_wp2_with fail
  refine (key9_c ba K true 0 _ Ha.out).mono ?_
  rintro e V8 ⟨rfl, hb⟩
  replace Ha : Hid (Sx V8 ba K true 0) := Ha.out.later hb
  replace HB : Hid (Below w.heap.size w V8) := HB.out.trans (hb.mono HB.out.size)
  clear hb
  have hne : ∀ u, Sem.run Try.prog (binOp .neq 31 (.agg (List.map (Value.int .u8) K).toArray) (.agg #[.int .u8 2, .int .u8 0, .int .u8 0, .int .u8 0, .int .u8 0, .int .u8 0, .int .u8 0, .int .u8 0, .int .u8 0, .int .u8 0, .int .u8 0, .int .u8 0, .int .u8 0, .int .u8 0, .int .u8 0, .int .u8 0, .int .u8 0, .int .u8 0, .int .u8 0, .int .u8 0, .int .u8 0, .int .u8 0, .int .u8 0, .int .u8 0, .int .u8 0, .int .u8 0, .int .u8 0, .int .u8 0, .int .u8 0, .int .u8 0, .int .u8 0, .int .u8 0])) u = .ok (.bool true) u := fun u => by rw [HKK.out, rk9_two]; kernel_rfl
  go_wp2
  go_ret
  exact ⟨rfl, HB.out⟩
end Go.Proofs.Ytjmdgmbkkkoamaa
