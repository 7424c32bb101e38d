/-
  Several texts of one's own, laid together. No statement of the seat is proved here.
-/
import Derived.Test.YtmibjgkakolhiaaGreatDoorPk38
import Derived.Test.YtmibjgkakolhiaaGreatDoorPk10
/-
 What the reference's plus does. No statement of the seat is proved here.
-/
namespace Go.Proofs.YtmibjgkakolhiaaGreatDoor
open Go.RowKit

set_option maxRecDepth 8000 in
theorem plus_step {z x y : List Int} {k : Nat} {c d q t : Int} (hs : leN z + 256 ^ k * (c + leN (x.drop k) + leN (y.drop k)) = leN x + leN y) (hz : z.length = k) (he : leN (x.drop k) + leN (y.drop k) + c = t + 256 * (leN (x.drop (k + 1)) + leN (y.drop (k + 1)))) (ht : t = d + 256 * q) :
  leN (z ++ [d]) + 256 ^ (k + 1) * (q + leN (x.drop (k + 1)) + leN (y.drop (k + 1))) = leN x + leN y := by
 rw [leN_snoc, hz, Int.pow_succ, ← hs]
 generalize leN (x.drop k) = xa at *
 generalize leN (y.drop k) = ya at *
 generalize leN (x.drop (k + 1)) = xb at *
 generalize leN (y.drop (k + 1)) = yb at *
 generalize (256 : Int) ^ k = E at *
 have e : c + xa + ya = d + 256 * (q + xb + yb) := by omega
 rw [e, Int.mul_add E d, Int.mul_assoc E 256]
 omega
set_option maxRecDepth 8000 in
set_option maxHeartbeats 4000000 in
theorem plus_c (a : Option Addr) (la ca : Nat) (x : List Int) (b : Option Addr) (lb cb : Nat) (y : List Int) (w : World) (hx : Ru w a la ca x) (hy : Ru w b lb cb y) (hm : la ≤ 8000000) (hm2 : lb ≤ 8000000) :
  Calls Tryz.prog 84 #[.slice a la ca, .slice b lb cb] w fun e w' => ∃ v n z, e = .returned v ∧ n ≤ max la lb + 1 ∧ Hid (Byt z) ∧ Hid (leN z = leN x + leN y) ∧ Hid (w'.ownsRow w.heap.size 63 1 v n (List.map (Value.int .u32) z)) ∧ Below w.heap.size w w' := by
 obtain ⟨i0, hi, hz0, hz1, hz2⟩ := info_parts infoU
 have HX : Hid (Ru w a la ca x) := hx
 have HY : Hid (Ru w b lb cb y) := hy
 clear hx hy
 go_enter Tryz.func84, Tryz.ntmps84
 go_wp2
 go_loopw [7, 5, 6] (fun i o c wr => ∃ (k : Nat) (v : Value) (cc : Int) (z : List Int), k ≤ max la lb + 1 ∧ i = .int .i64 k ∧ o = v ∧ c = .int .u32 cc ∧ 0 ≤ cc ∧ cc ≤ 1 ∧ Hid (max la lb < k → cc = 0) ∧ Hid (z.length = k) ∧ Hid (Byt z) ∧ Hid (leN z + 256 ^ k * (cc + leN (x.drop k) + leN (y.drop k)) = leN x + leN y) ∧ Hid (wr.ownsRow w.heap.size 63 1 v k (List.map (Value.int .u32) z)) ∧ Hid (Below w.heap.size w wr)) (fun i _ _ _ => max la lb + 2 - (intOf i).toNat)
 case atStart => exact ⟨0, _, 0, [], Nat.zero_le _, rfl, rfl, rfl, by decide, by decide, fun _ => rfl, rfl, Byt.nil, by simp [leN, Hid], World.ownsRow_nil _ _ _ _, Below.refl _ _⟩
 case round =>
  obtain ⟨k, v, c, z, hk, rfl, rfl, rfl, hc0, hc1, HEnd, HZL, HZB, HS, HO, HB⟩ := hrel
  have htn : (k : Int).toNat = k := by omega
  by_cases hxa : k < la
  ·by_cases hyb : k < lb
   ·have ga : (k : Int) < la := by omega
    have gb : (k : Int) < lb := by omega
    obtain ⟨ba, oa, rfl, hca⟩ := (HX.out.below HB.out).cell (by omega)
    have cx := hca k hxa
    have bx := HX.out.byt.at k
    have ex := leN_drop x k (by rw [HX.out.hlen]; exact hxa)
    clear hca
    obtain ⟨bb, ob, rfl, hcb⟩ := (HY.out.below HB.out).cell (by omega)
    have cy := hcb k hyb
    have by' := HY.out.byt.at k
    have ey := leN_drop y k (by rw [HY.out.hlen]; exact hyb)
    clear hcb
    generalize x[k]?.getD 0 = xk at *
    generalize y[k]?.getD 0 = yk at *
    obtain ⟨t, ht⟩ : ∃ t, t = c + xk + yk := ⟨_, rfl⟩
    have ht0 : 0 ≤ t ∧ t ≤ 511 := by omega
    have HT : Hid (t = c + xk + yk) := ht
    have ht2 : c + xk + yk = t := ht.symm
    have hw0 : IntKind.u32.wrap (c + xk + yk) = t := by rw [IntKind.wrap_u32']; omega
    have hw1 : IntKind.u32.wrap (c + xk) = c + xk := by rw [IntKind.wrap_u32']; omega
    clear ht
    obtain ⟨ht00, ht01⟩ := ht0
    obtain ⟨d, hd⟩ : ∃ d, Int.tmod t 256 = d := ⟨_, rfl⟩
    obtain ⟨q, hq⟩ : ∃ q, Int.tdiv t 256 = q := ⟨_, rfl⟩
    have hdq : 0 ≤ d ∧ d ≤ 255 ∧ 0 ≤ q ∧ q ≤ 1 ∧ t = d + 256 * q := by
     rw [Int.tmod_eq_emod_of_nonneg (by omega)] at hd
     rw [Int.tdiv_eq_ediv_of_nonneg (by omega)] at hq
     omega
    have HDQ : Hid (0 ≤ d ∧ d ≤ 255 ∧ 0 ≤ q ∧ q ≤ 1 ∧ t = d + 256 * q) := hdq
    have HEX : Hid (leN (x.drop k) + leN (y.drop k) + c = t + 256 * (leN (x.drop (k + 1)) + leN (y.drop (k + 1)))) := by have h := HT.out; unfold Hid; omega
    clear ex ey
    obtain ⟨hd0, hd1, hq0, hq1, -⟩ := hdq
    go_wp2_with (at_builtin; refine wpList_append_own _ rfl (.tmp 44) (.tmp 47) 118 rfl w.heap.size 63 i0 (.int .u32 0) 1 4 Tryz.underlying118 hi hz0 hz1 hz2 rfl (by decide) _ k (List.map (Value.int .u32) z) rfl (HO.out.alloc _) ⟨wr.heap.size, 0, none⟩ 1 1 [.int .u32 d] rfl rfl (fun j u hu => one_news32 wr _ _ j u hu) (by intro u hu; simp at hu; rw [hu]; rfl) (by unfold maxLen; omega) (by omega) (by have := HB.out.size; simp; omega) ?_)
    intro v' w1 hown hg _
    have HO' : Hid (w1.ownsRow w.heap.size 63 1 v' (k + 1) (List.map (Value.int .u32) (z ++ [d]))) := by unfold Hid; rw [List.map_append]; exact hown
    have HB' : Hid (Below w.heap.size w w1) := (HB.out.alloc HB.out.size _).grown hg (by have := HB.out.size; simp; omega) (fun j hj => ((HO.out.lt j hj).1))
    have HS' : Hid (leN (z ++ [d]) + 256 ^ (k + 1) * (q + leN (x.drop (k + 1)) + leN (y.drop (k + 1))) = leN x + leN y) := plus_step HS.out HZL.out HEX.out HDQ.out.2.2.2.2
    have HZL' : Hid ((z ++ [d]).length = k + 1) := by unfold Hid; rw [List.length_append, HZL.out]; rfl
    have HZB' : Hid (Byt (z ++ [d])) := HZB.out.app (Byt.cons hd0 hd1 Byt.nil)
    have hend : max la lb < k + 1 → k + 1 ≤ max la lb + 1 ∧ (k + 1 = max la lb + 1 → q = 0 ∨ k < la ∨ k < lb) := by
     intro _
     have := HDQ.out
     have := HT.out
     omega
    have HEnd' : Hid (max la lb < k + 1 → q = 0) := by
     intro _
     have := HDQ.out
     have h5 := HT.out
     omega
    clear hend hown hg HO HB HS HZL HZB HDQ HEX HT
    go_wp2
    go_roundw
    case rel => exact ⟨k + 1, v', q, z ++ [d], by omega, by go_num, rfl, rfl, hq0, hq1, HEnd', HZL', HZB', HS', HO', HB'⟩
    case measure => simp [intOf]; omega
   ·have ga : (k : Int) < la := by omega
    have gb : ¬ (k : Int) < lb := by omega
    obtain ⟨ba, oa, rfl, hca⟩ := (HX.out.below HB.out).cell (by omega)
    have cx := hca k hxa
    have bx := HX.out.byt.at k
    have ex := leN_drop x k (by rw [HX.out.hlen]; exact hxa)
    clear hca
    have ey := leN_dropN y k (by rw [HY.out.hlen]; omega)
    have ey' := leN_dropN y (k + 1) (by rw [HY.out.hlen]; omega)
    generalize x[k]?.getD 0 = xk at *
    obtain ⟨t, ht⟩ : ∃ t, t = c + xk := ⟨_, rfl⟩
    have ht0 : 0 ≤ t ∧ t ≤ 511 := by omega
    have HT : Hid (t = c + xk) := ht
    have ht2 : c + xk = t := ht.symm
    have hw0 : IntKind.u32.wrap (c + xk) = t := by rw [IntKind.wrap_u32']; omega
    clear ht
    obtain ⟨ht00, ht01⟩ := ht0
    obtain ⟨d, hd⟩ : ∃ d, Int.tmod t 256 = d := ⟨_, rfl⟩
    obtain ⟨q, hq⟩ : ∃ q, Int.tdiv t 256 = q := ⟨_, rfl⟩
    have hdq : 0 ≤ d ∧ d ≤ 255 ∧ 0 ≤ q ∧ q ≤ 1 ∧ t = d + 256 * q := by
     rw [Int.tmod_eq_emod_of_nonneg (by omega)] at hd
     rw [Int.tdiv_eq_ediv_of_nonneg (by omega)] at hq
     omega
    have HDQ : Hid (0 ≤ d ∧ d ≤ 255 ∧ 0 ≤ q ∧ q ≤ 1 ∧ t = d + 256 * q) := hdq
    have HEX : Hid (leN (x.drop k) + leN (y.drop k) + c = t + 256 * (leN (x.drop (k + 1)) + leN (y.drop (k + 1)))) := by have h := HT.out; unfold Hid; omega
    clear ex ey ey'
    obtain ⟨hd0, hd1, hq0, hq1, -⟩ := hdq
    go_wp2_with (at_builtin; refine wpList_append_own _ rfl (.tmp 44) (.tmp 47) 118 rfl w.heap.size 63 i0 (.int .u32 0) 1 4 Tryz.underlying118 hi hz0 hz1 hz2 rfl (by decide) _ k (List.map (Value.int .u32) z) rfl (HO.out.alloc _) ⟨wr.heap.size, 0, none⟩ 1 1 [.int .u32 d] rfl rfl (fun j u hu => one_news32 wr _ _ j u hu) (by intro u hu; simp at hu; rw [hu]; rfl) (by unfold maxLen; omega) (by omega) (by have := HB.out.size; simp; omega) ?_)
    intro v' w1 hown hg _
    have HO' : Hid (w1.ownsRow w.heap.size 63 1 v' (k + 1) (List.map (Value.int .u32) (z ++ [d]))) := by unfold Hid; rw [List.map_append]; exact hown
    have HB' : Hid (Below w.heap.size w w1) := (HB.out.alloc HB.out.size _).grown hg (by have := HB.out.size; simp; omega) (fun j hj => ((HO.out.lt j hj).1))
    have HS' : Hid (leN (z ++ [d]) + 256 ^ (k + 1) * (q + leN (x.drop (k + 1)) + leN (y.drop (k + 1))) = leN x + leN y) := plus_step HS.out HZL.out HEX.out HDQ.out.2.2.2.2
    have HZL' : Hid ((z ++ [d]).length = k + 1) := by unfold Hid; rw [List.length_append, HZL.out]; rfl
    have HZB' : Hid (Byt (z ++ [d])) := HZB.out.app (Byt.cons hd0 hd1 Byt.nil)
    have hend : max la lb < k + 1 → k + 1 ≤ max la lb + 1 ∧ (k + 1 = max la lb + 1 → q = 0 ∨ k < la ∨ k < lb) := by
     intro _
     have := HDQ.out
     have := HT.out
     omega
    have HEnd' : Hid (max la lb < k + 1 → q = 0) := by
     intro _
     have := HDQ.out
     have h5 := HT.out
     omega
    clear hend hown hg HO HB HS HZL HZB HDQ HEX HT
    go_wp2
    go_roundw
    case rel => exact ⟨k + 1, v', q, z ++ [d], by omega, by go_num, rfl, rfl, hq0, hq1, HEnd', HZL', HZB', HS', HO', HB'⟩
    case measure => simp [intOf]; omega
  ·by_cases hyb : k < lb
   ·have ga : ¬ (k : Int) < la := by omega
    have gb : (k : Int) < lb := by omega
    have ex := leN_dropN x k (by rw [HX.out.hlen]; omega)
    have ex' := leN_dropN x (k + 1) (by rw [HX.out.hlen]; omega)
    obtain ⟨bb, ob, rfl, hcb⟩ := (HY.out.below HB.out).cell (by omega)
    have cy := hcb k hyb
    have by' := HY.out.byt.at k
    have ey := leN_drop y k (by rw [HY.out.hlen]; exact hyb)
    clear hcb
    generalize y[k]?.getD 0 = yk at *
    obtain ⟨t, ht⟩ : ∃ t, t = c + yk := ⟨_, rfl⟩
    have ht0 : 0 ≤ t ∧ t ≤ 511 := by omega
    have HT : Hid (t = c + yk) := ht
    have ht2 : c + yk = t := ht.symm
    have hw0 : IntKind.u32.wrap (c + yk) = t := by rw [IntKind.wrap_u32']; omega
    clear ht
    obtain ⟨ht00, ht01⟩ := ht0
    obtain ⟨d, hd⟩ : ∃ d, Int.tmod t 256 = d := ⟨_, rfl⟩
    obtain ⟨q, hq⟩ : ∃ q, Int.tdiv t 256 = q := ⟨_, rfl⟩
    have hdq : 0 ≤ d ∧ d ≤ 255 ∧ 0 ≤ q ∧ q ≤ 1 ∧ t = d + 256 * q := by
     rw [Int.tmod_eq_emod_of_nonneg (by omega)] at hd
     rw [Int.tdiv_eq_ediv_of_nonneg (by omega)] at hq
     omega
    have HDQ : Hid (0 ≤ d ∧ d ≤ 255 ∧ 0 ≤ q ∧ q ≤ 1 ∧ t = d + 256 * q) := hdq
    have HEX : Hid (leN (x.drop k) + leN (y.drop k) + c = t + 256 * (leN (x.drop (k + 1)) + leN (y.drop (k + 1)))) := by have h := HT.out; unfold Hid; omega
    clear ex ey ex'
    obtain ⟨hd0, hd1, hq0, hq1, -⟩ := hdq
    go_wp2_with (at_builtin; refine wpList_append_own _ rfl (.tmp 44) (.tmp 47) 118 rfl w.heap.size 63 i0 (.int .u32 0) 1 4 Tryz.underlying118 hi hz0 hz1 hz2 rfl (by decide) _ k (List.map (Value.int .u32) z) rfl (HO.out.alloc _) ⟨wr.heap.size, 0, none⟩ 1 1 [.int .u32 d] rfl rfl (fun j u hu => one_news32 wr _ _ j u hu) (by intro u hu; simp at hu; rw [hu]; rfl) (by unfold maxLen; omega) (by omega) (by have := HB.out.size; simp; omega) ?_)
    intro v' w1 hown hg _
    have HO' : Hid (w1.ownsRow w.heap.size 63 1 v' (k + 1) (List.map (Value.int .u32) (z ++ [d]))) := by unfold Hid; rw [List.map_append]; exact hown
    have HB' : Hid (Below w.heap.size w w1) := (HB.out.alloc HB.out.size _).grown hg (by have := HB.out.size; simp; omega) (fun j hj => ((HO.out.lt j hj).1))
    have HS' : Hid (leN (z ++ [d]) + 256 ^ (k + 1) * (q + leN (x.drop (k + 1)) + leN (y.drop (k + 1))) = leN x + leN y) := plus_step HS.out HZL.out HEX.out HDQ.out.2.2.2.2
    have HZL' : Hid ((z ++ [d]).length = k + 1) := by unfold Hid; rw [List.length_append, HZL.out]; rfl
    have HZB' : Hid (Byt (z ++ [d])) := HZB.out.app (Byt.cons hd0 hd1 Byt.nil)
    have hend : max la lb < k + 1 → k + 1 ≤ max la lb + 1 ∧ (k + 1 = max la lb + 1 → q = 0 ∨ k < la ∨ k < lb) := by
     intro _
     have := HDQ.out
     have := HT.out
     omega
    have HEnd' : Hid (max la lb < k + 1 → q = 0) := by
     intro _
     have := HDQ.out
     have h5 := HT.out
     omega
    clear hend hown hg HO HB HS HZL HZB HDQ HEX HT
    go_wp2
    go_roundw
    case rel => exact ⟨k + 1, v', q, z ++ [d], by omega, by go_num, rfl, rfl, hq0, hq1, HEnd', HZL', HZB', HS', HO', HB'⟩
    case measure => simp [intOf]; omega
   ·by_cases hcc : c = 0
    ·have HZ' : Hid (leN z = leN x + leN y) := by
      have h := HS.out
      rw [leN_dropN x k (by rw [HX.out.hlen]; omega), leN_dropN y k (by rw [HY.out.hlen]; omega), hcc] at h
      unfold Hid
      simpa using h
     subst hcc
     have ga : ¬ (k : Int) < la := by omega
     have gb : ¬ (k : Int) < lb := by omega
     clear HS HEnd
     go_wp2
     go_ret
     exact ⟨_, rfl, k, hk, z, HZB, HZ', HO, HB.out⟩
    ·have hkk : k ≤ max la lb := by
      have := HEnd.out
      omega
     have ga : ¬ (k : Int) < la := by omega
     have gb : ¬ (k : Int) < lb := by omega
     have gc : 0 < c := by omega
     have ex := leN_dropN x k (by rw [HX.out.hlen]; omega)
     have ex' := leN_dropN x (k + 1) (by rw [HX.out.hlen]; omega)
     have ey := leN_dropN y k (by rw [HY.out.hlen]; omega)
     have ey' := leN_dropN y (k + 1) (by rw [HY.out.hlen]; omega)
     have HT : Hid (c = c) := rfl
     obtain ⟨d, hd⟩ : ∃ d, Int.tmod c 256 = d := ⟨_, rfl⟩
     obtain ⟨q, hq⟩ : ∃ q, Int.tdiv c 256 = q := ⟨_, rfl⟩
     have hdq : 0 ≤ d ∧ d ≤ 255 ∧ 0 ≤ q ∧ q ≤ 1 ∧ c = d + 256 * q := by
      rw [Int.tmod_eq_emod_of_nonneg (by omega)] at hd
      rw [Int.tdiv_eq_ediv_of_nonneg (by omega)] at hq
      omega
     have HDQ : Hid (0 ≤ d ∧ d ≤ 255 ∧ 0 ≤ q ∧ q ≤ 1 ∧ c = d + 256 * q) := hdq
     have HEX : Hid (leN (x.drop k) + leN (y.drop k) + c = c + 256 * (leN (x.drop (k + 1)) + leN (y.drop (k + 1)))) := by have h := HT.out; unfold Hid; omega
     clear ex ey ex' ey'
     obtain ⟨hd0, hd1, hq0, hq1, -⟩ := hdq
     go_wp2_with (at_builtin; refine wpList_append_own _ rfl (.tmp 44) (.tmp 47) 118 rfl w.heap.size 63 i0 (.int .u32 0) 1 4 Tryz.underlying118 hi hz0 hz1 hz2 rfl (by decide) _ k (List.map (Value.int .u32) z) rfl (HO.out.alloc _) ⟨wr.heap.size, 0, none⟩ 1 1 [.int .u32 d] rfl rfl (fun j u hu => one_news32 wr _ _ j u hu) (by intro u hu; simp at hu; rw [hu]; rfl) (by unfold maxLen; omega) (by omega) (by have := HB.out.size; simp; omega) ?_)
     intro v' w1 hown hg _
     have HO' : Hid (w1.ownsRow w.heap.size 63 1 v' (k + 1) (List.map (Value.int .u32) (z ++ [d]))) := by unfold Hid; rw [List.map_append]; exact hown
     have HB' : Hid (Below w.heap.size w w1) := (HB.out.alloc HB.out.size _).grown hg (by have := HB.out.size; simp; omega) (fun j hj => ((HO.out.lt j hj).1))
     have HS' : Hid (leN (z ++ [d]) + 256 ^ (k + 1) * (q + leN (x.drop (k + 1)) + leN (y.drop (k + 1))) = leN x + leN y) := plus_step HS.out HZL.out HEX.out HDQ.out.2.2.2.2
     have HZL' : Hid ((z ++ [d]).length = k + 1) := by unfold Hid; rw [List.length_append, HZL.out]; rfl
     have HZB' : Hid (Byt (z ++ [d])) := HZB.out.app (Byt.cons hd0 hd1 Byt.nil)
     have hend : max la lb < k + 1 → k + 1 ≤ max la lb + 1 ∧ (k + 1 = max la lb + 1 → q = 0 ∨ k < la ∨ k < lb) := by
      intro _
      have := HDQ.out
      have := HT.out
      omega
     have HEnd' : Hid (max la lb < k + 1 → q = 0) := by
      intro _
      have := HDQ.out
      have h5 := HT.out
      omega
     clear hend hown hg HO HB HS HZL HZB HDQ HEX HT
     go_wp2
     go_roundw
     case rel => exact ⟨k + 1, v', q, z ++ [d], by omega, by go_num, rfl, rfl, hq0, hq1, HEnd', HZL', HZB', HS', HO', HB'⟩
     case measure => simp [intOf]; omega
end Go.Proofs.YtmibjgkakolhiaaGreatDoor
/-
 What the reference's times does. No statement of the seat is proved here.
-/
namespace Go.Proofs.YtmibjgkakolhiaaGreatDoor
open Go.RowKit

set_option maxRecDepth 8000 in
theorem leN_set : ∀ (l : List Int) (i : Nat) (v : Int) (h : i < l.length), leN (l.set i v) = leN l + 256 ^ i * (v - l[i])
 | x :: l, 0, v, _ => by simp [leN]; omega
 | x :: l, i + 1, v, h => by
  rw [List.set_cons_succ, leN, leN, leN_set l i v (by simpa using h), Int.pow_succ, List.getElem_cons_succ, Int.mul_add, Int.mul_comm (256 ^ i) 256, Int.mul_assoc]
  omega
set_option maxRecDepth 8000 in
theorem mul255 (a b : Int) (ha : 0 ≤ a ∧ a ≤ 255) (hb : 0 ≤ b ∧ b ≤ 255) : 0 ≤ a * b ∧ a * b ≤ 65025 :=
 ⟨Int.mul_nonneg ha.1 hb.1, Int.le_trans (Int.mul_le_mul (c := 255) (d := 255) ha.2 hb.2 hb.1 (by decide)) (by decide)⟩
set_option maxRecDepth 8000 in
theorem mul_lt {a b A B : Int} (ha : 0 ≤ a) (hA : a < A) (hb : 0 ≤ b) (hB : b < B) : a * b < A * B :=
 Int.lt_of_le_of_lt (Int.mul_le_mul_of_nonneg_left (Int.le_of_lt hB) ha) (Int.mul_lt_mul_of_pos_right hA (Int.lt_of_le_of_lt hb hB))
set_option maxRecDepth 8000 in
theorem end_zero {L E q V : Int} (h : L + E * q = V) (hL : 0 ≤ L) (hq : 0 ≤ q) (hE : 0 < E) (hV : V < E) : q = 0 := by
 apply Classical.byContradiction
 intro hn
 have h1 : E * 1 ≤ E * q := Int.mul_le_mul_of_nonneg_left (by omega) (by omega)
 omega
set_option maxRecDepth 8000 in
theorem times_step {z y : List Int} {j m : Nat} {c xj ym d q V : Int} (hs : leN z + 256 ^ (j + m) * (c + xj * leN (y.drop m)) = V) (hz : j + m < z.length) (hy : leN (y.drop m) = ym + 256 * leN (y.drop (m + 1)))
  (ht : c + z[j + m] + xj * ym = d + 256 * q) : leN (z.set (j + m) d) + 256 ^ (j + m + 1) * (q + xj * leN (y.drop (m + 1))) = V := by
 rw [leN_set z (j + m) d hz, ← hs, Int.pow_succ, hy]
 generalize leN (y.drop (m + 1)) = Y at *
 generalize (256 : Int) ^ (j + m) = E at *
 generalize z[j + m] = zv at *
 have key : d - zv + 256 * (q + xj * Y) = c + xj * (ym + 256 * Y) := by
  rw [Int.mul_add xj ym, Int.mul_left_comm xj 256 Y]
  omega
 rw [← key, Int.mul_add E (d - zv), Int.mul_assoc E 256]
 omega
set_option maxRecDepth 8000 in
theorem made_zero32 (n : Nat) : (madeCells (Value.int .u32 0).cells (n * 1)).toList = List.map (Value.int .u32) (List.replicate n 0) := by
 have := toList_madeCells_one (.int .u32 0) n
 rw [List.map_replicate, ← this]
 simp [Value.cells]
set_option maxRecDepth 4000 in
set_option maxHeartbeats 8000000 in
theorem times_c (a : Option Addr) (la ca : Nat) (x : List Int) (b : Option Addr) (lb cb : Nat) (y : List Int) (w : World) (hx : Ru w a la ca x) (hy : Ru w b lb cb y) (hm : la ≤ 8000000) (hm2 : lb ≤ 8000000) :
  Calls Tryz.prog 83 #[.slice a la ca, .slice b lb cb] w fun e w' => ∃ v z, e = .returned v ∧ Hid (Byt z) ∧ Hid (leN z = leN x * leN y) ∧ Hid (w'.ownsRow w.heap.size 63 1 v (la + lb + 1) (List.map (Value.int .u32) z)) ∧ Below w.heap.size w w' := by
 obtain ⟨i0, hi, hz0, hz1, hz2⟩ := info_parts infoU
 have HX : Hid (Ru w a la ca x) := hx
 have HY : Hid (Ru w b lb cb y) := hy
 clear hx hy
 obtain ⟨N, hN⟩ : ∃ N : Nat, N = la + lb + 1 := ⟨_, rfl⟩
 have hNi : (la : Int) + (lb : Int) + 1 = (N : Int) := by omega
 rw [← hN]
 have HN : Hid (N = la + lb + 1) := hN
 have hNb : N ≤ 16000001 := by omega
 clear hN
 go_enter Tryz.func83, Tryz.ntmps83
 go_wp2_with (at_make; refine wpList_make_full _ rfl _ _ 118 rfl w.heap.size 63 i0 (.int .u32 0) 1 Tryz.underlying118 hi hz0 hz1 _ _ _ _ N rfl rfl rfl rfl (by rw [hz2]; omega) (by unfold maxLen; omega) (Nat.le_refl _) ?_)
 intro W1 hown hgrow
 have hb1 : Below w.heap.size w W1 := (Below.refl _ _).grown hgrow (Nat.le_refl _) (fun k h => by cases h)
 obtain ⟨g, hg0⟩ : ∃ g, g = w.heap.size := ⟨_, rfl⟩
 have HO : Hid (W1.ownsRow w.heap.size 63 1 (.slice (some ⟨g, 0, none⟩) N N) N (List.map (Value.int .u32) (List.replicate N 0))) := by unfold Hid; rw [← made_zero32, hg0]; simpa [Value.cells] using hown
 have hg : w.heap.size ≤ g := by omega
 have HB : Hid (Below w.heap.size w W1) := hb1
 clear hown hgrow hb1
 go_wp2
 rw [← hg0]
 clear hg0
 go_loopw [6] (fun i wr => ∃ (j : Nat) (z : List Int), j ≤ la ∧ i = .int .i64 j ∧ Hid (Byt z) ∧ Hid (leN z = leN (x.take j) * leN y) ∧ Hid (wr.ownsRow w.heap.size 63 1 (.slice (some ⟨g, 0, none⟩) N N) N (List.map (Value.int .u32) z)) ∧ Hid (Below w.heap.size w wr)) (fun i _ => la - (intOf i).toNat)
 case atStart => exact ⟨0, List.replicate N 0, Nat.zero_le _, rfl, byt_zero N, by unfold Hid; rw [leN_zero, List.take_zero, leN, Int.zero_mul], HO, HB⟩
 case round =>
  clear HO HB
  obtain ⟨j, z, hj, rfl, HZB, HZ, HO, HB⟩ := hrel
  by_cases hja : j < la
  ·have ga : (j : Int) < la := by omega
   have hjt : (j : Int).toNat = j := by omega
   have hxl : j < x.length := by rw [HX.out.hlen]; exact hja
   obtain ⟨xj, hxj0⟩ : ∃ v, v = x[j]?.getD 0 := ⟨_, rfl⟩
   have hxj : 0 ≤ xj ∧ xj ≤ 255 := by rw [hxj0]; exact HX.out.byt.at j
   have HXJ : Hid (x[j]?.getD 0 = xj) := hxj0.symm
   obtain ⟨V, hV⟩ : ∃ V, V = leN (x.take (j + 1)) * leN y := ⟨_, rfl⟩
   have HTk : Hid (leN (x.take (j + 1)) = leN (x.take j) + 256 ^ j * xj) := by
    unfold Hid
    rw [List.take_succ_eq_append_getElem hxl, leN_snoc, List.length_take, Nat.min_eq_left (by omega), hxj0, List.getElem?_eq_getElem hxl]
    rfl
   have HV : Hid (V = leN (x.take (j + 1)) * leN y) := hV
   have HVB : Hid (V < 256 ^ (j + 1 + lb)) := by
    have h1 := leN_w (x.take (j + 1)) (HX.out.byt.take _)
    have h2 := leN_w y HY.out.byt
    rw [List.length_take, Nat.min_eq_left (by omega)] at h1
    rw [HY.out.hlen] at h2
    unfold Hid
    rw [hV, Int.pow_add]
    exact mul_lt h1.1 h1.2 h2.1 h2.2
   have HS : Hid (leN z + 256 ^ (j + 0) * (0 + xj * leN (y.drop 0)) = V) := by
    unfold Hid
    rw [hV, HTk.out, HZ.out, Nat.add_zero, List.drop_zero, Int.zero_add, Int.add_mul, Int.mul_assoc]
   clear hV hxj0 HTk
   go_wp2
   go_loopw [7, 8] (fun co ko wr => ∃ (m : Nat) (c : Int) (z : List Int), m ≤ lb + 1 ∧ ko = .int .i64 m ∧ co = .int .u32 c ∧ 0 ≤ c ∧ c ≤ 255 ∧ Hid (lb < m → c = 0) ∧ Hid (Byt z) ∧ Hid (leN z + 256 ^ (j + m) * (c + xj * leN (y.drop m)) = V) ∧ Hid (wr.ownsRow w.heap.size 63 1 (.slice (some ⟨g, 0, none⟩) N N) N (List.map (Value.int .u32) z)) ∧ Hid (Below w.heap.size w wr)) (fun _ ko _ => lb + 2 - (intOf ko).toNat)
   case atStart => exact ⟨0, 0, z, Nat.zero_le _, rfl, rfl, by decide, by decide, fun _ => rfl, HZB, HS, HO, HB⟩
   case round =>
    clear HO HB HZB HZ HS z
    obtain ⟨m, c, z, hmk, rfl, rfl, hc0, hc1, HEnd, HZB, HS, HO, HB⟩ := hrel
    by_cases hmb : m < lb
    ·have gb : (m : Int) < lb := by omega
     have hml : m ≤ lb := by have := HEnd.out; omega
     have hjN : j + m < N := by have := HN.out; omega
     have hjNi : (j : Int) + (m : Int) < N := by omega
     have htn : ((j : Int) + (m : Int)).toNat = j + m := by omega
     have cz := World.ownsRow.cellAt HO.out (j + m) (by omega)
     have fz := World.ownsRow.frozenAt HO.out (j + m)
     have hzl : j + m < z.length := by have := HO.out.1; rw [List.length_map] at this; omega
     rw [List.getElem?_map, List.getElem?_eq_getElem hzl, Option.map_some] at cz
     have bz := HZB.out.get hzl
     obtain ⟨zv, hzv⟩ : ∃ v, v = z[j + m] := ⟨_, rfl⟩
     rw [← hzv] at cz bz
     have HZV : Hid (zv = z[j + m]) := hzv
     clear hzv
     obtain ⟨bb, ob, rfl, hcb⟩ := (HY.out.below HB.out).cell (by omega)
     have cy := hcb m hmb
     have by' := HY.out.byt.at m
     have ey := leN_drop y m (by rw [HY.out.hlen]; exact hmb)
     have HEY : Hid (leN (y.drop m) = y[m]?.getD 0 + 256 * leN (y.drop (m + 1))) := ey
     clear hcb ey
     obtain ⟨ba, oa, rfl, hca⟩ := (HX.out.below HB.out).cell (by omega)
     have cx := hca j hja
     rw [HXJ.out] at cx
     clear hca
     generalize y[m]?.getD 0 = ym at *
     obtain ⟨pm, hpm⟩ : ∃ p, p = xj * ym := ⟨_, rfl⟩
     have hpb : 0 ≤ pm ∧ pm ≤ 65025 := by rw [hpm]; exact mul255 xj ym hxj by'
     have hwm : IntKind.u32.wrap (xj * ym) = pm := by rw [← hpm, IntKind.wrap_u32']; omega
     have HPM : Hid (pm = xj * ym) := hpm
     clear hpm
     obtain ⟨hb0, hb1⟩ := bz
     obtain ⟨hp0, hp1⟩ := hpb
     have hw1 : IntKind.u32.wrap (c + zv) = c + zv := by rw [IntKind.wrap_u32']; omega
     have hw2 : IntKind.u32.wrap (c + zv + pm) = c + zv + pm := by rw [IntKind.wrap_u32']; omega
     obtain ⟨t, ht⟩ : ∃ t, t = c + zv + pm := ⟨_, rfl⟩
     have ht2 : c + zv + pm = t := ht.symm
     have htb : 0 ≤ t ∧ t ≤ 65535 := by omega
     have HT : Hid (t = c + zv + pm) := ht
     clear ht
     obtain ⟨ht0, ht1⟩ := htb
     obtain ⟨d, hd⟩ : ∃ d, Int.tmod t 256 = d := ⟨_, rfl⟩
     obtain ⟨q, hq⟩ : ∃ q, Int.tdiv t 256 = q := ⟨_, rfl⟩
     have hdq : 0 ≤ d ∧ d ≤ 255 ∧ 0 ≤ q ∧ q ≤ 255 ∧ t = d + 256 * q := by
      rw [Int.tmod_eq_emod_of_nonneg (by omega)] at hd
      rw [Int.tdiv_eq_ediv_of_nonneg (by omega)] at hq
      omega
     have HDQ : Hid (0 ≤ d ∧ d ≤ 255 ∧ 0 ≤ q ∧ q ≤ 255 ∧ t = d + 256 * q) := hdq
     obtain ⟨hd0, hd1, hq0, hq1, -⟩ := hdq
     have HS' : Hid (leN (z.set (j + m) d) + 256 ^ (j + m + 1) * (q + xj * leN (y.drop (m + 1))) = V) := by
      refine times_step (c := c) (ym := ym) HS.out hzl HEY.out ?_
      have h1 := HT.out
      have h2 := HDQ.out.2.2.2.2
      have h3 := HPM.out
      have h4 := HZV.out
      rw [← h4, ← h3]
      omega
     have HZB' : Hid (Byt (z.set (j + m) d)) := byt_set HZB.out (j + m) hd0 hd1
     have HEnd' : Hid (lb < m + 1 → q = 0) := by
      intro hlm
      omega
     clear HT HDQ HPM HEY HZV
     go_upto_region 9 with fail
     have HOn : Hid ((wr.setCell ⟨g, j + m, none⟩ (.int .u32 d)).ownsRow w.heap.size 63 1 (.slice (some ⟨g, 0, none⟩) N N) N (List.map (Value.int .u32) (z.set (j + m) d))) := by unfold Hid; rw [List.map_set]; exact (HO.out.stored (j + m) _).1
     go_upto_region 11 with fail
     go_quiet (fail)
     have HOq : Hid (((wr.drewN nq).setCell ⟨g, j + m, none⟩ (.int .u32 d)).ownsRow w.heap.size 63 1 (.slice (some ⟨g, 0, none⟩) N N) N (List.map (Value.int .u32) (z.set (j + m) d))) := by unfold Hid; rw [List.map_set]; exact ((own_later HO.out (belowN (Below.refl _ _) nq)).stored (j + m) _).1
     have HBq : Hid (Below w.heap.size w ((wr.drewN nq).setCell ⟨g, j + m, none⟩ (.int .u32 d))) := (belowN HB.out nq).setCell (p := ⟨g, j + m, none⟩) hg _
     clear HOn HO HB HS HZB HEnd
     go_wp2
     go_roundw
     case rel => exact ⟨m + 1, q, z.set (j + m) d, by omega, by go_num, rfl, hq0, hq1, HEnd', HZB', HS', HOq, HBq⟩
     case measure => simp [intOf]; omega
    ·by_cases hcc : c = 0
     ·have HZ' : Hid (leN z = leN (x.take (j + 1)) * leN y) := by
       have h := HS.out
       rw [leN_dropN y m (by rw [HY.out.hlen]; omega), hcc, Int.mul_zero, Int.add_zero, Int.mul_zero, Int.add_zero] at h
       unfold Hid
       rw [h, HV.out]
      subst hcc
      have gb : ¬ (m : Int) < lb := by omega
      clear HS HEnd
      go_wp2
      exact ⟨⟨j + 1, z, by omega, by go_num, HZB, HZ', HO, HB⟩, by simp [intOf]; omega⟩
     ·have gb : ¬ (m : Int) < lb := by omega
      have gc : 0 < c := by omega
      have hml : m ≤ lb := by have := HEnd.out; omega
      have hjN : j + m < N := by have := HN.out; omega
      have hjNi : (j : Int) + (m : Int) < N := by omega
      have htn : ((j : Int) + (m : Int)).toNat = j + m := by omega
      have cz := World.ownsRow.cellAt HO.out (j + m) (by omega)
      have fz := World.ownsRow.frozenAt HO.out (j + m)
      have hzl : j + m < z.length := by have := HO.out.1; rw [List.length_map] at this; omega
      rw [List.getElem?_map, List.getElem?_eq_getElem hzl, Option.map_some] at cz
      have bz := HZB.out.get hzl
      obtain ⟨zv, hzv⟩ : ∃ v, v = z[j + m] := ⟨_, rfl⟩
      rw [← hzv] at cz bz
      have HZV : Hid (zv = z[j + m]) := hzv
      clear hzv
      have HEY : Hid (leN (y.drop m) = 0 + 256 * leN (y.drop (m + 1))) := by unfold Hid; rw [leN_dropN y m (by rw [HY.out.hlen]; omega), leN_dropN y (m + 1) (by rw [HY.out.hlen]; omega)]; rfl
      have HPM : Hid (0 = xj * 0) := by unfold Hid; rw [Int.mul_zero]
      obtain ⟨hb0, hb1⟩ := bz
      have hw1 : IntKind.u32.wrap (c + zv) = c + zv := by rw [IntKind.wrap_u32']; omega
      obtain ⟨t, ht⟩ : ∃ t, t = c + zv := ⟨_, rfl⟩
      have ht2 : c + zv = t := ht.symm
      have htb : 0 ≤ t ∧ t ≤ 65535 := by omega
      have HT : Hid (t = c + zv) := ht
      clear ht
      obtain ⟨ht0, ht1⟩ := htb
      obtain ⟨d, hd⟩ : ∃ d, Int.tmod t 256 = d := ⟨_, rfl⟩
      obtain ⟨q, hq⟩ : ∃ q, Int.tdiv t 256 = q := ⟨_, rfl⟩
      have hdq : 0 ≤ d ∧ d ≤ 255 ∧ 0 ≤ q ∧ q ≤ 255 ∧ t = d + 256 * q := by
       rw [Int.tmod_eq_emod_of_nonneg (by omega)] at hd
       rw [Int.tdiv_eq_ediv_of_nonneg (by omega)] at hq
       omega
      have HDQ : Hid (0 ≤ d ∧ d ≤ 255 ∧ 0 ≤ q ∧ q ≤ 255 ∧ t = d + 256 * q) := hdq
      obtain ⟨hd0, hd1, hq0, hq1, -⟩ := hdq
      have HS' : Hid (leN (z.set (j + m) d) + 256 ^ (j + m + 1) * (q + xj * leN (y.drop (m + 1))) = V) := by
       refine times_step (c := c) (ym := 0) HS.out hzl HEY.out ?_
       have h1 := HT.out
       have h2 := HDQ.out.2.2.2.2
       have h3 := HPM.out
       have h4 := HZV.out
       rw [← h4, ← h3]
       omega
      have HZB' : Hid (Byt (z.set (j + m) d)) := byt_set HZB.out (j + m) hd0 hd1
      have HEnd' : Hid (lb < m + 1 → q = 0) := by
       intro hlm
       have em : m = lb := by omega
       have h1 := HS'.out
       rw [leN_dropN y (m + 1) (by rw [HY.out.hlen]; omega), Int.mul_zero, Int.add_zero] at h1
       refine end_zero h1 (leN_w _ HZB'.out).1 hq0 (pow_pos _) ?_
       have h2 := HVB.out
       rw [em, show j + lb + 1 = j + 1 + lb by omega]
       exact h2
      clear HT HDQ HPM HEY HZV
      go_upto_region 9 with fail
      have HOn : Hid ((wr.setCell ⟨g, j + m, none⟩ (.int .u32 d)).ownsRow w.heap.size 63 1 (.slice (some ⟨g, 0, none⟩) N N) N (List.map (Value.int .u32) (z.set (j + m) d))) := by unfold Hid; rw [List.map_set]; exact (HO.out.stored (j + m) _).1
      have HBn : Hid (Below w.heap.size w (wr.setCell ⟨g, j + m, none⟩ (.int .u32 d))) := HB.out.setCell (p := ⟨g, j + m, none⟩) hg _
      clear HO HB HS HZB HEnd
      go_wp2
      go_roundw
      case rel => exact ⟨m + 1, q, z.set (j + m) d, by omega, by go_num, rfl, hq0, hq1, HEnd', HZB', HS', HOn, HBn⟩
      case measure => simp [intOf]; omega
  ·have e : j = la := by omega
   subst e
   have e2 : x.take j = x := List.take_of_length_le (by rw [HX.out.hlen]; exact Nat.le_refl _)
   rw [e2] at HZ
   go_wp2
   go_ret
   exact ⟨_, z, rfl, HZB, HZ, HO, HB.out⟩
end Go.Proofs.YtmibjgkakolhiaaGreatDoor
