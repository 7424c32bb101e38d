/-
  What the reference's plus does. No statement of the seat is proved here.
-/
import Derived.Test.YtjmdgmbkkkoamaaDoorPk27
namespace Go.Proofs.YtjmdgmbkkkoamaaDoor
open Go.RowKit

set_option maxRecDepth 8000 in
theorem plus_step {z x y : List Int} {k : Nat} {c d q t : Int} (hs : leN z + 256 ^ k * (c + leN (x.drop k) + leN (y.drop k)) = leN x + leN y) (hz : z.length = k) (he : leN (x.drop k) + leN (y.drop k) + c = t + 256 * (leN (x.drop (k + 1)) + leN (y.drop (k + 1)))) (ht : t = d + 256 * q) :
    leN (z ++ [d]) + 256 ^ (k + 1) * (q + leN (x.drop (k + 1)) + leN (y.drop (k + 1))) = leN x + leN y := by
  rw [leN_snoc, hz, Int.pow_succ, ← hs]
  generalize leN (x.drop k) = xa at *
  generalize leN (y.drop k) = ya at *
  generalize leN (x.drop (k + 1)) = xb at *
  generalize leN (y.drop (k + 1)) = yb at *
  generalize (256 : Int) ^ k = E at *
  have e : c + xa + ya = d + 256 * (q + xb + yb) := by omega
  rw [e, Int.mul_add E d, Int.mul_assoc E 256]
  omega
set_option maxRecDepth 8000 in
set_option maxHeartbeats 4000000 in
theorem plus_c (a : Option Addr) (la ca : Nat) (x : List Int) (b : Option Addr) (lb cb : Nat) (y : List Int) (w : World) (hx : Ru w a la ca x) (hy : Ru w b lb cb y) (hm : la ≤ 8000000) (hm2 : lb ≤ 8000000) :
    Calls Tryd.prog 52 #[.slice a la ca, .slice b lb cb] w fun e w' => ∃ v n z, e = .returned v ∧ n ≤ max la lb + 1 ∧ Hid (Byt z) ∧ Hid (leN z = leN x + leN y) ∧ Hid (w'.ownsRow w.heap.size 57 1 v n (List.map (Value.int .u32) z)) ∧ Below w.heap.size w w' := by
  obtain ⟨i0, hi, hz0, hz1, hz2⟩ := info_parts infoU
  have HX : Hid (Ru w a la ca x) := hx
  have HY : Hid (Ru w b lb cb y) := hy
  clear hx hy
  go_enter Tryd.func52, Tryd.ntmps52
  go_wp2
  go_loopw [7, 5, 6] (fun i o c wr => ∃ (k : Nat) (v : Value) (cc : Int) (z : List Int), k ≤ max la lb + 1 ∧ i = .int .i64 k ∧ o = v ∧ c = .int .u32 cc ∧ 0 ≤ cc ∧ cc ≤ 1 ∧ Hid (max la lb < k → cc = 0) ∧ Hid (z.length = k) ∧ Hid (Byt z) ∧ Hid (leN z + 256 ^ k * (cc + leN (x.drop k) + leN (y.drop k)) = leN x + leN y) ∧ Hid (wr.ownsRow w.heap.size 57 1 v k (List.map (Value.int .u32) z)) ∧ Hid (Below w.heap.size w wr)) (fun i _ _ _ => max la lb + 2 - (intOf i).toNat)
  case atStart => exact ⟨0, _, 0, [], Nat.zero_le _, rfl, rfl, rfl, by decide, by decide, fun _ => rfl, rfl, Byt.nil, by simp [leN, Hid], World.ownsRow_nil _ _ _ _, Below.refl _ _⟩
  case round =>
    obtain ⟨k, v, c, z, hk, rfl, rfl, rfl, hc0, hc1, HEnd, HZL, HZB, HS, HO, HB⟩ := hrel
    have htn : (k : Int).toNat = k := by omega
    by_cases hxa : k < la
    · by_cases hyb : k < lb
      · have ga : (k : Int) < la := by omega
        have gb : (k : Int) < lb := by omega
        obtain ⟨ba, oa, rfl, hca⟩ := (HX.out.below HB.out).cell (by omega)
        have cx := hca k hxa
        have bx := HX.out.byt.at k
        have ex := leN_drop x k (by rw [HX.out.hlen]; exact hxa)
        clear hca
        obtain ⟨bb, ob, rfl, hcb⟩ := (HY.out.below HB.out).cell (by omega)
        have cy := hcb k hyb
        have by' := HY.out.byt.at k
        have ey := leN_drop y k (by rw [HY.out.hlen]; exact hyb)
        clear hcb
        generalize x[k]?.getD 0 = xk at *
        generalize y[k]?.getD 0 = yk at *
        obtain ⟨t, ht⟩ : ∃ t, t = c + xk + yk := ⟨_, rfl⟩
        have ht0 : 0 ≤ t ∧ t ≤ 511 := by omega
        have HT : Hid (t = c + xk + yk) := ht
        have ht2 : c + xk + yk = t := ht.symm
        have hw0 : IntKind.u32.wrap (c + xk + yk) = t := by rw [IntKind.wrap_u32']; omega
        have hw1 : IntKind.u32.wrap (c + xk) = c + xk := by rw [IntKind.wrap_u32']; omega
        clear ht
        obtain ⟨ht00, ht01⟩ := ht0
        obtain ⟨d, hd⟩ : ∃ d, Int.tmod t 256 = d := ⟨_, rfl⟩
        obtain ⟨q, hq⟩ : ∃ q, Int.tdiv t 256 = q := ⟨_, rfl⟩
        have hdq : 0 ≤ d ∧ d ≤ 255 ∧ 0 ≤ q ∧ q ≤ 1 ∧ t = d + 256 * q := by
          rw [Int.tmod_eq_emod_of_nonneg (by omega)] at hd
          rw [Int.tdiv_eq_ediv_of_nonneg (by omega)] at hq
          omega
        have HDQ : Hid (0 ≤ d ∧ d ≤ 255 ∧ 0 ≤ q ∧ q ≤ 1 ∧ t = d + 256 * q) := hdq
        have HEX : Hid (leN (x.drop k) + leN (y.drop k) + c = t + 256 * (leN (x.drop (k + 1)) + leN (y.drop (k + 1)))) := by have h := HT.out; unfold Hid; omega
        clear ex ey
        obtain ⟨hd0, hd1, hq0, hq1, -⟩ := hdq
        go_wp2_with (at_builtin; refine wpList_append_own _ rfl (.tmp 44) (.tmp 47) 77 rfl w.heap.size 57 i0 (.int .u32 0) 1 4 Tryd.underlying77 hi hz0 hz1 hz2 rfl (by decide) _ k (List.map (Value.int .u32) z) rfl (HO.out.alloc _) ⟨wr.heap.size, 0, none⟩ 1 1 [.int .u32 d] rfl rfl (fun j u hu => one_news32 wr _ _ j u hu) (by intro u hu; simp at hu; rw [hu]; rfl) (by unfold maxLen; omega) (by omega) (by have := HB.out.size; simp; omega) ?_)
        intro v' w1 hown hg _
        have HO' : Hid (w1.ownsRow w.heap.size 57 1 v' (k + 1) (List.map (Value.int .u32) (z ++ [d]))) := by unfold Hid; rw [List.map_append]; exact hown
        have HB' : Hid (Below w.heap.size w w1) := (HB.out.alloc HB.out.size _).grown hg (by have := HB.out.size; simp; omega) (fun j hj => ((HO.out.lt j hj).1))
        have HS' : Hid (leN (z ++ [d]) + 256 ^ (k + 1) * (q + leN (x.drop (k + 1)) + leN (y.drop (k + 1))) = leN x + leN y) := plus_step HS.out HZL.out HEX.out HDQ.out.2.2.2.2
        have HZL' : Hid ((z ++ [d]).length = k + 1) := by unfold Hid; rw [List.length_append, HZL.out]; rfl
        have HZB' : Hid (Byt (z ++ [d])) := HZB.out.app (Byt.cons hd0 hd1 Byt.nil)
        have hend : max la lb < k + 1 → k + 1 ≤ max la lb + 1 ∧ (k + 1 = max la lb + 1 → q = 0 ∨ k < la ∨ k < lb) := by
          intro _
          have := HDQ.out
          have := HT.out
          omega
        have HEnd' : Hid (max la lb < k + 1 → q = 0) := by
          intro _
          have := HDQ.out
          have h5 := HT.out
          omega
        clear hend hown hg HO HB HS HZL HZB HDQ HEX HT
        go_wp2
        go_roundw
        case rel => exact ⟨k + 1, v', q, z ++ [d], by omega, by go_num, rfl, rfl, hq0, hq1, HEnd', HZL', HZB', HS', HO', HB'⟩
        case measure => simp [intOf]; omega
      · have ga : (k : Int) < la := by omega
        have gb : ¬ (k : Int) < lb := by omega
        obtain ⟨ba, oa, rfl, hca⟩ := (HX.out.below HB.out).cell (by omega)
        have cx := hca k hxa
        have bx := HX.out.byt.at k
        have ex := leN_drop x k (by rw [HX.out.hlen]; exact hxa)
        clear hca
        have ey := leN_dropN y k (by rw [HY.out.hlen]; omega)
        have ey' := leN_dropN y (k + 1) (by rw [HY.out.hlen]; omega)
        generalize x[k]?.getD 0 = xk at *
        obtain ⟨t, ht⟩ : ∃ t, t = c + xk := ⟨_, rfl⟩
        have ht0 : 0 ≤ t ∧ t ≤ 511 := by omega
        have HT : Hid (t = c + xk) := ht
        have ht2 : c + xk = t := ht.symm
        have hw0 : IntKind.u32.wrap (c + xk) = t := by rw [IntKind.wrap_u32']; omega
        clear ht
        obtain ⟨ht00, ht01⟩ := ht0
        obtain ⟨d, hd⟩ : ∃ d, Int.tmod t 256 = d := ⟨_, rfl⟩
        obtain ⟨q, hq⟩ : ∃ q, Int.tdiv t 256 = q := ⟨_, rfl⟩
        have hdq : 0 ≤ d ∧ d ≤ 255 ∧ 0 ≤ q ∧ q ≤ 1 ∧ t = d + 256 * q := by
          rw [Int.tmod_eq_emod_of_nonneg (by omega)] at hd
          rw [Int.tdiv_eq_ediv_of_nonneg (by omega)] at hq
          omega
        have HDQ : Hid (0 ≤ d ∧ d ≤ 255 ∧ 0 ≤ q ∧ q ≤ 1 ∧ t = d + 256 * q) := hdq
        have HEX : Hid (leN (x.drop k) + leN (y.drop k) + c = t + 256 * (leN (x.drop (k + 1)) + leN (y.drop (k + 1)))) := by have h := HT.out; unfold Hid; omega
        clear ex ey ey'
        obtain ⟨hd0, hd1, hq0, hq1, -⟩ := hdq
        go_wp2_with (at_builtin; refine wpList_append_own _ rfl (.tmp 44) (.tmp 47) 77 rfl w.heap.size 57 i0 (.int .u32 0) 1 4 Tryd.underlying77 hi hz0 hz1 hz2 rfl (by decide) _ k (List.map (Value.int .u32) z) rfl (HO.out.alloc _) ⟨wr.heap.size, 0, none⟩ 1 1 [.int .u32 d] rfl rfl (fun j u hu => one_news32 wr _ _ j u hu) (by intro u hu; simp at hu; rw [hu]; rfl) (by unfold maxLen; omega) (by omega) (by have := HB.out.size; simp; omega) ?_)
        intro v' w1 hown hg _
        have HO' : Hid (w1.ownsRow w.heap.size 57 1 v' (k + 1) (List.map (Value.int .u32) (z ++ [d]))) := by unfold Hid; rw [List.map_append]; exact hown
        have HB' : Hid (Below w.heap.size w w1) := (HB.out.alloc HB.out.size _).grown hg (by have := HB.out.size; simp; omega) (fun j hj => ((HO.out.lt j hj).1))
        have HS' : Hid (leN (z ++ [d]) + 256 ^ (k + 1) * (q + leN (x.drop (k + 1)) + leN (y.drop (k + 1))) = leN x + leN y) := plus_step HS.out HZL.out HEX.out HDQ.out.2.2.2.2
        have HZL' : Hid ((z ++ [d]).length = k + 1) := by unfold Hid; rw [List.length_append, HZL.out]; rfl
        have HZB' : Hid (Byt (z ++ [d])) := HZB.out.app (Byt.cons hd0 hd1 Byt.nil)
        have hend : max la lb < k + 1 → k + 1 ≤ max la lb + 1 ∧ (k + 1 = max la lb + 1 → q = 0 ∨ k < la ∨ k < lb) := by
          intro _
          have := HDQ.out
          have := HT.out
          omega
        have HEnd' : Hid (max la lb < k + 1 → q = 0) := by
          intro _
          have := HDQ.out
          have h5 := HT.out
          omega
        clear hend hown hg HO HB HS HZL HZB HDQ HEX HT
        go_wp2
        go_roundw
        case rel => exact ⟨k + 1, v', q, z ++ [d], by omega, by go_num, rfl, rfl, hq0, hq1, HEnd', HZL', HZB', HS', HO', HB'⟩
        case measure => simp [intOf]; omega
    · by_cases hyb : k < lb
      · have ga : ¬ (k : Int) < la := by omega
        have gb : (k : Int) < lb := by omega
        have ex := leN_dropN x k (by rw [HX.out.hlen]; omega)
        have ex' := leN_dropN x (k + 1) (by rw [HX.out.hlen]; omega)
        obtain ⟨bb, ob, rfl, hcb⟩ := (HY.out.below HB.out).cell (by omega)
        have cy := hcb k hyb
        have by' := HY.out.byt.at k
        have ey := leN_drop y k (by rw [HY.out.hlen]; exact hyb)
        clear hcb
        generalize y[k]?.getD 0 = yk at *
        obtain ⟨t, ht⟩ : ∃ t, t = c + yk := ⟨_, rfl⟩
        have ht0 : 0 ≤ t ∧ t ≤ 511 := by omega
        have HT : Hid (t = c + yk) := ht
        have ht2 : c + yk = t := ht.symm
        have hw0 : IntKind.u32.wrap (c + yk) = t := by rw [IntKind.wrap_u32']; omega
        clear ht
        obtain ⟨ht00, ht01⟩ := ht0
        obtain ⟨d, hd⟩ : ∃ d, Int.tmod t 256 = d := ⟨_, rfl⟩
        obtain ⟨q, hq⟩ : ∃ q, Int.tdiv t 256 = q := ⟨_, rfl⟩
        have hdq : 0 ≤ d ∧ d ≤ 255 ∧ 0 ≤ q ∧ q ≤ 1 ∧ t = d + 256 * q := by
          rw [Int.tmod_eq_emod_of_nonneg (by omega)] at hd
          rw [Int.tdiv_eq_ediv_of_nonneg (by omega)] at hq
          omega
        have HDQ : Hid (0 ≤ d ∧ d ≤ 255 ∧ 0 ≤ q ∧ q ≤ 1 ∧ t = d + 256 * q) := hdq
        have HEX : Hid (leN (x.drop k) + leN (y.drop k) + c = t + 256 * (leN (x.drop (k + 1)) + leN (y.drop (k + 1)))) := by have h := HT.out; unfold Hid; omega
        clear ex ey ex'
        obtain ⟨hd0, hd1, hq0, hq1, -⟩ := hdq
        go_wp2_with (at_builtin; refine wpList_append_own _ rfl (.tmp 44) (.tmp 47) 77 rfl w.heap.size 57 i0 (.int .u32 0) 1 4 Tryd.underlying77 hi hz0 hz1 hz2 rfl (by decide) _ k (List.map (Value.int .u32) z) rfl (HO.out.alloc _) ⟨wr.heap.size, 0, none⟩ 1 1 [.int .u32 d] rfl rfl (fun j u hu => one_news32 wr _ _ j u hu) (by intro u hu; simp at hu; rw [hu]; rfl) (by unfold maxLen; omega) (by omega) (by have := HB.out.size; simp; omega) ?_)
        intro v' w1 hown hg _
        have HO' : Hid (w1.ownsRow w.heap.size 57 1 v' (k + 1) (List.map (Value.int .u32) (z ++ [d]))) := by unfold Hid; rw [List.map_append]; exact hown
        have HB' : Hid (Below w.heap.size w w1) := (HB.out.alloc HB.out.size _).grown hg (by have := HB.out.size; simp; omega) (fun j hj => ((HO.out.lt j hj).1))
        have HS' : Hid (leN (z ++ [d]) + 256 ^ (k + 1) * (q + leN (x.drop (k + 1)) + leN (y.drop (k + 1))) = leN x + leN y) := plus_step HS.out HZL.out HEX.out HDQ.out.2.2.2.2
        have HZL' : Hid ((z ++ [d]).length = k + 1) := by unfold Hid; rw [List.length_append, HZL.out]; rfl
        have HZB' : Hid (Byt (z ++ [d])) := HZB.out.app (Byt.cons hd0 hd1 Byt.nil)
        have hend : max la lb < k + 1 → k + 1 ≤ max la lb + 1 ∧ (k + 1 = max la lb + 1 → q = 0 ∨ k < la ∨ k < lb) := by
          intro _
          have := HDQ.out
          have := HT.out
          omega
        have HEnd' : Hid (max la lb < k + 1 → q = 0) := by
          intro _
          have := HDQ.out
          have h5 := HT.out
          omega
        clear hend hown hg HO HB HS HZL HZB HDQ HEX HT
        go_wp2
        go_roundw
        case rel => exact ⟨k + 1, v', q, z ++ [d], by omega, by go_num, rfl, rfl, hq0, hq1, HEnd', HZL', HZB', HS', HO', HB'⟩
        case measure => simp [intOf]; omega
      · by_cases hcc : c = 0
        · have HZ' : Hid (leN z = leN x + leN y) := by
            have h := HS.out
            rw [leN_dropN x k (by rw [HX.out.hlen]; omega), leN_dropN y k (by rw [HY.out.hlen]; omega), hcc] at h
            unfold Hid
            simpa using h
          subst hcc
          have ga : ¬ (k : Int) < la := by omega
          have gb : ¬ (k : Int) < lb := by omega
          clear HS HEnd
          go_wp2
          go_ret
          exact ⟨_, rfl, k, hk, z, HZB, HZ', HO, HB.out⟩
        · have hkk : k ≤ max la lb := by
            have := HEnd.out
            omega
          have ga : ¬ (k : Int) < la := by omega
          have gb : ¬ (k : Int) < lb := by omega
          have gc : 0 < c := by omega
          have ex := leN_dropN x k (by rw [HX.out.hlen]; omega)
          have ex' := leN_dropN x (k + 1) (by rw [HX.out.hlen]; omega)
          have ey := leN_dropN y k (by rw [HY.out.hlen]; omega)
          have ey' := leN_dropN y (k + 1) (by rw [HY.out.hlen]; omega)
          have HT : Hid (c = c) := rfl
          obtain ⟨d, hd⟩ : ∃ d, Int.tmod c 256 = d := ⟨_, rfl⟩
          obtain ⟨q, hq⟩ : ∃ q, Int.tdiv c 256 = q := ⟨_, rfl⟩
          have hdq : 0 ≤ d ∧ d ≤ 255 ∧ 0 ≤ q ∧ q ≤ 1 ∧ c = d + 256 * q := by
            rw [Int.tmod_eq_emod_of_nonneg (by omega)] at hd
            rw [Int.tdiv_eq_ediv_of_nonneg (by omega)] at hq
            omega
          have HDQ : Hid (0 ≤ d ∧ d ≤ 255 ∧ 0 ≤ q ∧ q ≤ 1 ∧ c = d + 256 * q) := hdq
          have HEX : Hid (leN (x.drop k) + leN (y.drop k) + c = c + 256 * (leN (x.drop (k + 1)) + leN (y.drop (k + 1)))) := by have h := HT.out; unfold Hid; omega
          clear ex ey ex' ey'
          obtain ⟨hd0, hd1, hq0, hq1, -⟩ := hdq
          go_wp2_with (at_builtin; refine wpList_append_own _ rfl (.tmp 44) (.tmp 47) 77 rfl w.heap.size 57 i0 (.int .u32 0) 1 4 Tryd.underlying77 hi hz0 hz1 hz2 rfl (by decide) _ k (List.map (Value.int .u32) z) rfl (HO.out.alloc _) ⟨wr.heap.size, 0, none⟩ 1 1 [.int .u32 d] rfl rfl (fun j u hu => one_news32 wr _ _ j u hu) (by intro u hu; simp at hu; rw [hu]; rfl) (by unfold maxLen; omega) (by omega) (by have := HB.out.size; simp; omega) ?_)
          intro v' w1 hown hg _
          have HO' : Hid (w1.ownsRow w.heap.size 57 1 v' (k + 1) (List.map (Value.int .u32) (z ++ [d]))) := by unfold Hid; rw [List.map_append]; exact hown
          have HB' : Hid (Below w.heap.size w w1) := (HB.out.alloc HB.out.size _).grown hg (by have := HB.out.size; simp; omega) (fun j hj => ((HO.out.lt j hj).1))
          have HS' : Hid (leN (z ++ [d]) + 256 ^ (k + 1) * (q + leN (x.drop (k + 1)) + leN (y.drop (k + 1))) = leN x + leN y) := plus_step HS.out HZL.out HEX.out HDQ.out.2.2.2.2
          have HZL' : Hid ((z ++ [d]).length = k + 1) := by unfold Hid; rw [List.length_append, HZL.out]; rfl
          have HZB' : Hid (Byt (z ++ [d])) := HZB.out.app (Byt.cons hd0 hd1 Byt.nil)
          have hend : max la lb < k + 1 → k + 1 ≤ max la lb + 1 ∧ (k + 1 = max la lb + 1 → q = 0 ∨ k < la ∨ k < lb) := by
            intro _
            have := HDQ.out
            have := HT.out
            omega
          have HEnd' : Hid (max la lb < k + 1 → q = 0) := by
            intro _
            have := HDQ.out
            have h5 := HT.out
            omega
          clear hend hown hg HO HB HS HZL HZB HDQ HEX HT
          go_wp2
          go_roundw
          case rel => exact ⟨k + 1, v', q, z ++ [d], by omega, by go_num, rfl, rfl, hq0, hq1, HEnd', HZL', HZB', HS', HO', HB'⟩
          case measure => simp [intOf]; omega
end Go.Proofs.YtjmdgmbkkkoamaaDoor
