/-
  Several texts of one's own, laid together. No statement of the seat is proved here.
-/
import Derived.Test.YtjmdgmbkkkoamaaDoorPk3
import Derived.Test.YtjmdgmbkkkoamaaDoorVSeal
import Derived.Test.YtjmdgmbkkkoamaaDoorPk24
/-
  What portholehand's Secret does: thirty-two bytes of a number (over KGen: no field). No statement of the seat is proved here.
-/
namespace Go.Proofs.YtjmdgmbkkkoamaaDoor
open Go.RowKit

/-- The next number, and the bytes of those behind it. -/
def lcg (x : Int) : Int := (x * 6364136223846793005 + 1442695040888963407) % 18446744073709551616
def sst (x : Int) : Nat → Int
  | 0 => x
  | k + 1 => lcg (sst x k)
def sby (x : Int) : Nat → List Int
  | 0 => []
  | k + 1 => sby x k ++ [sst x (k + 1) / 1099511627776 % 256]
def sec (n : Int) : List Int := sby (lcg (n % 18446744073709551616)) 32
set_option maxRecDepth 8000 in
theorem sby_len (x : Int) : ∀ k, (sby x k).length = k
  | 0 => rfl
  | k + 1 => by rw [sby, List.length_append, sby_len x k]; rfl
set_option maxRecDepth 8000 in
theorem sby_byt (x : Int) : ∀ k, Byt (sby x k)
  | 0 => fun _ h => by simp [sby] at h
  | k + 1 => fun y h => by
    rw [sby, List.mem_append] at h
    rcases h with h | h
    · exact sby_byt x k y h
    · rw [List.mem_singleton.1 h]
      omega
set_option maxRecDepth 8000 in
theorem sec_bn (n : Int) : Bn 32 (sec n) := ⟨sby_len _ _, sby_byt _ _⟩
set_option maxRecDepth 8000 in
theorem lcg_wd (x : Int) : 0 ≤ lcg x ∧ lcg x < 18446744073709551616 := ⟨by unfold lcg; omega, by unfold lcg; omega⟩

set_option maxRecDepth 8000 in
set_option maxHeartbeats 2000000 in
theorem secret_c (n : Int) (w : World) :
    Calls Tryd.prog 19 #[.int .i64 n] w fun e w' => e = .returned (.agg (List.map (Value.int .u8) (sec n)).toArray) ∧ Below w.heap.size w w' := by
  obtain ⟨x0, hx0⟩ : ∃ x0, x0 = lcg (n % 18446744073709551616) := ⟨_, rfl⟩
  have hw0 : IntKind.u64.wrap (IntKind.u64.wrap (IntKind.u64.wrap n * 6364136223846793005) + 1442695040888963407) = x0 := by
    rw [IntKind.wrap_u64, IntKind.wrap_u64, IntKind.wrap_u64, hx0]
    unfold lcg
    omega
  have hx1 : 0 ≤ x0 ∧ x0 < 18446744073709551616 := by rw [hx0]; exact lcg_wd _
  have HX : Hid (sec n = sby x0 32) := by unfold Hid sec; rw [hx0]
  clear hx0
  go_enter Tryd.func19, Tryd.ntmps19
  go_wp2
  clear hw0
  have HD : Hid (((w.alloc (.cells #[.int .u8 0, .int .u8 0, .int .u8 0, .int .u8 0, .int .u8 0, .int .u8 0, .int .u8 0, .int .u8 0, .int .u8 0, .int .u8 0, .int .u8 0, .int .u8 0, .int .u8 0, .int .u8 0, .int .u8 0, .int .u8 0, .int .u8 0, .int .u8 0, .int .u8 0, .int .u8 0, .int .u8 0, .int .u8 0, .int .u8 0, .int .u8 0, .int .u8 0, .int .u8 0, .int .u8 0, .int .u8 0, .int .u8 0, .int .u8 0, .int .u8 0, .int .u8 0] 27)).alloc (.cells #[.int .u8 0, .int .u8 0, .int .u8 0, .int .u8 0, .int .u8 0, .int .u8 0, .int .u8 0, .int .u8 0, .int .u8 0, .int .u8 0, .int .u8 0, .int .u8 0, .int .u8 0, .int .u8 0, .int .u8 0, .int .u8 0, .int .u8 0, .int .u8 0, .int .u8 0, .int .u8 0, .int .u8 0, .int .u8 0, .int .u8 0, .int .u8 0, .int .u8 0, .int .u8 0, .int .u8 0, .int .u8 0, .int .u8 0, .int .u8 0, .int .u8 0, .int .u8 0] 27)).there (w.heap.size) 0 32) := there_later (bel1 _ _) (there_new w 32 #[.int .u8 0, .int .u8 0, .int .u8 0, .int .u8 0, .int .u8 0, .int .u8 0, .int .u8 0, .int .u8 0, .int .u8 0, .int .u8 0, .int .u8 0, .int .u8 0, .int .u8 0, .int .u8 0, .int .u8 0, .int .u8 0, .int .u8 0, .int .u8 0, .int .u8 0, .int .u8 0, .int .u8 0, .int .u8 0, .int .u8 0, .int .u8 0, .int .u8 0, .int .u8 0, .int .u8 0, .int .u8 0, .int .u8 0, .int .u8 0, .int .u8 0, .int .u8 0] rfl 27)
  have HK : Hid (((w.alloc (.cells #[.int .u8 0, .int .u8 0, .int .u8 0, .int .u8 0, .int .u8 0, .int .u8 0, .int .u8 0, .int .u8 0, .int .u8 0, .int .u8 0, .int .u8 0, .int .u8 0, .int .u8 0, .int .u8 0, .int .u8 0, .int .u8 0, .int .u8 0, .int .u8 0, .int .u8 0, .int .u8 0, .int .u8 0, .int .u8 0, .int .u8 0, .int .u8 0, .int .u8 0, .int .u8 0, .int .u8 0, .int .u8 0, .int .u8 0, .int .u8 0, .int .u8 0, .int .u8 0] 27)).alloc (.cells #[.int .u8 0, .int .u8 0, .int .u8 0, .int .u8 0, .int .u8 0, .int .u8 0, .int .u8 0, .int .u8 0, .int .u8 0, .int .u8 0, .int .u8 0, .int .u8 0, .int .u8 0, .int .u8 0, .int .u8 0, .int .u8 0, .int .u8 0, .int .u8 0, .int .u8 0, .int .u8 0, .int .u8 0, .int .u8 0, .int .u8 0, .int .u8 0, .int .u8 0, .int .u8 0, .int .u8 0, .int .u8 0, .int .u8 0, .int .u8 0, .int .u8 0, .int .u8 0] 27)).there (w.heap.size + 1) 0 32) := by have := there_new (w.alloc (.cells #[.int .u8 0, .int .u8 0, .int .u8 0, .int .u8 0, .int .u8 0, .int .u8 0, .int .u8 0, .int .u8 0, .int .u8 0, .int .u8 0, .int .u8 0, .int .u8 0, .int .u8 0, .int .u8 0, .int .u8 0, .int .u8 0, .int .u8 0, .int .u8 0, .int .u8 0, .int .u8 0, .int .u8 0, .int .u8 0, .int .u8 0, .int .u8 0, .int .u8 0, .int .u8 0, .int .u8 0, .int .u8 0, .int .u8 0, .int .u8 0, .int .u8 0, .int .u8 0] 27)) 32 #[.int .u8 0, .int .u8 0, .int .u8 0, .int .u8 0, .int .u8 0, .int .u8 0, .int .u8 0, .int .u8 0, .int .u8 0, .int .u8 0, .int .u8 0, .int .u8 0, .int .u8 0, .int .u8 0, .int .u8 0, .int .u8 0, .int .u8 0, .int .u8 0, .int .u8 0, .int .u8 0, .int .u8 0, .int .u8 0, .int .u8 0, .int .u8 0, .int .u8 0, .int .u8 0, .int .u8 0, .int .u8 0, .int .u8 0, .int .u8 0, .int .u8 0, .int .u8 0] rfl 27; simpa [Hid] using this
  have HB : Hid (Below w.heap.size w ((w.alloc (.cells #[.int .u8 0, .int .u8 0, .int .u8 0, .int .u8 0, .int .u8 0, .int .u8 0, .int .u8 0, .int .u8 0, .int .u8 0, .int .u8 0, .int .u8 0, .int .u8 0, .int .u8 0, .int .u8 0, .int .u8 0, .int .u8 0, .int .u8 0, .int .u8 0, .int .u8 0, .int .u8 0, .int .u8 0, .int .u8 0, .int .u8 0, .int .u8 0, .int .u8 0, .int .u8 0, .int .u8 0, .int .u8 0, .int .u8 0, .int .u8 0, .int .u8 0, .int .u8 0] 27)).alloc (.cells #[.int .u8 0, .int .u8 0, .int .u8 0, .int .u8 0, .int .u8 0, .int .u8 0, .int .u8 0, .int .u8 0, .int .u8 0, .int .u8 0, .int .u8 0, .int .u8 0, .int .u8 0, .int .u8 0, .int .u8 0, .int .u8 0, .int .u8 0, .int .u8 0, .int .u8 0, .int .u8 0, .int .u8 0, .int .u8 0, .int .u8 0, .int .u8 0, .int .u8 0, .int .u8 0, .int .u8 0, .int .u8 0, .int .u8 0, .int .u8 0, .int .u8 0, .int .u8 0] 27))) := bel2 _ _ _
  generalize (w.alloc (.cells #[.int .u8 0, .int .u8 0, .int .u8 0, .int .u8 0, .int .u8 0, .int .u8 0, .int .u8 0, .int .u8 0, .int .u8 0, .int .u8 0, .int .u8 0, .int .u8 0, .int .u8 0, .int .u8 0, .int .u8 0, .int .u8 0, .int .u8 0, .int .u8 0, .int .u8 0, .int .u8 0, .int .u8 0, .int .u8 0, .int .u8 0, .int .u8 0, .int .u8 0, .int .u8 0, .int .u8 0, .int .u8 0, .int .u8 0, .int .u8 0, .int .u8 0, .int .u8 0] 27)).alloc (.cells #[.int .u8 0, .int .u8 0, .int .u8 0, .int .u8 0, .int .u8 0, .int .u8 0, .int .u8 0, .int .u8 0, .int .u8 0, .int .u8 0, .int .u8 0, .int .u8 0, .int .u8 0, .int .u8 0, .int .u8 0, .int .u8 0, .int .u8 0, .int .u8 0, .int .u8 0, .int .u8 0, .int .u8 0, .int .u8 0, .int .u8 0, .int .u8 0, .int .u8 0, .int .u8 0, .int .u8 0, .int .u8 0, .int .u8 0, .int .u8 0, .int .u8 0, .int .u8 0] 27) = W0 at *
  have k1 : w.heap.size < w.heap.size + 1 := by omega
  generalize w.heap.size + 1 = b1 at *
  go_loopw [4, 5] (fun p i wl => ∃ (k : Nat) (v : Int), k ≤ 32 ∧ i = .int .i64 k ∧ p = .int .u64 v ∧ 0 ≤ v ∧ v < 18446744073709551616 ∧ Hid (v = sst x0 k) ∧ Hid (wl.there (w.heap.size) 0 32) ∧ Hid (wl.there b1 0 32) ∧ Hid (wl.rangeAt b1 0 (List.map (Value.int .u8) (sby x0 k))) ∧ Hid (Below w.heap.size w wl)) (fun _ i _ => 32 - (intOf i).toNat)
  case atStart => exact ⟨0, x0, by decide, rfl, rfl, hx1.1, hx1.2, rfl, HD, HK, fun j v hv => by simp [sby] at hv, HB⟩
  case round =>
    clear HD HK HB
    obtain ⟨k, v, hk, rfl, rfl, v0, v1, HV, HD, HK, HR, HB⟩ := hrel
    by_cases hlt : k < 32
    · obtain ⟨c, hc, hf⟩ := there_cell HK.out k hlt
      have g1 : (k : Int) < 32 := by omega
      obtain ⟨v', hv'⟩ : ∃ v', v' = lcg v := ⟨_, rfl⟩
      have hw1 : IntKind.u64.wrap (IntKind.u64.wrap (v * 6364136223846793005) + 1442695040888963407) = v' := by
        rw [IntKind.wrap_u64, IntKind.wrap_u64, hv']
        unfold lcg
        omega
      have hwd : 0 ≤ v' ∧ v' < 18446744073709551616 := by rw [hv']; exact lcg_wd _
      have HV' : Hid (v' = sst x0 (k + 1)) := by unfold Hid; rw [sst, ← HV.out, hv']
      obtain ⟨bb, hbb⟩ : ∃ bb, bb = v' / 1099511627776 % 256 := ⟨_, rfl⟩
      have hw8 : IntKind.u8.wrap (v' / 1099511627776) = bb := by
        rw [IntKind.wrap_u8, hbb]
      have HBB : Hid (bb = sst x0 (k + 1) / 1099511627776 % 256) := by unfold Hid; rw [hbb, ← HV'.out]
      clear hv' hbb
      obtain ⟨hwd0, hwd1⟩ := hwd
      go_wp2
      clear hw1 hw8
      go_roundw
      case rel => exact ⟨k + 1, v', by omega, by go_num, rfl, hwd0, hwd1, HV', there_set HD.out _ _ _, there_set HK.out _ _ _, by
        unfold Hid
        rw [sby, List.map_append, ← HBB.out]
        exact range_snoc HR.out (k := k) (by rw [List.length_map, sby_len]) HK.out hlt (.int .u8 bb), HB.out.setCell (p := ⟨b1, k, none⟩) (by dsimp only; omega) _⟩
      case measure => simp [intOf]; omega
    · have e : k = 32 := by omega
      subst e
      have HY : Hid (Bn 32 (sec n)) := sec_bn n
      obtain ⟨hlen, hone, hi⟩ := bn32_cells HY.out
      have HR' : Hid (wr.rangeAt b1 0 (List.map (Value.int .u8) (sec n))) := by unfold Hid; rw [HX.out]; exact HR.out
      clear HR
      generalize hcs : (List.map (Value.int .u8) (sec n)) = cs at *
      have HE : Hid ((List.map (Value.int .u8) (sec n)) = cs) := hcs
      clear hcs
      go_wp2_with (first
        | (refine wpList_load_mid rfl 27 (.tmp 3) rfl b1 0 rfl cs _ HR'.out Tryd.underlying27 rfl hi ?_)
        | (refine wpList_store_mid rfl 27 (.tmp 2) (.tmp 22) rfl (w.heap.size) 0 cs.toArray rfl rfl (by simpa [hlen] using HD.out) (by simpa using hi) (all_oneCell_toArray hone) ?_))
      have HR2 : Hid ((wr.setCells (w.heap.size) 0 cs).rangeAt (w.heap.size) 0 cs) := World.rangeAt_setCells_same _ _ _ _ (by rw [hlen]; exact HD.out)
      have hld := run_loadVar_mid (P := Tryd.prog) _ _ 0 27 _ _ HR2.out Tryd.underlying27 rfl hi
      exact bodyPost_ret (v := .agg cs.toArray) (by simp [results, Tryd.results19]; exact hld) rfl ⟨by rw [HE.out], below_setCells _ (by omega) _ _ _ HB.out⟩
set_option maxRecDepth 8000 in
theorem secret_l (n : Int) (w : World) :
    Calls Tryd.prog 19 #[.int .i64 n] w fun e w' => ∃ K, e = .returned (.agg (List.map (Value.int .u8) K).toArray) ∧ Hid (K = sec n) ∧ Hid (Bn 32 K) ∧ Below w.heap.size w w' :=
  (secret_c n w).mono fun _ _ ⟨h, hb⟩ => ⟨sec n, h, rfl, sec_bn n, hb⟩
end Go.Proofs.YtjmdgmbkkkoamaaDoor
/-
  What the law's own 'known' does: chapter 9's example holds. No statement of the seat is proved here.
-/
namespace Go.Proofs.YtjmdgmbkkkoamaaDoor
open Go.RowKit

set_option maxRecDepth 8000 in
set_option maxHeartbeats 4000000 in
theorem known9_any (w : World) : Calls Tryd.prog 5 #[] w fun e w' => e = .returned (.bool true) ∧ Below w.heap.size w w' := by
  go_enter Tryd.func5, Tryd.ntmps5
  go_wp2_with fail
  refine (new9_c _).mono ?_
  rintro e V1 ⟨rfl, Ha, hb⟩
  obtain ⟨ba, hq⟩ : ∃ q, q = w.heap.size := ⟨_, rfl⟩
  rw [← hq] at Ha ⊢
  have kaw : w.heap.size ≤ ba := by rw [hq]; exact Nat.le_refl _
  clear hq
  have HB : Hid (Below w.heap.size w V1) := hb
  clear hb
  go_wp2_with fail
  refine (has9_c ba z9l false 0 _ Ha.out).mono ?_
  rintro e V2 ⟨rfl, hw⟩
  rw [hw]
  clear hw V2
  go_wp2_with fail
  refine (secret_l 3 _).mono ?_
  rintro e V3 ⟨key, rfl, -, HK, hb⟩
  replace Ha : Hid (Sx V3 ba z9l false 0) := Ha.out.later hb
  replace HB : Hid (Below w.heap.size w V3) := HB.out.trans (hb.mono HB.out.size)
  clear hb
  go_wp2_with fail
  refine (init9_c ba z9l false 0 key HK.out _ Ha.out).mono ?_
  rintro e V4 ⟨rfl, HS', hb⟩
  replace Ha := HS'
  clear HS'
  replace HB : Hid (Below w.heap.size w V4) := hb.below HB.out (by omega)
  clear hb
  go_wp2_with fail
  refine (setn9_c ba key true 0 18446744073709551614 (by decide) _ Ha.out).mono ?_
  rintro e V5 ⟨rfl, HS', hb⟩
  replace Ha := HS'
  clear HS'
  replace HB : Hid (Below w.heap.size w V5) := hb.below HB.out (by omega)
  clear hb
  have hLt : Lt (V5.alloc (.cells #[.int .u8 97] 5)) V5.heap.size [97] := lt_new V5 [97]
  have hcvt := conv_mark (V5.alloc (.cells #[.int .u8 97] 5)) V5.heap.size [97] 1 1 hLt
  simp only [List.length_cons, List.length_nil, Nat.zero_add] at hcvt
  have hY : Below V5.heap.size V5 ((V5.alloc (.cells #[.int .u8 97] 5)).freeze ⟨V5.heap.size, 1, none⟩ 1) := ext_frz (bel1 _ _) _ _ (Nat.le_refl _)
  have Rt : Hid (Rd ((V5.alloc (.cells #[.int .u8 97] 5)).freeze ⟨V5.heap.size, 1, none⟩ 1) (some ⟨V5.heap.size, 0, none⟩) 1 1 [97]) := (hLt.rd (byt5 _ (by decide)) 1 (by decide)).frz _ _
  have hZ : Below V5.heap.size V5 ((V5.alloc (.cells #[.int .u8 97] 5)).freeze ⟨V5.heap.size, 1, none⟩ 1) := hY
  clear hY
  have hZ0 := hZ
  clear hZ
  have hb := hZ0
  clear hZ0
  replace Ha : Hid (Sx ((V5.alloc (.cells #[.int .u8 97] 5)).freeze ⟨V5.heap.size, 1, none⟩ 1) ba key true 18446744073709551614) := Ha.out.later hb
  replace HB : Hid (Below w.heap.size w ((V5.alloc (.cells #[.int .u8 97] 5)).freeze ⟨V5.heap.size, 1, none⟩ 1)) := HB.out.trans (hb.mono HB.out.size)
  clear hb
  go_wp2_with fail
  refine (seal9_yes ba key 18446744073709551614 none 0 0 [] (some ⟨V5.heap.size, 0, none⟩) 1 1 [97] _ Ha.out (by decide) (Rd.nil _ _ _ (fun _ => rfl)) Rt.out (by decide) (by decide)).mono ?_
  rintro e V6 ⟨g, mg, Xg, n', rfl, hg, Hmg, HXg, HN', Og, HS', hb⟩
  clear hcvt
  replace Ha := HS'
  clear HS' Rt hLt Og HXg hg
  replace HB : Hid (Below w.heap.size w V6) := hb.below HB.out (by omega)
  clear hb
  have hn' : n' = 18446744073709551615 := by rw [HN'.out]; rfl
  subst hn'
  have hm' : mg = 17 := Hmg.out
  subst hm'
  clear HN' Hmg
  have hLt : Lt (V6.alloc (.cells #[.int .u8 97] 5)) V6.heap.size [97] := lt_new V6 [97]
  have hcvt := conv_mark (V6.alloc (.cells #[.int .u8 97] 5)) V6.heap.size [97] 1 1 hLt
  simp only [List.length_cons, List.length_nil, Nat.zero_add] at hcvt
  have hY : Below V6.heap.size V6 ((V6.alloc (.cells #[.int .u8 97] 5)).freeze ⟨V6.heap.size, 1, none⟩ 1) := ext_frz (bel1 _ _) _ _ (Nat.le_refl _)
  have Rt : Hid (Rd ((V6.alloc (.cells #[.int .u8 97] 5)).freeze ⟨V6.heap.size, 1, none⟩ 1) (some ⟨V6.heap.size, 0, none⟩) 1 1 [97]) := (hLt.rd (byt5 _ (by decide)) 1 (by decide)).frz _ _
  have hZ : Below V6.heap.size V6 ((V6.alloc (.cells #[.int .u8 97] 5)).freeze ⟨V6.heap.size, 1, none⟩ 1) := hY
  clear hY
  have hZ0 := hZ
  clear hZ
  have hb := hZ0
  clear hZ0
  replace Ha : Hid (Sx ((V6.alloc (.cells #[.int .u8 97] 5)).freeze ⟨V6.heap.size, 1, none⟩ 1) ba key true 18446744073709551615) := Ha.out.later hb
  replace HB : Hid (Below w.heap.size w ((V6.alloc (.cells #[.int .u8 97] 5)).freeze ⟨V6.heap.size, 1, none⟩ 1)) := HB.out.trans (hb.mono HB.out.size)
  clear hb
  go_wp2_with fail
  refine (seal9_last ba key 18446744073709551615 none 0 0 [] (some ⟨V6.heap.size, 0, none⟩) 1 1 [97] _ Ha.out rfl).mono ?_
  rintro e V9 ⟨rfl, hw⟩
  rw [hw]
  clear hw V9 Rt hLt hcvt
  go_wp2_with fail
  refine (has9_c ba key true 18446744073709551615 _ Ha.out).mono ?_
  rintro e V7 ⟨rfl, hw⟩
  rw [hw]
  clear hw V7
  go_wp2_with fail
  refine (nonce9_c ba key true 18446744073709551615 _ Ha.out).mono ?_
  rintro e V8 ⟨rfl, hw⟩
  rw [hw]
  clear hw V8
  go_wp2
  go_ret
  exact ⟨rfl, HB.out⟩
end Go.Proofs.YtjmdgmbkkkoamaaDoor
