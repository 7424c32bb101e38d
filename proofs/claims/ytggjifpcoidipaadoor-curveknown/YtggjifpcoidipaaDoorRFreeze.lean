/-
  What the reference's freeze does: the digits of the number modulo p, for whatever digits below 2^32. No statement of the seat is proved here.
-/
import Derived.Test.YtggjifpcoidipaaDoorRAtl
namespace Go.Proofs.YtggjifpcoidipaaDoor
open Go.RowKit

theorem Wrd.mid {u : World} {b : Nat} {D R : List Int} {r : Int} (h : Wrd u b (D ++ r :: R)) (hl : (D ++ r :: R).length = 16) : u.cell? ⟨b, D.length, none⟩ = some (.int .u64 r) ∧ u.frozen? ⟨b, D.length, none⟩ = false := by
  have hi : D.length < (D ++ r :: R).length := by simp
  have := h.cell D.length hi hl
  simpa using this
theorem Wrd.setMid {u : World} {b : Nat} {D R : List Int} {r : Int} (h : Wrd u b (D ++ r :: R)) (x : Int) : Wrd (u.setCell ⟨b, D.length, none⟩ (.int .u64 x)) b (D ++ x :: R) := by
  have := h.set D.length (by simp) x
  rwa [set_mid] at this
def wordIn : Value → Int
  | .int _ n => n
  | _ => 0
/-- The number that lies in a block. -/
def nvW (w : World) (b : Nat) : Int := nv ((List.range 16).map fun i => wordIn ((w.cell? ⟨b, i, none⟩).getD (.bool false)))
theorem nvW_eq {w : World} {b : Nat} {l : List Int} (h : Wrd w b l) (hl : l.length = 16) : nvW w b = nv l := by
  unfold nvW
  congr 1
  apply List.ext_getElem
  · simp [hl]
  · intro i h1 h2
    have hi : i < l.length := h2
    rw [List.getElem_map, List.getElem_range, (h.cell i hi hl).1]
    rfl
/-- How it stands behind so many passes. -/
structure Fz (n : Nat) (L : List Int) : Prop where
  dw : Dw L
  one : n = 1 → nv L < 115792089237316195423570985008687907853269984665640564039457584007913134620672
  two : n = 2 → nv L < 115792089237316195423570985008687907853269984665640564039457584007913129639936
  all : n = 3 → nv L < 115792089237316195423570985008687907853269984665640564039457584007913129639936 ∧ Dg L
/-- A whole pass. -/
theorem pass_all (L D : List Int) (c : Int) (n : Nat) (hL : L.length = 16) (hD : D.length = 16) (hf : Fz n L) (dd : Dg D) (c0 : 0 ≤ c) (h : nv D + 65536 ^ 16 * (c + nv (L.drop 16)) = nv L) :
    c < 131072 ∧ ∀ d D', D = d :: D' → Fz (n + 1) ((d + 38 * c) :: D') ∧ nv ((d + 38 * c) :: D') % 57896044618658097711785492504343953926634992332820282019728792003956564819949 = nv L % 57896044618658097711785492504343953926634992332820282019728792003956564819949 := by
  have z : L.drop 16 = [] := List.drop_eq_nil_of_le (by omega)
  rw [z, nv, Int.add_zero] at h
  have hw := nv_wide L hf.dw
  have hb := nv_bound D dd
  rw [hL] at hw
  rw [hD] at hb
  have p16 : (65536 : Int) ^ 16 = 115792089237316195423570985008687907853269984665640564039457584007913129639936 := by decide
  rw [p16] at h hw hb
  have hc : c < 131072 := by omega
  refine ⟨hc, ?_⟩
  rintro d D' rfl
  have hd := dd.cons
  have e : nv ((d + 38 * c) :: D') = nv (d :: D') + 38 * c := by rw [nv, nv]; omega
  have w' : Dw ((d + 38 * c) :: D') := fun x hx => by
    rcases List.mem_cons.1 hx with rfl | hx
    · omega
    · have := hd.2 x hx
      omega
  constructor
  · refine ⟨w', ?_, ?_, ?_⟩
    · intro _
      rw [e]
      omega
    · intro h2
      have h1 := hf.one (by omega)
      rw [e]
      omega
    · intro h3
      have h2 := hf.two (by omega)
      have hc0 : c = 0 := by omega
      rw [e, hc0]
      refine ⟨by omega, ?_⟩
      simpa using dd
  · rw [e, ← h]
    have : nv (d :: D') + 115792089237316195423570985008687907853269984665640564039457584007913129639936 * c = nv (d :: D') + 38 * c + 57896044618658097711785492504343953926634992332820282019728792003956564819949 * (2 * c) := by omega
    rw [this, Int.add_mul_emod_self_left]

set_option maxHeartbeats 8000000 in
theorem freeze_any (l : List Int) (hl : l.length = 16) (hd : Dw l) (w : World) (hg : Gp w) :
    Calls Tryd.prog 29 #[.agg (List.map (Value.int .u64) l).toArray] w fun e w' => ∃ z, e = .returned (.agg (List.map (Value.int .u64) z).toArray) ∧ Hid (z = dg 16 (nv l % 57896044618658097711785492504343953926634992332820282019728792003956564819949)) ∧ Below w.heap.size w w' := by
  go_enter Tryd.func29, Tryd.ntmps29
  go_wp2
  have HL : Hid (Wrd ((w.alloc (.cells (List.map (Value.int .u64) l).toArray 31)).alloc (.cells #[.int .u64 0, .int .u64 0, .int .u64 0, .int .u64 0, .int .u64 0, .int .u64 0, .int .u64 0, .int .u64 0, .int .u64 0, .int .u64 0, .int .u64 0, .int .u64 0, .int .u64 0, .int .u64 0, .int .u64 0, .int .u64 0] 31)) w.heap.size l) := (wrd_box w l hl _).later (bel1 _ _)
  have HD : Hid (((w.alloc (.cells (List.map (Value.int .u64) l).toArray 31)).alloc (.cells #[.int .u64 0, .int .u64 0, .int .u64 0, .int .u64 0, .int .u64 0, .int .u64 0, .int .u64 0, .int .u64 0, .int .u64 0, .int .u64 0, .int .u64 0, .int .u64 0, .int .u64 0, .int .u64 0, .int .u64 0, .int .u64 0] 31)).there (w.heap.size + 1) 0 16) := by have := there_new (w.alloc (.cells (List.map (Value.int .u64) l).toArray 31)) 16 #[.int .u64 0, .int .u64 0, .int .u64 0, .int .u64 0, .int .u64 0, .int .u64 0, .int .u64 0, .int .u64 0, .int .u64 0, .int .u64 0, .int .u64 0, .int .u64 0, .int .u64 0, .int .u64 0, .int .u64 0, .int .u64 0] rfl 31; simpa [Hid] using this
  have HG : Hid (Gp ((w.alloc (.cells (List.map (Value.int .u64) l).toArray 31)).alloc (.cells #[.int .u64 0, .int .u64 0, .int .u64 0, .int .u64 0, .int .u64 0, .int .u64 0, .int .u64 0, .int .u64 0, .int .u64 0, .int .u64 0, .int .u64 0, .int .u64 0, .int .u64 0, .int .u64 0, .int .u64 0, .int .u64 0] 31))) := (hg.later (bel1 _ _)).later (bel1 _ _)
  have HB : Hid (Below w.heap.size w ((w.alloc (.cells (List.map (Value.int .u64) l).toArray 31)).alloc (.cells #[.int .u64 0, .int .u64 0, .int .u64 0, .int .u64 0, .int .u64 0, .int .u64 0, .int .u64 0, .int .u64 0, .int .u64 0, .int .u64 0, .int .u64 0, .int .u64 0, .int .u64 0, .int .u64 0, .int .u64 0, .int .u64 0] 31))) := bel2 _ _ _
  have hpos : 0 < w.heap.size := hg.pos
  generalize (w.alloc (.cells (List.map (Value.int .u64) l).toArray 31)).alloc (.cells #[.int .u64 0, .int .u64 0, .int .u64 0, .int .u64 0, .int .u64 0, .int .u64 0, .int .u64 0, .int .u64 0, .int .u64 0, .int .u64 0, .int .u64 0, .int .u64 0, .int .u64 0, .int .u64 0, .int .u64 0, .int .u64 0] 31) = W0 at *
  go_loopw [3] (fun k wl => ∃ (n : Nat) (L : List Int), n ≤ 3 ∧ k = .int .i64 n ∧ L.length = 16 ∧ Hid (Fz n L) ∧ Hid (nv L % 57896044618658097711785492504343953926634992332820282019728792003956564819949 = nv l % 57896044618658097711785492504343953926634992332820282019728792003956564819949) ∧ Hid (Wrd wl w.heap.size L) ∧ Hid (wl.there (w.heap.size + 1) 0 16) ∧ Hid (Gp wl) ∧ Hid (Below w.heap.size w wl)) (fun k _ => 3 - (intOf k).toNat)
  case atStart => exact ⟨0, l, by decide, rfl, hl, ⟨hd, fun h => by omega, fun h => by omega, fun h => by omega⟩, rfl, HL, HD, HG, HB⟩
  case round =>
    clear HL HD HG HB
    obtain ⟨n, L, hn, rfl, hL, HF, HV, HL, HD, HG, HB⟩ := hrel
    by_cases hlt : n < 3
    · have g1 : (n : Int) < 3 := by omega
      go_wp2
      go_loopw [4, 5] (fun c i wl => ∃ (j : Nat) (D : List Int) (cv : Int), j ≤ 16 ∧ i = .int .i64 j ∧ c = .int .u64 cv ∧ 0 ≤ cv ∧ cv < 4294967296 ∧ D.length = j ∧ Hid (Dg D) ∧ Hid (nv D + 65536 ^ j * (cv + nv (L.drop j)) = nv L) ∧ Hid (Wrd wl w.heap.size (D ++ L.drop j)) ∧ Hid (wl.there (w.heap.size + 1) 0 16) ∧ Hid (Gp wl) ∧ Hid (Below w.heap.size w wl)) (fun _ i _ => 16 - (intOf i).toNat)
      case atStart => exact ⟨0, [], 0, by decide, rfl, rfl, by decide, by decide, rfl, Dg.nil, by simp [Hid, nv], by simpa [Hid] using HL, HD, HG, HB⟩
      case round =>
        clear HL HD HG HB
        obtain ⟨j, D, cv, hj, rfl, rfl, c0, c1, hDl, HDg, HE, HL, HD, HG, HB⟩ := hrel
        by_cases hlt2 : j < 16
        · have hjL : j < L.length := by omega
          have ed := drop_cons hjL
          have hr := HF.out.dw.at j hjL
          have HS : Hid (nv (D ++ [(L[j] + cv) % 65536]) + 65536 ^ (j + 1) * ((L[j] + cv) / 65536 + nv (L.drop (j + 1))) = nv L) := pass_step L D cv j hDl hjL HE.out
          have hlen : (D ++ L[j] :: L.drop (j + 1)).length = 16 := by rw [← ed, List.length_append, List.length_drop]; omega
          have HL' : Hid (Wrd wr w.heap.size (D ++ L[j] :: L.drop (j + 1))) := by unfold Hid; rw [← ed]; exact HL.out
          clear HL ed
          generalize L[j] = r at *
          subst hDl
          obtain ⟨k1, k2⟩ := HL'.out.mid hlen
          obtain ⟨r0, r1⟩ := hr
          have hm := mask16 (r + cv) (by omega) (by omega)
          generalize hq : (r + cv) % 65536 = q at *
          have HQ : Hid ((r + cv) % 65536 = q) := hq
          clear hq
          have g2 : (D.length : Int) < 16 := by omega
          go_upto_region 9 with fail
          have HL2 : Hid (Wrd (wr.setCell ⟨w.heap.size, D.length, none⟩ (.int .u64 (r + cv))) w.heap.size (D ++ (r + cv) :: L.drop (D.length + 1))) := HL'.out.setMid _
          have HD2 : Hid ((wr.setCell ⟨w.heap.size, D.length, none⟩ (.int .u64 (r + cv))).there (w.heap.size + 1) 0 16) := there_set HD.out _ _ _
          have HG2 : Hid (Gp (wr.setCell ⟨w.heap.size, D.length, none⟩ (.int .u64 (r + cv)))) := HG.out.set _ (by dsimp only; omega) _
          have HB2 : Hid (Below w.heap.size w (wr.setCell ⟨w.heap.size, D.length, none⟩ (.int .u64 (r + cv)))) := HB.out.setCell (p := ⟨w.heap.size, D.length, none⟩) (Nat.le_refl _) _
          clear HL' HD HG HB k1 k2
          generalize wr.setCell ⟨w.heap.size, D.length, none⟩ (.int .u64 (r + cv)) = y1 at *
          have hlen2 : (D ++ (r + cv) :: L.drop (D.length + 1)).length = 16 := by simpa using hlen
          obtain ⟨k1, k2⟩ := HL2.out.mid hlen2
          go_wp2
          go_roundw
          case rel => exact ⟨D.length + 1, D ++ [q], (r + cv) / 65536, by omega, by go_num, rfl, by omega, by omega, by simp, HDg.out.app (Dg.mk (by have := HQ.out; omega) (by have := HQ.out; omega) Dg.nil), HS, by
            have := HL2.out.setMid q
            unfold Hid
            rw [List.append_assoc]
            exact this, there_set HD2.out _ _ _, HG2.out.set _ (by dsimp only; omega) _, HB2.out.setCell (p := ⟨w.heap.size, D.length, none⟩) (Nat.le_refl _) _⟩
          case measure => simp [intOf]; omega
        · have e : j = 16 := by omega
          subst e
          obtain ⟨hc, hrest⟩ := pass_all L D cv n hL hDl HF.out HDg.out c0 HE.out
          have z : L.drop 16 = [] := List.drop_eq_nil_of_le (by omega)
          have HL' : Hid (Wrd wr w.heap.size D) := by have := HL.out; rw [z, List.append_nil] at this; exact this
          clear HL
          cases hDc : D with
          | nil => rw [hDc] at hDl; simp at hDl
          | cons d D' =>
            obtain ⟨f1, f2⟩ := hrest d D' hDc
            have HF' : Hid (Fz (n + 1) ((d + 38 * cv) :: D')) := f1
            have HV' : Hid (nv ((d + 38 * cv) :: D') % 57896044618658097711785492504343953926634992332820282019728792003956564819949 = nv l % 57896044618658097711785492504343953926634992332820282019728792003956564819949) := by unfold Hid; rw [f2]; exact HV.out
            have hdd := HDg.out
            rw [hDc] at hdd HL' hDl
            obtain ⟨⟨d0, d1⟩, _⟩ := hdd.cons
            have hl0 : ([] ++ d :: D').length = 16 := hDl
            obtain ⟨k1, k2⟩ := Wrd.mid (D := []) HL'.out hl0
            clear f1 f2 hdd hrest hDc
            simp only [List.length_nil] at k1 k2
            go_wp2
            go_roundw
            case rel => exact ⟨n + 1, (d + 38 * cv) :: D', by omega, by go_num, by simpa using hDl, HF', HV', Wrd.setMid (D := []) HL'.out _, there_set HD.out _ _ _, HG.out.set _ (by dsimp only; omega) _, HB.out.setCell (p := ⟨w.heap.size, 0, none⟩) (Nat.le_refl _) _⟩
            case measure => simp [intOf]; omega
    · have e : n = 3 := by omega
      subst e
      obtain ⟨v1, v2⟩ := HF.out.all rfl
      have H1 : Hid (nv L < 115792089237316195423570985008687907853269984665640564039457584007913129639936) := v1
      have H2 : Hid (Dg L) := v2
      clear v1 v2 HF
      go_wp2
      go_loopw [6] (fun b6 wl => ∃ (bq : Value) (L : List Int), b6 = bq ∧ L.length = 16 ∧ Hid (Dg L) ∧ Hid (nv L < 115792089237316195423570985008687907853269984665640564039457584007913129639936) ∧ Hid (nv L % 57896044618658097711785492504343953926634992332820282019728792003956564819949 = nv l % 57896044618658097711785492504343953926634992332820282019728792003956564819949) ∧ Hid (Wrd wl w.heap.size L) ∧ Hid (wl.there (w.heap.size + 1) 0 16) ∧ Hid (Gp wl) ∧ Hid (Below w.heap.size w wl)) (fun _ wl => (nvW wl w.heap.size).toNat / 57896044618658097711785492504343953926634992332820282019728792003956564819949)
      case atStart => exact ⟨_, L, rfl, hL, H2, H1, HV, HL, HD, HG, HB⟩
      case round =>
        clear HL HD HG HB
        obtain ⟨bq, N, rfl, hN, HDg, HQ, HV', HL, HD, HG, HB⟩ := hrel
        have HM : Hid (nvW wr w.heap.size = nv N) := nvW_eq HL.out hN
        obtain ⟨_, _, hi⟩ := no_cells hN
        go_wp2_with (refine wpList_load_mid rfl 31 (.tmp 1) rfl (w.heap.size) 0 rfl (List.map (Value.int .u64) N) _ HL.out.rng Tryd.underlying31 rfl hi ?_)
        refine (atLeast_any N hN HDg.out _ HG.out).mono ?_
        rintro e w1 ⟨rfl, hb⟩
        replace HL : Hid (Wrd w1 w.heap.size N) := HL.out.later hb
        replace HD : Hid (w1.there (w.heap.size + 1) 0 16) := there_later hb HD.out
        replace HG : Hid (Gp w1) := HG.out.later hb
        replace HB : Hid (Below w.heap.size w w1) := HB.out.trans (hb.mono HB.out.size)
        clear hb
        by_cases ha : 57896044618658097711785492504343953926634992332820282019728792003956564819949 ≤ nv N
        · rw [show atl N = true from decide_eq_true ha]
          have HA : Hid (57896044618658097711785492504343953926634992332820282019728792003956564819949 ≤ nv N) := ha
          clear ha hi
          go_wp2
          go_loopw [6, 7] (fun b i wl => ∃ (j : Nat) (D : List Int) (bv : Int), j ≤ 16 ∧ i = .int .i64 j ∧ b = .int .u64 bv ∧ 0 ≤ bv ∧ bv ≤ 1 ∧ D.length = j ∧ Hid (Dg D) ∧ Hid (nv D + 65536 ^ j * (nv (N.drop j) - nv (pd.drop j) - bv) = nv N - nv pd) ∧ Hid (Wrd wl w.heap.size (D ++ N.drop j)) ∧ Hid (wl.there (w.heap.size + 1) 0 16) ∧ Hid (Gp wl) ∧ Hid (Below w.heap.size w wl)) (fun _ i _ => 16 - (intOf i).toNat)
          case atStart => exact ⟨0, [], 0, by decide, rfl, rfl, by decide, by decide, rfl, Dg.nil, by simp [Hid, nv], by simpa [Hid] using HL, HD, HG, HB⟩
          case round =>
            clear HL HD HG HB
            obtain ⟨j, D, bv, hj, rfl, rfl, b0, b1, hDl, HDd, HE, HL, HD, HG, HB⟩ := hrel
            by_cases hlt2 : j < 16
            · have hjN : j < N.length := by omega
              have hjp : j < pd.length := by rw [pd_len]; exact hlt2
              have ed := drop_cons hjN
              have hr := HDg.out.at j hjN
              have hp := pd_dg.at j hjp
              have HS := take_step N D bv j hDl hjN hjp HE.out
              have HS' : Hid (nv (D ++ [(N[j] + 65536 - pd[j] - bv) % 65536]) + 65536 ^ (j + 1) * (nv (N.drop (j + 1)) - nv (pd.drop (j + 1)) - (1 - (N[j] + 65536 - pd[j] - bv) / 65536)) = nv N - nv pd) := HS
              have hlen : (D ++ N[j] :: N.drop (j + 1)).length = 16 := by rw [← ed, List.length_append, List.length_drop]; omega
              have HL' : Hid (Wrd wr w.heap.size (D ++ N[j] :: N.drop (j + 1))) := by unfold Hid; rw [← ed]; exact HL.out
              have k3 := HG.out.cell j hjp
              clear HL ed HS
              generalize N[j] = r at *
              generalize pd[j] = pj at *
              subst hDl
              obtain ⟨k1, k2⟩ := HL'.out.mid hlen
              obtain ⟨r0, r1⟩ := hr
              obtain ⟨p0, p1⟩ := hp
              have hm := mask16 (r + 65536 - pj - bv) (by omega) (by omega)
              generalize hq : (r + 65536 - pj - bv) % 65536 = q at *
              have HQ2 : Hid ((r + 65536 - pj - bv) % 65536 = q) := hq
              clear hq
              have g2 : (D.length : Int) < 16 := by omega
              go_wp2
              go_region
              all_goals
                go_wp2
                go_roundw
                case rel => exact ⟨D.length + 1, D ++ [q], 1 - (r + 65536 - pj - bv) / 65536, by omega, by go_num, rfl, by omega, by omega, by simp, HDd.out.app (Dg.mk (by have := HQ2.out; omega) (by have := HQ2.out; omega) Dg.nil), HS', by
                  have := HL'.out.drew.setMid q
                  unfold Hid
                  rw [List.append_assoc]
                  exact this, there_set (there_later (Below.refl _ _).drew HD.out) _ _ _, (HG.out.later (Below.refl _ _).drew).set _ (by dsimp only; omega) _, HB.out.drew.setCell (p := ⟨w.heap.size, D.length, none⟩) (Nat.le_refl _) _⟩
                case measure => simp [intOf]; omega
            · have e : j = 16 := by omega
              subst e
              have z : N.drop 16 = [] := List.drop_eq_nil_of_le (by omega)
              have z2 : pd.drop 16 = [] := rfl
              have HL' : Hid (Wrd wr w.heap.size D) := by have := HL.out; rw [z, List.append_nil] at this; exact this
              have HN : Hid (nv D = nv N - 57896044618658097711785492504343953926634992332820282019728792003956564819949) := by
                have h := HE.out
                have h2 := nv_bound D HDd.out
                have h3 := HA.out
                rw [z, z2, nv, nv_pd, show (65536 : Int) ^ 16 = 115792089237316195423570985008687907853269984665640564039457584007913129639936 from by decide] at h
                rw [hDl, show (65536 : Int) ^ 16 = 115792089237316195423570985008687907853269984665640564039457584007913129639936 from by decide] at h2
                unfold Hid
                omega
              have HM2 : Hid (nvW wr w.heap.size = nv D) := nvW_eq HL'.out hDl
              clear HL
              go_wp2
              go_roundw
              case rel => exact ⟨_, _, _, _, _, _, _, _, _, _, _, _, _, _, _, _, _, _, _, _, _, _, _, _, _, _, ⟨_, D, rfl, hDl, HDd, by have := HN.out; have := HQ.out; unfold Hid; omega, by
                unfold Hid
                rw [HN.out, Int.sub_emod_right]
                exact HV'.out, HL', HD, HG, HB⟩, rfl⟩
              case measure =>
                rw [HM2.out, HM.out, HN.out]
                have h3 := HA.out
                omega
        · rw [show atl N = false from decide_eq_false ha]
          have HZ : Hid (N = dg 16 (nv l % 57896044618658097711785492504343953926634992332820282019728792003956564819949)) := by
            have hb := nv_bound N HDg.out
            refine dg_of HDg.out hN ?_
            rw [← HV'.out]
            exact (Int.emod_eq_of_lt hb.1 (by omega)).symm
          clear ha
          obtain ⟨hlen, hone, hi⟩ := no_cells hN
          generalize hcs : (List.map (Value.int .u64) N) = cs at *
          have HC : Hid ((List.map (Value.int .u64) N) = cs) := hcs
          have HR : Hid (w1.rangeAt (w.heap.size) 0 cs) := by unfold Hid; rw [← hcs]; exact HL.out.rng
          clear hcs
          go_wp2_with (first
            | (refine wpList_load_mid rfl 31 (.tmp 1) rfl (w.heap.size) 0 rfl cs _ HR.out Tryd.underlying31 rfl hi ?_)
            | (refine wpList_store_mid rfl 31 (.tmp 2) (.tmp 63) rfl (w.heap.size + 1) 0 cs.toArray rfl rfl (by simpa [hlen] using HD.out) (by simpa using hi) (all_oneCell_toArray hone) ?_))
          have HR2 : Hid ((w1.setCells (w.heap.size + 1) 0 cs).rangeAt (w.heap.size + 1) 0 cs) := World.rangeAt_setCells_same _ _ _ _ (by rw [hlen]; exact HD.out)
          have hld := run_loadVar_mid (P := Tryd.prog) _ _ 0 31 _ _ HR2.out Tryd.underlying31 rfl hi
          exact bodyPost_ret (v := .agg cs.toArray) (by simp [results, Tryd.results29]; exact hld) rfl ⟨N, by rw [HC.out], HZ, below_setCells _ (by omega) _ _ _ HB.out⟩
end Go.Proofs.YtggjifpcoidipaaDoor
