/-
  PolyParts' walk. No statement of the seat is proved here.
-/
import Derived.Test.YthacbicakbjgiaaPLaw
namespace Go.Proofs.Ythacbicakbjgiaa
open Go.RowKit

/-- The text: behind every sixteen bytes its number. -/
def tx (N : Nat) : Nat → List Int
  | 0 => List.replicate N 0
  | j + 1 => (tx N j).set (16 * j) ((j : Int) + 1)
theorem tx_len (N : Nat) : ∀ j, (tx N j).length = N
  | 0 => by simp [tx]
  | j + 1 => by rw [tx, List.length_set, tx_len N j]
/-- The sum of the first numbers. -/
def tri : Nat → Int
  | 0 => 0
  | j + 1 => tri j + j + 1
theorem tri_b (j : Nat) (h : j ≤ 20) : 0 ≤ tri j ∧ tri j ≤ 210 := by
  have : ∀ k : Fin 21, 0 ≤ tri k.val ∧ tri k.val ≤ 210 := by decide +kernel
  exact this ⟨j, by omega⟩
theorem parts_num (p : Nat) (h : p < 20) : po 1 (16 * p) 0 (tx (16 * p) p) % 340282366920938463463374607431768211456 = tri p + ((p / 4 : Nat) : Int) * 5 := by
  have : ∀ k : Fin 20, po 1 (16 * k.val) 0 (tx (16 * k.val) k.val) % 340282366920938463463374607431768211456 = tri k.val + ((k.val / 4 : Nat) : Int) * 5 := by decide +kernel
  exact this ⟨p, h⟩
theorem cl5_one (s : List Int) : cl5 (1 :: List.replicate 15 0 ++ s) = 1 := by
  rw [cl5_head (1 :: List.replicate 15 0) s (List.replicate 16 0) rfl]
  decide +kernel
theorem leN_zs : leN (List.replicate 16 0) = 0 := leN_zero 16

set_option maxRecDepth 8000 in
set_option maxHeartbeats 8000000 in
theorem polyParts_walk (s : List Int) (n : Int) (hs : Bn 16 s) (hn : -9223372036854775808 ≤ n ∧ n ≤ 9223372036854775807) (w : World) :
    Calls Try.prog 7 #[(.agg (List.map (Value.int .u8) s).toArray), .int .i64 n] w fun e w' => e = .returned (.bool true) ∧ Below w.heap.size w w' := by
  obtain ⟨i0, hi, hz0, hz1, hz2⟩ := info_parts info5
  have HS : Hid (Bn 16 s) := hs
  clear hs
  go_enter Try.func7, Try.ntmps7
  go_wp2_with fail
  refine (pick_any n 20 hn (by decide) _).mono ?_
  rintro e w' ⟨pp, rfl, p0, p1, hw⟩
  rw [hw]
  clear hw w'
  obtain ⟨p, rfl⟩ := Int.eq_ofNat_of_zero_le p0
  have hp : p < 20 := by omega
  go_upto_region 3 with fail
  have A2 : Hid (Ar ((w.alloc (.cells (List.map (Value.int .u8) s).toArray 23)).alloc (.cells #[.int .u8 0, .int .u8 0, .int .u8 0, .int .u8 0, .int .u8 0, .int .u8 0, .int .u8 0, .int .u8 0, .int .u8 0, .int .u8 0, .int .u8 0, .int .u8 0, .int .u8 0, .int .u8 0, .int .u8 0, .int .u8 0, .int .u8 0, .int .u8 0, .int .u8 0, .int .u8 0, .int .u8 0, .int .u8 0, .int .u8 0, .int .u8 0, .int .u8 0, .int .u8 0, .int .u8 0, .int .u8 0, .int .u8 0, .int .u8 0, .int .u8 0, .int .u8 0] 22)) w.heap.size 16 (List.map (Value.int .u8) s)) := (ar_box w _ 16 HS.out.map_len _).later (bel1 _ _)
  have A5 : Hid (Ar ((w.alloc (.cells (List.map (Value.int .u8) s).toArray 23)).alloc (.cells #[.int .u8 0, .int .u8 0, .int .u8 0, .int .u8 0, .int .u8 0, .int .u8 0, .int .u8 0, .int .u8 0, .int .u8 0, .int .u8 0, .int .u8 0, .int .u8 0, .int .u8 0, .int .u8 0, .int .u8 0, .int .u8 0, .int .u8 0, .int .u8 0, .int .u8 0, .int .u8 0, .int .u8 0, .int .u8 0, .int .u8 0, .int .u8 0, .int .u8 0, .int .u8 0, .int .u8 0, .int .u8 0, .int .u8 0, .int .u8 0, .int .u8 0, .int .u8 0] 22)) (w.heap.size + 1) 32 (List.map (Value.int .u8) (List.replicate 32 0))) := by have := ar_box (w.alloc (.cells (List.map (Value.int .u8) s).toArray 23)) (List.map (Value.int .u8) (List.replicate 32 0)) 32 rfl 22; simpa [Hid] using this
  have HB : Hid (Below w.heap.size w ((w.alloc (.cells (List.map (Value.int .u8) s).toArray 23)).alloc (.cells #[.int .u8 0, .int .u8 0, .int .u8 0, .int .u8 0, .int .u8 0, .int .u8 0, .int .u8 0, .int .u8 0, .int .u8 0, .int .u8 0, .int .u8 0, .int .u8 0, .int .u8 0, .int .u8 0, .int .u8 0, .int .u8 0, .int .u8 0, .int .u8 0, .int .u8 0, .int .u8 0, .int .u8 0, .int .u8 0, .int .u8 0, .int .u8 0, .int .u8 0, .int .u8 0, .int .u8 0, .int .u8 0, .int .u8 0, .int .u8 0, .int .u8 0, .int .u8 0] 22))) := bel2 _ _ _
  generalize ((w.alloc (.cells (List.map (Value.int .u8) s).toArray 23)).alloc (.cells #[.int .u8 0, .int .u8 0, .int .u8 0, .int .u8 0, .int .u8 0, .int .u8 0, .int .u8 0, .int .u8 0, .int .u8 0, .int .u8 0, .int .u8 0, .int .u8 0, .int .u8 0, .int .u8 0, .int .u8 0, .int .u8 0, .int .u8 0, .int .u8 0, .int .u8 0, .int .u8 0, .int .u8 0, .int .u8 0, .int .u8 0, .int .u8 0, .int .u8 0, .int .u8 0, .int .u8 0, .int .u8 0, .int .u8 0, .int .u8 0, .int .u8 0, .int .u8 0] 22)) = W at *
  have k1 : w.heap.size < w.heap.size + 1 := by omega
  generalize w.heap.size + 1 = b5 at *
  obtain ⟨c0, f0⟩ := A5.out.cell 0 (by decide)
  go_upto_region 4 with fail
  replace A2 : Hid (Ar (W.setCell ⟨b5, 0, none⟩ (.int .u8 1)) w.heap.size 16 (List.map (Value.int .u8) s)) := A2.out.else _ _ (by omega) _
  have A6 : Hid (Ar (W.setCell ⟨b5, 0, none⟩ (.int .u8 1)) b5 32 (List.map (Value.int .u8) (1 :: List.replicate 31 0))) := A5.out.set 0 (by decide) (.int .u8 1)
  replace HB : Hid (Below w.heap.size w (W.setCell ⟨b5, 0, none⟩ (.int .u8 1))) := HB.out.setCell (p := ⟨b5, 0, none⟩) (by dsimp only; omega) _
  clear c0 f0 A5
  have A5 := A6
  clear A6
  generalize W.setCell ⟨b5, 0, none⟩ (.int .u8 1) = W1 at *
  refine wp_region_noPanic ?_
  refine wp_region_held_drew (S := ExtB b5 W1) (by kernel_rfl) (ExtB.refl _ _).drew (fun hH => ?_)
  change wpAnyH _ _ _ _ _ _ #[false, false, false] _ _
  refine wpAnyH_take (i := 0) (oi := ?o0c) (v := ?v0c) ?h0c (by kernel_rfl) ?f0c ?r0c (fun _ _ _ h => h) (Or.inl ⟨?w0c, ?y0c⟩) (by assumption) ?t0c
  case h0c => simp only [List.getElem?_toArray]; rfl
  case f0c => kernel_rfl
  case r0c => kernel_rfl
  case w0c => rfl
  case y0c => (intro u hu; (go_simp) <;> with_reducible rfl)
  try simp only [Act.put, List.setIfInBounds_toArray, List.set_cons_zero, List.set_cons_succ]
  refine wpAnyH_take (i := 1) (oi := ?o1c) (v := ?v1c) ?h1c (by kernel_rfl) ?f1c ?r1c (fun _ _ _ h => h) (Or.inl ⟨?w1c, ?y1c⟩) (by assumption) ?t1c
  case h1c => simp only [List.getElem?_toArray]; rfl
  case f1c => kernel_rfl
  case r1c => kernel_rfl
  case w1c => rfl
  case y1c => (intro u hu; (go_simp) <;> with_reducible rfl)
  try simp only [Act.put, List.setIfInBounds_toArray, List.set_cons_zero, List.set_cons_succ]
  have hcp := fun ty => copy_c W1.drew b5 16 16 16 ⟨w.heap.size, 0, none⟩ 16 16 s (A2.out.drew.rd_all HS.out.byt 16 (by decide)) 16 (by decide) (there_part A5.out.drew.all 16 16 (by decide)) ty
  rw [List.take_of_length_le (by rw [HS.out.len]; exact Nat.le_refl _)] at hcp
  refine wpAnyH_ready (rs := [2]) (by kernel_rfl) (by simp) ?_
  refine AllReadyH.cons (o := ?o2c) ?h2c (fun K hK => ?_) AllReadyH.nil
  case h2c => simp only [List.getElem?_toArray]; rfl
  go_simp
  refine hK.out _ _ (extB_setCells _ _ _ hH) (fun hH' => ?_)
  clear hK K hH
  have hH := hH'
  clear hH'
  try simp only [List.setIfInBounds_toArray, List.set]
  refine wpAnyH_done (by kernel_rfl) ?_ _
  refine NoPanic.normal ?_
  clear hcp
  have HKN : Hid (Bn 32 (1 :: List.replicate 15 0 ++ s)) := ⟨by simp [HS.out.len], (Byt.cons (by decide) (by decide) (byt_zero 15)).app HS.out.byt⟩
  have A6 : Hid (Ar (W1.drew.setCells b5 16 (List.map (Value.int .u8) s)) b5 32 (List.map (Value.int .u8) (1 :: List.replicate 15 0 ++ s))) := by
    have := A5.out.drew.part 16 (List.map (Value.int .u8) s) (by rw [HS.out.map_len]; decide)
    rw [HS.out.map_len, ← List.map_take, ← List.map_drop, ← List.map_append, ← List.map_append] at this
    simpa [Hid] using this
  replace A2 : Hid (Ar (W1.drew.setCells b5 16 (List.map (Value.int .u8) s)) w.heap.size 16 (List.map (Value.int .u8) s)) := A2.out.drew.else_cells (by omega) _ _
  replace HB : Hid (Below w.heap.size w (W1.drew.setCells b5 16 (List.map (Value.int .u8) s))) := below_setCells _ (by omega) _ _ _ HB.out.drew
  clear A5 hH
  have A5 := A6
  clear A6
  obtain ⟨N, hN⟩ : ∃ N : Nat, N = 16 * p := ⟨_, rfl⟩
  have hNi : 16 * (p : Int) = (N : Int) := by omega
  have hNb : N ≤ 320 := by omega
  have HN : Hid (N = 16 * p) := hN
  clear hN
  go_upto_region 5 with fail
  generalize W1.drew.setCells b5 16 (List.map (Value.int .u8) s) = Y at *
  go_wp2_with (at_make; refine wpList_make_full _ rfl _ _ 25 rfl w.heap.size 5 i0 (.int .u8 0) 1 Try.underlying25 hi hz0 hz1 _ _ _ _ N rfl rfl rfl rfl (by rw [hz2]; omega) (by unfold maxLen; omega) HB.out.size ?_)
  intro Y1 hown hgrow
  have hg6 : b5 < Y.heap.size := A5.out.lt (by decide)
  have hb1 : Below Y.heap.size Y Y1 := (Below.refl _ _).grown hgrow (Nat.le_refl _) (fun k h => by cases h)
  have OT : Hid (Ow Y1 Y.heap.size N (tx N 0)) := ⟨⟨w.heap.size, by rw [tx, ← made_zero]; simpa [Value.cells] using hown⟩, byt_zero N⟩
  replace A2 : Hid (Ar Y1 w.heap.size 16 (List.map (Value.int .u8) s)) := A2.out.later hb1
  replace A5 : Hid (Ar Y1 b5 32 (List.map (Value.int .u8) (1 :: List.replicate 15 0 ++ s))) := A5.out.later hb1
  have hg1 : w.heap.size ≤ Y.heap.size := HB.out.size
  have hg5 : b5 < Y1.heap.size := A5.out.lt (by decide)
  replace HB : Hid (Below w.heap.size w Y1) := HB.out.trans (hb1.mono HB.out.size)
  clear hown hgrow hb1
  generalize Y.heap.size = g at *
  go_wp2
  go_loopw [7, 8] (fun sm i wr => ∃ j : Nat, j ≤ p ∧ i = .int .i64 j ∧ sm = .int .i64 (tri j) ∧ Hid (Ow wr g N (tx N j)) ∧ Hid (Ar wr w.heap.size 16 (List.map (Value.int .u8) s)) ∧ Hid (Ar wr b5 32 (List.map (Value.int .u8) (1 :: List.replicate 15 0 ++ s))) ∧ Hid (Below w.heap.size w wr)) (fun _ i _ => p - (intOf i).toNat)
  case atStart => exact ⟨0, Nat.zero_le _, rfl, rfl, OT, A2, A5, HB⟩
  case round =>
    clear OT A2 A5 HB
    obtain ⟨j, hj, rfl, rfl, OT, A2, A5, HB⟩ := hrel
    by_cases hlt : j < p
    · have g1 : (j : Int) < p := by omega
      obtain ⟨M, hM⟩ : ∃ M : Nat, M = 16 * j := ⟨_, rfl⟩
      have hMi : 16 * (j : Int) = (M : Int) := by omega
      have hMN : M < N := by have := HN.out; omega
      have hMNi : (M : Int) < N := by omega
      have htn : (M : Int).toNat = M := by omega
      obtain ⟨y, cy, fy, -, -, -⟩ := OT.out.cell M hMN
      have hw1 : IntKind.u8.wrap ((j : Int) + 1) = (j : Int) + 1 := by rw [IntKind.wrap_u8]; omega
      have HTX : Hid (tx N (j + 1) = (tx N j).set M ((j : Int) + 1)) := by unfold Hid; rw [tx, hM]
      have HTR : Hid (tri (j + 1) = tri j + j + 1) := rfl
      obtain ⟨t0, t1⟩ := tri_b j (by omega)
      generalize tri j = tj at *
      clear hM
      go_wp2
      go_roundw
      case rel => exact ⟨j + 1, by omega, by go_num, by rw [HTR.out], by unfold Hid; rw [HTX.out]; exact OT.out.set M (by omega) (by omega), A2.out.else _ _ (by omega) _, A5.out.else _ _ (by omega) _, HB.out.setCell (p := ⟨g, M, none⟩) hg1 _⟩
      case measure => simp [intOf]; omega
    · have e : j = p := by omega
      subst e
      obtain ⟨t0, t1⟩ := tri_b j (by omega)
      have HPN0 := parts_num j hp
      obtain ⟨d, hd⟩ : ∃ d : Nat, d = j / 4 := ⟨_, rfl⟩
      have hd1 : Int.tdiv (j : Int) 4 = (d : Int) := by rw [Int.tdiv_eq_ediv_of_nonneg (by omega)]; omega
      have hd2 : d ≤ 5 := by omega
      obtain ⟨lf, hlf⟩ : ∃ l, l = Int.tmod (j : Int) 4 := ⟨_, rfl⟩
      have hlf1 : Int.tmod (j : Int) 4 = lf := hlf.symm
      have hlf2 : lf < 4 := by rw [hlf]; exact Int.tmod_lt_of_pos _ (by decide)
      clear hlf
      rw [← hd] at HPN0
      obtain ⟨c0, hc0⟩ : ∃ c, c = tri j + (d : Int) * 5 := ⟨_, rfl⟩
      have HPNx : Hid (po 1 (16 * j) 0 (tx (16 * j) j) % 340282366920938463463374607431768211456 = c0) := by unfold Hid; rw [hc0]; exact HPN0
      have hcb : 0 ≤ c0 ∧ c0 ≤ 235 := by omega
      have hcs0 : tri j + (d : Int) * 5 = c0 := hc0.symm
      clear HPN0 hc0 hd
      obtain ⟨_, _, hiS⟩ := bn16_cells HS.out
      obtain ⟨_, _, hiK⟩ := bn32_cells HKN.out
      have HPNj : Hid (po (cl5 (1 :: List.replicate 15 0 ++ s)) N 0 (tx N j) % 340282366920938463463374607431768211456 = c0) := by
        unfold Hid
        rw [cl5_one, HN.out]
        exact HPNx.out
      clear HPNx
      generalize tri j = tj at *
      go_upto_region 14 with fail
      obtain ⟨hlen8, hone8, hi8⟩ := bn16_cells HS.out
      obtain ⟨cs8, hcs⟩ : ∃ cs, cs = (List.map (Value.int .u8) s) := ⟨_, rfl⟩
      rw [← hcs] at hlen8 hone8 hi8 A2
      have HC8 : Hid (cs8 = (List.map (Value.int .u8) s)) := hcs
      clear hcs
      have hth := there_new wr 16 #[.int .u8 0, .int .u8 0, .int .u8 0, .int .u8 0, .int .u8 0, .int .u8 0, .int .u8 0, .int .u8 0, .int .u8 0, .int .u8 0, .int .u8 0, .int .u8 0, .int .u8 0, .int .u8 0, .int .u8 0, .int .u8 0] rfl 23
      have A9 : Hid (Ar ((wr.alloc (.cells #[.int .u8 0, .int .u8 0, .int .u8 0, .int .u8 0, .int .u8 0, .int .u8 0, .int .u8 0, .int .u8 0, .int .u8 0, .int .u8 0, .int .u8 0, .int .u8 0, .int .u8 0, .int .u8 0, .int .u8 0, .int .u8 0] 23)).setCells wr.heap.size 0 cs8) wr.heap.size 16 cs8) := ar_var _ _ 16 rfl _ _ hlen8
      have hX : Below wr.heap.size wr ((wr.alloc (.cells #[.int .u8 0, .int .u8 0, .int .u8 0, .int .u8 0, .int .u8 0, .int .u8 0, .int .u8 0, .int .u8 0, .int .u8 0, .int .u8 0, .int .u8 0, .int .u8 0, .int .u8 0, .int .u8 0, .int .u8 0, .int .u8 0] 23)).setCells wr.heap.size 0 cs8) := bel_var _ _ _ _
      replace HB : Hid (Below w.heap.size w ((wr.alloc (.cells #[.int .u8 0, .int .u8 0, .int .u8 0, .int .u8 0, .int .u8 0, .int .u8 0, .int .u8 0, .int .u8 0, .int .u8 0, .int .u8 0, .int .u8 0, .int .u8 0, .int .u8 0, .int .u8 0, .int .u8 0, .int .u8 0] 23)).setCells wr.heap.size 0 cs8)) := HB.out.trans (hX.mono HB.out.size)
      have hb9g : g < wr.heap.size := OT.out.lt
      replace OT : Hid (Ow ((wr.alloc (.cells #[.int .u8 0, .int .u8 0, .int .u8 0, .int .u8 0, .int .u8 0, .int .u8 0, .int .u8 0, .int .u8 0, .int .u8 0, .int .u8 0, .int .u8 0, .int .u8 0, .int .u8 0, .int .u8 0, .int .u8 0, .int .u8 0] 23)).setCells wr.heap.size 0 cs8) g N (tx N j)) := OT.out.later hX
      have hb95 : b5 < wr.heap.size := A5.out.lt (by decide)
      replace A5 : Hid (Ar ((wr.alloc (.cells #[.int .u8 0, .int .u8 0, .int .u8 0, .int .u8 0, .int .u8 0, .int .u8 0, .int .u8 0, .int .u8 0, .int .u8 0, .int .u8 0, .int .u8 0, .int .u8 0, .int .u8 0, .int .u8 0, .int .u8 0, .int .u8 0] 23)).setCells wr.heap.size 0 cs8) b5 32 (List.map (Value.int .u8) (1 :: List.replicate 15 0 ++ s))) := A5.out.later hX
      clear hX
      go_upto_region 15 with (first
        | (refine wpList_load_mid rfl 23 (.tmp 2) rfl w.heap.size 0 rfl cs8 _ A2.out.rng Try.underlying23 rfl hi8 ?_)
        | (refine wpList_store_mid rfl 23 (.tmp 10) (.tmp 45) rfl (wr.heap.size) 0 cs8.toArray rfl rfl (by simpa [hlen8] using hth) (by simpa using hi8) (all_oneCell_toArray hone8) ?_))
      clear hth A2
      have hb9 : w.heap.size ≤ wr.heap.size := by omega
      generalize (wr.alloc (.cells #[.int .u8 0, .int .u8 0, .int .u8 0, .int .u8 0, .int .u8 0, .int .u8 0, .int .u8 0, .int .u8 0, .int .u8 0, .int .u8 0, .int .u8 0, .int .u8 0, .int .u8 0, .int .u8 0, .int .u8 0, .int .u8 0] 23)).setCells wr.heap.size 0 cs8 = W4 at *
      generalize wr.heap.size = b9 at *
      go_wp2
      obtain ⟨Z, hZ⟩ : ∃ Z, Z = addL s (List.replicate 16 0) c0 := ⟨_, rfl⟩
      have HZ : Hid (Z = addL s (List.replicate 16 0) c0) := hZ
      have hlay : addL s (List.replicate 16 0) c0 = lay 16 (leN s + 0 + c0) := by have := addL_lay s (List.replicate 16 0) c0 (by rw [HS.out.len]; rfl); rw [HS.out.len, leN_zs] at this; exact this
      have HZL : Hid (Z.length = 16) := by unfold Hid; rw [hZ, hlay, lay_length]
      have HZn : Hid (Bn 16 Z) := ⟨HZL.out, by rw [hZ, hlay]; exact lay_byt _ _⟩
      have HFin : Hid (tg (1 :: List.replicate 15 0 ++ s) (tx N j) = Z) := by
        unfold Hid tg
        have hdk : List.drop 16 (1 :: List.replicate 15 0 ++ s) = s := by simp
        rw [hZ, hlay, tx_len, hdk]
        refine lay_cong _ _ ?_
        have := HPNj.out
        omega
      clear hZ hlay
      have AC : Hid (Ar W4 b9 16 (List.map (Value.int .u8) (Z.take 0 ++ s.drop 0))) := by
        unfold Hid
        rw [List.take_zero, List.nil_append, List.drop_zero, ← HC8.out]
        exact A9.out
      clear A9
      have hct : 0 ≤ c0 ∧ c0 ≤ 300 := by omega
      go_loopw [11, 12] (fun c i wr => ∃ (q : Nat) (cc : Int), q ≤ 16 ∧ i = .int .i64 q ∧ c = .int .i64 cc ∧ 0 ≤ cc ∧ cc ≤ 300 ∧ Hid (addL (s.drop q) ((List.replicate 16 0).drop q) cc = Z.drop q) ∧ Hid (Ar wr b9 16 (List.map (Value.int .u8) (Z.take q ++ s.drop q))) ∧ Hid (Ar wr b5 32 (List.map (Value.int .u8) (1 :: List.replicate 15 0 ++ s))) ∧ Hid (Ow wr g N (tx N j)) ∧ Hid (Below w.heap.size w wr)) (fun _ i _ => 16 - (intOf i).toNat)
      case atStart => exact ⟨0, c0, by decide, rfl, rfl, hct.1, hct.2, by rw [List.drop_zero, List.drop_zero, List.drop_zero]; exact HZ.out.symm, AC, A5, OT, HB⟩
      case round =>
        clear AC A5 OT HB
        obtain ⟨q, cc, hq, rfl, rfl, hc0, hc1, HA, AC, A5, OT, HB⟩ := hrel
        by_cases hlt : q < 16
        · have g1 : (q : Int) < 16 := by omega
          have lx : q < s.length := by rw [HS.out.len]; exact hlt
          have lz : q ≤ Z.length := by rw [HZL.out]; omega
          obtain ⟨z, hz, hz2, hnext⟩ := addL_drop s (List.replicate 16 0) Z q cc lx (by simpa using hlt) HA.out
          rw [List.getElem_replicate] at hz2 hnext
          have hxb := HS.out.byt _ (List.getElem_mem lx)
          obtain ⟨ck, fk⟩ : wr.cell? ⟨b9, q, none⟩ = some (.int .u8 s[q]) ∧ wr.frozen? ⟨b9, q, none⟩ = false := by
            have h := AC.out.cell q hlt
            refine ⟨?_, h.2⟩
            rw [h.1, List.getElem_map]
            congr 2
            have e : (Z.take q ++ s.drop q)[q]? = some s[q] := half2_at Z s q lz lx
            rw [List.getElem?_eq_getElem (by have := AC.out.len; rw [List.length_map] at this; omega)] at e
            exact Option.some.inj e
          have HZq : Hid (Z[q]? = some z) := hz
          clear hz HA
          generalize s[q] = xj at *
          obtain ⟨q0, hq0⟩ : ∃ q, q = (cc + xj) / 256 := ⟨_, rfl⟩
          rw [Int.add_zero] at hz2 hnext
          rw [← hq0] at hnext
          have HNX : Hid (addL (s.drop (q + 1)) ((List.replicate 16 0).drop (q + 1)) q0 = Z.drop (q + 1)) := hnext
          have hq1 : IntKind.u8.wrap (cc + xj) = z := by rw [IntKind.wrap_u8, hz2]
          have hq2 : Int.tdiv (cc + xj) 256 = q0 := by rw [Int.tdiv_eq_ediv_of_nonneg (by omega), hq0]
          have hq3 : 0 ≤ q0 ∧ q0 ≤ 300 := by omega
          have hzb : 0 ≤ z ∧ z ≤ 255 := by omega
          obtain ⟨hx0, hx1⟩ := hxb
          obtain ⟨hq30, hq31⟩ := hq3
          have htn : (q : Int).toNat = q := by omega
          clear hq0 hz2 hnext
          go_wp2
          go_roundw
          case rel => exact ⟨q + 1, q0, by omega, by go_num, rfl, hq30, hq31, HNX, by
            have := AC.out.set q hlt (.int .u8 z)
            rw [← List.map_set, half2_set Z s q z HZq.out lx] at this
            exact this, A5.out.else _ _ (by omega) _, OT.out.else _ _ (by omega) _, HB.out.setCell (p := ⟨b9, q, none⟩) (by dsimp only; omega) _⟩
          case measure => simp [intOf]; omega
        · have e : q = 16 := by omega
          subst e
          obtain ⟨hlen9, hone9, hi9⟩ := bn16_cells HZn.out
          obtain ⟨cs9, hcs⟩ : ∃ cs, cs = (List.map (Value.int .u8) Z) := ⟨_, rfl⟩
          rw [← hcs] at hlen9 hone9 hi9
          have HC9 : Hid (cs9 = (List.map (Value.int .u8) Z)) := hcs
          clear hcs
          have A9 : Hid (Ar wr b9 16 cs9) := by
            have e1 : Z.take 16 = Z := List.take_of_length_le (by rw [HZL.out]; decide)
            have e2 : s.drop 16 = [] := List.drop_eq_nil_of_le (by rw [HS.out.len]; decide)
            have := AC.out
            rw [e1, e2, List.append_nil, ← HC9.out] at this
            exact this
          clear AC HA
          go_upto_region 22 with fail
          refine wp_region_noPanic ?_
          refine wp_region_held_drew (S := Ext wr) (by kernel_rfl) (Ext.refl _).drew (fun hH => ?_)
          change wpAnyH _ _ _ _ _ _ #[false, false, false, false, false, false, false, false, false, false, false, false, false] _ _
          refine wpAnyH_ready (rs := [0]) (by kernel_rfl) (by simp) ?_
          refine AllReadyH.cons (o := ?o0z) ?h0z (fun K hK => ?_) AllReadyH.nil
          case h0z => simp only [List.getElem?_toArray]; rfl
          go_simp
          refine (known5_any _).mono ?_
          rintro e V1 ⟨rfl, hb⟩
          refine hK.out _ _ (hH.trans hb) (fun hH' => ?_)
          clear hK K hH
          have hH := hH'
          clear hH'
          try simp only [List.setIfInBounds_toArray, List.set]
          clear hb
          refine wpAnyH_take (i := 1) (oi := ?o1z) (v := ?v1z) ?h1z (by kernel_rfl) ?f1z ?r1z (fun _ _ _ h => h) (Or.inl ⟨?w1z, ?y1z⟩) (by assumption) ?t1z
          case h1z => simp only [List.getElem?_toArray]; rfl
          case f1z => kernel_rfl
          case r1z => kernel_rfl
          case w1z => rfl
          case y1z => (intro u hu; (go_simp) <;> with_reducible rfl)
          try simp only [Act.put, List.setIfInBounds_toArray, List.set_cons_zero, List.set_cons_succ]
          refine wpAnyH_take (i := 2) (oi := ?o2z) (v := .agg (List.map (Value.int .u8) (1 :: List.replicate 15 0 ++ s)).toArray) ?h2z (by kernel_rfl) ?f2z ?r2z (fun _ _ _ h => h) ?y2z (by assumption) ?t2z
          case h2z => simp only [List.getElem?_toArray]; rfl
          case f2z => kernel_rfl
          case r2z => kernel_rfl
          case y2z => exact yieldsIf_load_mid (by rfl) 22 (.tmp 5) rfl b5 0 rfl (List.map (Value.int .u8) (1 :: List.replicate 15 0 ++ s)) _ (fun u hu => range_later hu A5.out.rng) Try.underlying22 rfl hiK
          try simp only [Act.put, List.setIfInBounds_toArray, List.set_cons_zero, List.set_cons_succ]
          refine wpAnyH_take (i := 3) (oi := ?o3z) (v := ?v3z) ?h3z (by kernel_rfl) ?f3z ?r3z (fun _ _ _ h => h) (Or.inl ⟨?w3z, ?y3z⟩) (by assumption) ?t3z
          case h3z => simp only [List.getElem?_toArray]; rfl
          case f3z => kernel_rfl
          case r3z => kernel_rfl
          case w3z => rfl
          case y3z => (intro u hu; (go_simp) <;> with_reducible rfl)
          try simp only [Act.put, List.setIfInBounds_toArray, List.set_cons_zero, List.set_cons_succ]
          refine wpAnyH_take (i := 5) (oi := ?o5z) (v := .agg cs9.toArray) ?h5z (by kernel_rfl) ?f5z ?r5z (fun _ _ _ h => h) ?y5z (by assumption) ?t5z
          case h5z => simp only [List.getElem?_toArray]; rfl
          case f5z => kernel_rfl
          case r5z => kernel_rfl
          case y5z => exact yieldsIf_load_mid (by rfl) 23 (.tmp 10) rfl b9 0 rfl cs9 _ (fun u hu => range_later hu A9.out.rng) Try.underlying23 rfl hi9
          try simp only [Act.put, List.setIfInBounds_toArray, List.set_cons_zero, List.set_cons_succ]
          refine wpAnyH_ready (rs := [4]) (by kernel_rfl) (by simp) ?_
          refine AllReadyH.cons (o := ?o4z) ?h4z (fun K hK => ?_) AllReadyH.nil
          case h4z => simp only [List.getElem?_toArray]; rfl
          go_simp
          refine (tag_c (some ⟨g, 0, none⟩) N N (1 :: List.replicate 15 0 ++ s) (tx N j) HKN.out _ ((OT.out.later hH).rd) (by omega)).mono ?_
          rintro e V2 ⟨T, rfl, HTg, hT, hb⟩
          refine hK.out _ _ (hH.trans hb) (fun hH' => ?_)
          clear hK K hH
          have hH := hH'
          clear hH'
          try simp only [List.setIfInBounds_toArray, List.set]
          have heq : ∀ u, Sem.run Try.prog (binOp .eql 23 (.agg (List.map (Value.int .u8) T).toArray) (.agg cs9.toArray)) u = .ok (.bool true) u := fun u => by
            rw [HC9.out]
            exact eql16 T Z hT (by rw [HTg.out]; exact HFin.out) u
          refine wpAnyH_take (i := 6) (oi := ?o6z) (v := ?v6z) ?h6z (by kernel_rfl) ?f6z ?r6z (fun _ _ _ h => h) (Or.inl ⟨?w6z, ?y6z⟩) (by assumption) ?t6z
          case h6z => simp only [List.getElem?_toArray]; rfl
          case f6z => kernel_rfl
          case r6z => kernel_rfl
          case w6z => rfl
          case y6z => (intro u hu; (go_simp) <;> with_reducible rfl)
          try simp only [Act.put, List.setIfInBounds_toArray, List.set_cons_zero, List.set_cons_succ]
          refine wpAnyH_take (i := 7) (oi := ?o7z) (v := ?v7z) ?h7z (by kernel_rfl) ?f7z ?r7z (fun _ _ _ h => h) (Or.inl ⟨?w7z, ?y7z⟩) (by assumption) ?t7z
          case h7z => simp only [List.getElem?_toArray]; rfl
          case f7z => kernel_rfl
          case r7z => kernel_rfl
          case w7z => rfl
          case y7z => (intro u hu; (go_simp) <;> with_reducible rfl)
          try simp only [Act.put, List.setIfInBounds_toArray, List.set_cons_zero, List.set_cons_succ]
          refine wpAnyH_take (i := 8) (oi := ?o8z) (v := ?v8z) ?h8z (by kernel_rfl) ?f8z ?r8z (fun _ _ _ h => h) (Or.inl ⟨?w8z, ?y8z⟩) (by assumption) ?t8z
          case h8z => simp only [List.getElem?_toArray]; rfl
          case f8z => kernel_rfl
          case r8z => kernel_rfl
          case w8z => rfl
          case y8z => (intro u hu; (go_simp) <;> with_reducible rfl)
          try simp only [Act.put, List.setIfInBounds_toArray, List.set_cons_zero, List.set_cons_succ]
          refine wpAnyH_take (i := 9) (oi := ?o9z) (v := ?v9z) ?h9z (by kernel_rfl) ?f9z ?r9z (fun _ _ _ h => h) (Or.inl ⟨?w9z, ?y9z⟩) (by assumption) ?t9z
          case h9z => simp only [List.getElem?_toArray]; rfl
          case f9z => kernel_rfl
          case r9z => kernel_rfl
          case w9z => rfl
          case y9z => (intro u hu; (go_simp) <;> with_reducible rfl)
          try simp only [Act.put, List.setIfInBounds_toArray, List.set_cons_zero, List.set_cons_succ]
          refine wpAnyH_take (i := 10) (oi := ?o10z) (v := ?v10z) ?h10z (by kernel_rfl) ?f10z ?r10z (fun _ _ _ h => h) (Or.inl ⟨?w10z, ?y10z⟩) (by assumption) ?t10z
          case h10z => simp only [List.getElem?_toArray]; rfl
          case f10z => kernel_rfl
          case r10z => kernel_rfl
          case w10z => rfl
          case y10z => (intro u hu; (go_simp) <;> with_reducible rfl)
          try simp only [Act.put, List.setIfInBounds_toArray, List.set_cons_zero, List.set_cons_succ]
          refine wpAnyH_take (i := 11) (oi := ?o11z) (v := ?v11z) ?h11z (by kernel_rfl) ?f11z ?r11z (fun _ _ _ h => h) (Or.inl ⟨?w11z, ?y11z⟩) (by assumption) ?t11z
          case h11z => simp only [List.getElem?_toArray]; rfl
          case f11z => kernel_rfl
          case r11z => kernel_rfl
          case w11z => rfl
          case y11z => (intro u hu; (go_simp) <;> with_reducible rfl)
          try simp only [Act.put, List.setIfInBounds_toArray, List.set_cons_zero, List.set_cons_succ]
          refine wpAnyH_take (i := 12) (oi := ?o12z) (v := ?v12z) ?h12z (by kernel_rfl) ?f12z ?r12z (fun _ _ _ h => h) (Or.inl ⟨?w12z, ?y12z⟩) (by assumption) ?t12z
          case h12z => simp only [List.getElem?_toArray]; rfl
          case f12z => kernel_rfl
          case r12z => kernel_rfl
          case w12z => rfl
          case y12z => (intro u hu; (go_simp) <;> with_reducible rfl)
          try simp only [Act.put, List.setIfInBounds_toArray, List.set_cons_zero, List.set_cons_succ]
          refine wpAnyH_done (by kernel_rfl) ?_ _
          refine NoPanic.normal ?_
          have hEn : Below w.heap.size w V2 := HB.out.trans (Below.mono hH HB.out.size)
          clear hH
          go_wp2
          go_ret
          exact ⟨rfl, hEn⟩
end Go.Proofs.Ythacbicakbjgiaa
