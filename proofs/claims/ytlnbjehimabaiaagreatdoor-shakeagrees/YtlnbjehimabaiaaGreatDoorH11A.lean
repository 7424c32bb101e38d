/-
 Proved: ShakeAgrees returns true for every four arrays of 32 bytes and every four slices of bytes (the statement ShakeAgreesSaid). The variables blake.iv, blake.sigma, shake.tokens read as the text lays it (tied by the card).
-/
import Derived.Test.YtlnbjehimabaiaaGreatDoorPk1
import Derived.Test.YtlnbjehimabaiaaGreatDoorPk47
import Derived.Test.YtlnbjehimabaiaaGreatDoorW11A
import Derived.Test.YtlnbjehimabaiaaGreatDoorCards
import Derived.Test.YtlnbjehimabaiaaGreatDoorTie
import Derived.SevenTiedAt
namespace Go.Proofs.YtlnbjehimabaiaaGreatDoor
open Go.ChangeShapes Go.WideShapes Go.ChangeAt Go.RowKit
set_option maxRecDepth 8000

set_option maxRecDepth 100000 in
theorem shakeAgrees_lifted (os : Os) (started : os.Started) (H : Type) (enc : TypeId × Value → H) :
  ReturnsInHanded {} Tryz.checked os 5 .any (fun w args => (Rows.shakeAgreesSpec.pre enc Tryz.prog Tryz.f5 [] false w args ∧ laidMetH Tryz.prog [("porthole/blake.iv", Rows.laid_porthole_blake_iv), ("porthole/blake.sigma", Rows.laid_porthole_blake_sigma), ("porthole/shake.tokens", Rows.laid_porthole_shake_tokens)] w) ∧ sizedMet enc Tryz.prog Tryz.f5 (OpenSpec.ofChange Rows.shakeAgreesSpec) false w args) (Rows.shakeAgreesSpec.post enc Tryz.prog Tryz.f5 false true false false) := by
 refine returnsInHanded_of_change_and (C := Tryz.checked) (X := fun w _ => laidMetH Tryz.prog [("porthole/blake.iv", Rows.laid_porthole_blake_iv), ("porthole/blake.sigma", Rows.laid_porthole_blake_sigma), ("porthole/shake.tokens", Rows.laid_porthole_shake_tokens)] w) (fun _ _ _ hh h => h.of_heap hh) own started (by kernel_rfl) Tryz.func5
  (ChangeSpec.witness_at (enc := enc) (C := Tryz.checked) (os := os) (X := fun w _ => laidMetH Tryz.prog [("porthole/blake.iv", Rows.laid_porthole_blake_iv), ("porthole/blake.sigma", Rows.laid_porthole_blake_sigma), ("porthole/shake.tokens", Rows.laid_porthole_shake_tokens)] w) false ({ World.holding Tryz.prog os ⟨#[], #[], []⟩ with heap := ((((World.holding Tryz.prog os ⟨#[], #[], []⟩).heap.modify 5 laidIv).modify 6 laidSg).modify 0 laidTk) } : World) #[.agg zb32, .agg zb32, .agg zb32, .agg zb32, .slice none 0 0, .slice none 0 0, .slice none 0 0, .slice none 0 0] 8 rfl (by kernel_rfl) (by kernel_rfl) (by kernel_rfl) (by kernel_rfl) (by kernel_rfl) (laidWorldS_met os _)) ?_
 intro W base args ds gs before hval0 hW _ hsz0 hL _
 have hval : ∀ (j : Nat) t v, Tryz.f5.params[j]? = some t → args[j]? = some v → Value.okWide Tryz.prog W .any base t v := hval0
 have hsz : (DataW.weightsEach Tryz.prog (Tryz.f5.params.toList ++ Rows.shakeAgreesSpec.plain.varTypes Tryz.prog) (ds ++ gs)).all (· ≤ reachBytes) = true := hsz0
 have hW' := hW
 obtain ⟨p, q, hA0, hV, rfl, hfz, hnd⟩ := hW
 have hA : DataW.TrodAll enc Tryz.prog W 0 (fun _ => true) true Tryz.f5.params.toList args.toList ds p := hA0
 rw [Tryz.params5] at hA hval hsz
 obtain ⟨v0, vs0, d0, ds0, p0, q0, hargs, rfl, rfl, h0, r0⟩ := trodAll_cons hA
 obtain ⟨v1, vs1, d1, ds1, p1, q1, rfl, rfl, rfl, h1, r1⟩ := trodAll_cons r0
 obtain ⟨v2, vs2, d2, ds2, p2, q2, rfl, rfl, rfl, h2, r2⟩ := trodAll_cons r1
 obtain ⟨v3, vs3, d3, ds3, p3, q3, rfl, rfl, rfl, h3, r3⟩ := trodAll_cons r2
 obtain ⟨v4, vs4, d4, ds4, p4, q4, rfl, rfl, rfl, h4, r4⟩ := trodAll_cons r3
 obtain ⟨v5, vs5, d5, ds5, p5, q5, rfl, rfl, rfl, h5, r5⟩ := trodAll_cons r4
 obtain ⟨v6, vs6, d6, ds6, p6, q6, rfl, rfl, rfl, h6, r6⟩ := trodAll_cons r5
 obtain ⟨v7, vs7, d7, ds7, p7, q7, rfl, rfl, rfl, h7, r7⟩ := trodAll_cons r6
 obtain ⟨rfl, rfl, rfl⟩ := trodAll_nil r7
 obtain rfl : args = #[v0, v1, v2, v3, v4, v5, v6, v7] := by cases args; simp_all
 obtain ⟨rfl, rfl⟩ := trodVars_none hV
 have lt0 : ∀ x ∈ p0, x.block < W.heap.size := by obtain ⟨m, hm⟩ := h0; exact DataW.trod_lt m _ _ _ hm
 obtain ⟨l0, rfl, hl0⟩ := open_arr32 (hval 0 30 v0 rfl rfl) h0
 have lt1 : ∀ x ∈ p1, x.block < W.heap.size := by obtain ⟨m, hm⟩ := h1; exact DataW.trod_lt m _ _ _ hm
 obtain ⟨l1, rfl, hl1⟩ := open_arr32 (hval 1 30 v1 rfl rfl) h1
 have lt2 : ∀ x ∈ p2, x.block < W.heap.size := by obtain ⟨m, hm⟩ := h2; exact DataW.trod_lt m _ _ _ hm
 obtain ⟨l2, rfl, hl2⟩ := open_arr32 (hval 2 30 v2 rfl rfl) h2
 have lt3 : ∀ x ∈ p3, x.block < W.heap.size := by obtain ⟨m, hm⟩ := h3; exact DataW.trod_lt m _ _ _ hm
 obtain ⟨l3, rfl, hl3⟩ := open_arr32 (hval 3 30 v3 rfl rfl) h3
 obtain ⟨a4, len4, cap4, rfl⟩ := okWide_slice Tryz.underlying25 (hval 4 25 v4 rfl rfl)
 have lt4 : ∀ x ∈ p4, x.block < W.heap.size := by obtain ⟨m, hm⟩ := h4; exact DataW.trod_lt m _ _ _ hm
 obtain ⟨l4, hl4, hd4⟩ := open_bytes h4
 have hlen4 := reach_bytes hsz 4 rfl rfl hd4
 obtain ⟨a5, len5, cap5, rfl⟩ := okWide_slice Tryz.underlying25 (hval 5 25 v5 rfl rfl)
 have lt5 : ∀ x ∈ p5, x.block < W.heap.size := by obtain ⟨m, hm⟩ := h5; exact DataW.trod_lt m _ _ _ hm
 obtain ⟨l5, hl5, hd5⟩ := open_bytes h5
 have hlen5 := reach_bytes hsz 5 rfl rfl hd5
 obtain ⟨a6, len6, cap6, rfl⟩ := okWide_slice Tryz.underlying25 (hval 6 25 v6 rfl rfl)
 have lt6 : ∀ x ∈ p6, x.block < W.heap.size := by obtain ⟨m, hm⟩ := h6; exact DataW.trod_lt m _ _ _ hm
 obtain ⟨l6, hl6, hd6⟩ := open_bytes h6
 have hlen6 := reach_bytes hsz 6 rfl rfl hd6
 obtain ⟨a7, len7, cap7, rfl⟩ := okWide_slice Tryz.underlying25 (hval 7 25 v7 rfl rfl)
 have lt7 : ∀ x ∈ p7, x.block < W.heap.size := by obtain ⟨m, hm⟩ := h7; exact DataW.trod_lt m _ _ _ hm
 obtain ⟨l7, hl7, hd7⟩ := open_bytes h7
 have hlen7 := reach_bytes hsz 7 rfl rfl hd7
 clear hA0 hval0
 refine (shakeAgrees_walk l0 l1 l2 l3 a4 len4 cap4 l4 a5 len5 cap5 l5 a6 len6 cap6 l6 a7 len7 cap7 l7 hl0 hl1 hl2 hl3 hlen4 hlen5 hlen6 hlen7 W hl4 hl5 hl6 hl7 (gs_of_laid hL)).mono fun e W' ⟨he, bel⟩ => ?_
 subst he
 exact ⟨_, rfl, _, _, _, [], _, [], hW', trodAll_mk1 (shut_bool Tryz.underlying4 _), (trodAll_cons_mk (Below.trod laidOut (by kernel_rfl) (of_decide_eq_true (by kernel_rfl)) h0 bel lt0) (trodAll_cons_mk (Below.trod laidOut (by kernel_rfl) (of_decide_eq_true (by kernel_rfl)) h1 bel lt1) (trodAll_cons_mk (Below.trod laidOut (by kernel_rfl) (of_decide_eq_true (by kernel_rfl)) h2 bel lt2) (trodAll_cons_mk (Below.trod laidOut (by kernel_rfl) (of_decide_eq_true (by kernel_rfl)) h3 bel lt3) (trodAll_cons_mk (Below.trod laidOut (by kernel_rfl) (of_decide_eq_true (by kernel_rfl)) h4 bel lt4) (trodAll_cons_mk (Below.trod laidOut (by kernel_rfl) (of_decide_eq_true (by kernel_rfl)) h5 bel lt5) (trodAll_cons_mk (Below.trod laidOut (by kernel_rfl) (of_decide_eq_true (by kernel_rfl)) h6 bel lt6) (trodAll_cons_mk (Below.trod laidOut (by kernel_rfl) (of_decide_eq_true (by kernel_rfl)) h7 bel lt7) trodAll_mk0)))))))), rfl, bel.frame _, fun h => by cases h⟩

/-- The statement. -/
theorem shakeAgrees_holds : Rows.ShakeAgreesSaid :=
 OpenClaim.holds_of_wide 5 Tryz.f5 rfl rfl rfl rfl rfl rfl rfl ⟨rfl, rfl, rfl, rfl, rfl⟩ rfl rfl rfl rfl rfl (by kernel_rfl) Tryz.func5 (by kernel_rfl)
  (of_decide_eq_true (by kernel_rfl)) (by unfold Func.isWrapper; first | (rw [if_pos (by decide +kernel)]; kernel_rfl) | (rw [if_neg (by decide +kernel)]; exact ⟨rfl, rfl⟩))
  (fun os started H enc _ => shakeAgrees_lifted os started H enc)

/-- The card. -/
theorem shakeAgrees_card : Rows.ShakeAgreesCardSaid :=
 Claim7.holds_tied_plain_at .later [] [.data, .data, .data] true (true, "49ba396f87603ca6e7c2a17c87da81ecf12da2b44bce433b839f9320b01c07b3") false
  shakeAgrees_holds (fun _ h => by cases h) (by kernel_rfl) (fun _ h => by cases h) shakeAgrees_row_tie rfl ⟨rfl, rfl⟩ (by kernel_rfl) rfl
  (fun f fn hf hfn => by
   obtain rfl : f = 5 := Option.some.inj ((show Tryz.prog.funcNamed "porthole/portholelaw11.ShakeAgrees" = some 5 by kernel_rfl).symm.trans hf) |>.symm
   obtain rfl : fn = Tryz.f5 := (Option.some.inj (Tryz.func5.symm.trans hfn)).symm
   exact ⟨by kernel_rfl, fun j t ht => by
    rw [Tryz.params5] at ht
    have hm : t ∈ [30, 30, 30, 30, 25, 25, 25, 25] := by
     have := List.mem_of_getElem? (l := [30, 30, 30, 30, 25, 25, 25, 25]) (i := j) (by simpa using ht)
     exact this
    have hall : ∀ t ∈ [30, 30, 30, 30, 25, 25, 25, 25], Tryz.prog.wantsStandIn t = false := by
     intro t h
     simp only [List.mem_cons, List.not_mem_nil, or_false] at h
     rcases h with rfl | rfl | rfl | rfl | rfl | rfl | rfl | rfl <;> kernel_rfl
    exact hall t hm⟩)
  (by kernel_rfl)
#print axioms shakeAgrees_card
end Go.Proofs.YtlnbjehimabaiaaGreatDoor
