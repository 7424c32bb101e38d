/-
  Proved: BlakeApart returns true for every two lists of slices of bytes, where what it reads is of bulk at most 1048576 (the statement BlakeApartUptoCardSaid). Its conditions: that bound; the variables iv, sigma read as the text lays them (tied by the card).
-/
import Derived.Test.YtgblbhocpafgcaaDoorBLaid
import Derived.Test.YtgblbhocpafgcaaDoorL7A
import Derived.Test.YtgblbhocpafgcaaDoorCards
import Derived.Test.YtgblbhocpafgcaaDoorTie
import Derived.SevenTiedAt
import Derived.JoinedCond
import Derived.Deep.DeepHandedRow
import Derived.Deep.Matrix
namespace Go.Proofs.YtgblbhocpafgcaaDoor
open Go.ChangeShapes Go.WideShapes Go.ChangeAt Go.RowKit Go.Deep

theorem bulk_one {H : Type} (d : DataW H) : 1 ≤ Rows.uptoBulk d := by
  cases d with
  | lit l => cases l <;> simp [Rows.uptoBulk]
  | _ => simp [Rows.uptoBulk]
theorem bulk_len {H : Type} (l : List (DataW H)) : l.length ≤ Rows.uptoBulkAll l := by
  induction l with
  | nil => simp [Rows.uptoBulkAll]
  | cons x r ih => have := bulk_one x; simp only [Rows.uptoBulkAll, List.length_cons]; omega
theorem bulk_rows {H : Type} (F : Nat → DataW H) (G : Nat → List Int) (h : ∀ r, (G r).length ≤ Rows.uptoBulk (F r)) : ∀ rs : List Nat, (rs.map G).flatten.length ≤ Rows.uptoBulkAll (rs.map F)
  | [] => by simp [Rows.uptoBulkAll]
  | r :: rs => by
    have h1 := h r
    have h2 := bulk_rows F G h rs
    simp only [List.map_cons, List.flatten_cons, List.length_append, Rows.uptoBulkAll]
    omega
theorem cellsS : Tryd.prog.cellsOf 28 = 1 := by kernel_rfl
/-- A list of slices of bytes that came in. -/
theorem open_lists {H : Type} {enc : TypeId × Value → H} {W : World} {base : Nat} {held : Bool} {a : Option Addr} {len cap : Nat} {d : DataW H} {p : List MemPlace} (h : DataW.Trod enc Tryd.prog W base (fun _ => true) held 36 (.slice a len cap) d p) :
    ∃ L, RdL W a len L ∧ len ≤ Rows.uptoBulk d ∧ L.flatten.length ≤ Rows.uptoBulk d := by
  obtain ⟨fuel, hf⟩ := h
  rcases open_int_rows Tryd.underlying36 Tryd.underlying28 Tryd.underlying5 cellsS cells5 hf with ⟨hcs, hx⟩ | ⟨x, l, c, A, N, C, Z, hcs, _, hl, hm, hx, hrow⟩
  · simp [Value.cells] at hcs
    obtain ⟨rfl, rfl, rfl⟩ := hcs
    exact ⟨[], ⟨rfl, fun h => by omega⟩, by omega, by simp⟩
  · simp [Value.cells] at hcs
    obtain ⟨rfl, rfl, rfl⟩ := hcs
    simp only [Prod.mk.injEq] at hx
    obtain ⟨hd, _⟩ := hx
    have hb : ∀ r, ((Z r).take (N r)).length ≤ Rows.uptoBulk (intRow (H := H) .u8 (A r) (N r) (if A r = none then [] else Z r)) ∨ A r = none := by
      intro r
      by_cases hA : A r = none
      · exact .inr hA
      · left
        rw [if_neg hA]
        cases hA' : A r with
        | none => exact absurd hA' hA
        | some y =>
          simp only [intRow, Rows.uptoBulk]
          have := bulk_len (lits (H := H) .u8 ((Z r).take (N r)))
          simp only [lits, List.length_map] at this
          simp only [lits]
          omega
    refine ⟨(List.range len).map fun r => if A r = none then [] else (Z r).take (N r), ⟨by simp, fun h0 => ?_⟩, ?_, ?_⟩
    · obtain ⟨b, off, spot⟩ := x
      have hspot : spot = none := by simpa [Addr.add] using World.cell?_spot (hrow 0 (by omega)).1
      subst hspot
      refine ⟨b, off, rfl, fun i hi => ?_⟩
      obtain ⟨hc, h1, h2, h3, h4, h5, h6⟩ := hrow i (by omega)
      refine ⟨A i, N i, C i, by rw [← Go.WideShapes.add_plain]; exact hc, ?_⟩
      rw [List.getElem?_map, List.getElem?_range hi]
      simp only [Option.map_some, Option.getD_some]
      cases hA : A i with
      | none =>
        have e1 := h5 hA
        have e2 : N i = 0 := by omega
        rw [if_pos rfl, e1, e2]
        exact Rd.nil _ _ _ (fun _ => rfl)
      | some y =>
        rw [if_neg (by simp)]
        obtain ⟨_, hcell⟩ := h6 y hA
        refine ⟨by rw [List.length_take]; omega, h1, (fun h => by cases h), fun m hm' => bounds_u8 (h4 m (List.mem_of_mem_take hm')), fun hpos => ?_⟩
        obtain ⟨b2, o2, rfl, hc2⟩ := ints_at (zs := Z i) (fun j hj => hcell j (by omega)) (by omega)
        refine ⟨b2, o2, rfl, fun j hj => ?_⟩
        rw [hc2 j (by omega), List.getD_eq_getElem?_getD, List.getElem?_take_of_lt hj]
    · rw [hd]
      simp only [Rows.uptoBulk]
      have := bulk_len ((List.range len).map fun r => intRow (H := H) .u8 (A r) (N r) (Z r))
      simp only [List.length_map, List.length_range] at this
      omega
    · rw [hd]
      simp only [Rows.uptoBulk]
      have := bulk_rows (H := H) (fun r => intRow .u8 (A r) (N r) (Z r)) (fun r => if A r = none then [] else (Z r).take (N r)) (fun r => by
        by_cases hA : A r = none
        · simp only [if_pos hA, List.length_nil]; omega
        · rcases hb r with h | h
          · simp only [if_neg hA] at h ⊢; exact h
          · exact absurd h hA) (List.range len)
      omega

set_option maxRecDepth 100000 in
theorem blakeApart_contract (H : Type) (enc : TypeId × Value → H) (W : World) (base : Nat) (args : Array Value) (ds gs : List (DataW H)) (before : List MemPlace)
    (hval : ∀ (j : Nat) t v, Tryd.f6.params[j]? = some t → args[j]? = some v → Value.okWide Tryd.prog W .any base t v)
    (hW : DataW.Whole enc Tryd.prog Tryd.f6.params.toList Rows.blakeApartSpec.vars false W args.toList ds gs before) (hk : Rows.uptoSmall H (ds ++ gs) = true) (hL : laidMetH Tryd.prog [("porthole/blake.iv", Rows.laid_porthole_blake_iv), ("porthole/blake.sigma", Rows.laid_porthole_blake_sigma)] W) :
    Calls Tryd.prog 6 args W fun e W' => ∃ v, e = .returned v ∧ Rows.blakeApartSpec.post enc Tryd.prog Tryd.f6 false true false false W args v W' := by
  have hW' := hW
  obtain ⟨p, q, hA0, hV, rfl, hfz, hnd⟩ := hW
  have hA : DataW.TrodAll enc Tryd.prog W 0 (fun _ => true) true Tryd.f6.params.toList args.toList ds p := hA0
  rw [Tryd.params6] at hA hval
  obtain ⟨v0, vs0, d0, ds0, p0, q0, hargs, rfl, rfl, h0, r0⟩ := trodAll_cons hA
  obtain ⟨v1, vs1, d1, ds1, p1, q1, rfl, rfl, rfl, h1, r1⟩ := trodAll_cons r0
  obtain ⟨rfl, rfl, rfl⟩ := trodAll_nil r1
  obtain rfl : args = #[v0, v1] := by cases args; simp_all
  obtain ⟨rfl, rfl⟩ := trodVars_none hV
  have hb0 : Rows.uptoBulkAll ([d0, d1] ++ []) ≤ 1048576 := of_decide_eq_true hk
  simp only [List.append_nil, Rows.uptoBulkAll] at hb0
  obtain ⟨a0, len0, cap0, rfl⟩ := okWide_slice Tryd.underlying36 (hval 0 36 v0 rfl rfl)
  have lt0 : ∀ x ∈ p0, x.block < W.heap.size := by obtain ⟨m, hm⟩ := h0; exact DataW.trod_lt m _ _ _ hm
  obtain ⟨L0, hL0, -, bd0⟩ := open_lists h0
  obtain ⟨a1, len1, cap1, rfl⟩ := okWide_slice Tryd.underlying36 (hval 1 36 v1 rfl rfl)
  have lt1 : ∀ x ∈ p1, x.block < W.heap.size := by obtain ⟨m, hm⟩ := h1; exact DataW.trod_lt m _ _ _ hm
  obtain ⟨L1, hL1, -, bd1⟩ := open_lists h1
  have hs0 : L0.flatten.length ≤ 1048576 := by omega
  have hs1 : L1.flatten.length ≤ 1048576 := by omega
  clear hA0 hb0
  refine (blakeApart_walk a0 len0 cap0 L0 a1 len1 cap1 L1 W hL0 hL1 hs0 hs1 (gb_of_laid hL)).mono fun e W' ⟨he, bel⟩ => ?_
  subst he
  exact ⟨_, rfl, _, _, _, [], _, [], hW', trodAll_mk1 (shut_bool Tryd.underlying4 _), (trodAll_cons_mk (Below.trod laidOut (by kernel_rfl) (of_decide_eq_true (by kernel_rfl)) h0 bel lt0) (trodAll_cons_mk (Below.trod laidOut (by kernel_rfl) (of_decide_eq_true (by kernel_rfl)) h1 bel lt1) trodAll_mk0)), rfl, bel.frame _, fun h => by cases h⟩

theorem blakeApart_laid (os : Os) : laidMet Tryd.prog Rows.blakeApartUptoRow.laid (({ World.holding Tryd.prog os ⟨#[], #[], []⟩ with heap := ((World.holding Tryd.prog os ⟨#[], #[], []⟩).heap.modify 0 laidIv).modify 4 laidSg } : World).forCall (fun _ _ => 0) ⟨#[], #[.slice none 0 0, .slice none 0 0], []⟩).memory :=
  laidMet_of_run' 8 (by kernel_rfl) (by kernel_rfl)
theorem blakeApart_reads (os : Os) {H : Type} (enc : TypeId × Value → H) : ∃ places, DataW.whole enc Tryd.prog (({ World.holding Tryd.prog os ⟨#[], #[], []⟩ with heap := ((World.holding Tryd.prog os ⟨#[], #[], []⟩).heap.modify 0 laidIv).modify 4 laidSg } : World).forCall (fun _ _ => 0) ⟨#[], #[.slice none 0 0, .slice none 0 0], []⟩).memory Tryd.f6.params.toList Rows.blakeApartSpec.vars false (#[.slice none 0 0, .slice none 0 0] : Array Value).toList 8 = some ([.nil, .nil], [], places) :=
  ⟨[], by kernel_rfl⟩
set_option maxRecDepth 100000 in
theorem blakeApart_lifted (os : Os) (started : os.Started) (H : Type) (enc : TypeId × Value → H) (F : Stop.Interp) :
    ReturnsInHanded {} Tryd.checked os 6 .any ((Rows.OpenSpec.upto Rows.blakeApartSpec).preRow enc Tryd.prog Tryd.f6 Rows.blakeApartUptoRow.domain false Rows.blakeApartUptoRow.laid) (((Rows.OpenSpec.upto Rows.blakeApartSpec).at F).post enc Tryd.prog Tryd.f6 false true false false) := by
  obtain ⟨places, hx⟩ := blakeApart_reads os enc
  refine returnsInHanded_of_row (C := Tryd.checked) (s := Rows.OpenSpec.upto Rows.blakeApartSpec) own started (by kernel_rfl) Tryd.func6
    (witness_row_at (enc := enc) (C := Tryd.checked) false ({ World.holding Tryd.prog os ⟨#[], #[], []⟩ with heap := ((World.holding Tryd.prog os ⟨#[], #[], []⟩).heap.modify 0 laidIv).modify 4 laidSg } : World) #[.slice none 0 0, .slice none 0 0] rfl (by kernel_rfl) (by kernel_rfl) (by kernel_rfl)
      (OpenSpec.preRow_of_cond 8 hx (by kernel_rfl) (fun k hk => by cases hk; kernel_rfl) (by kernel_rfl) (blakeApart_laid os))) ?_
  intro W base args ds gs before hval hW _ hcond _ hL _ _
  exact blakeApart_contract H enc W base args ds gs before hval hW (hcond _ rfl) hL

/-- The statement. -/
theorem blakeApart_upto : Rows.BlakeApartUptoSaid :=
  OpenClaim.holds_of_cond 6 Tryd.f6 rfl rfl rfl rfl rfl rfl rfl ⟨rfl, rfl, rfl, rfl, rfl⟩ rfl rfl rfl rfl rfl (by kernel_rfl) Tryd.func6 (by kernel_rfl)
    (of_decide_eq_true (by kernel_rfl)) (by unfold Func.isWrapper; first | (rw [if_pos (by decide +kernel)]; kernel_rfl) | (rw [if_neg (by decide +kernel)]; exact ⟨rfl, rfl⟩))
    (fun os started H enc _ F => by rw [OpenClaim.pre_eq_preRow]; exact blakeApart_lifted os started H enc F)

/-- The card. -/
theorem blakeApart_upto_card : Rows.BlakeApartUptoCardSaid :=
  Claim7.holds_tied_plain_at .later [] [.data, .data] true (true, "1a226ffb61c5fe11d2d805dbbafd28f6c7cf6848080d738a397af8cd9eb359a5") false
    blakeApart_upto (fun _ h => by cases h) (by kernel_rfl) (fun _ h => by cases h) blakeApartUpto_row_tie rfl ⟨rfl, rfl⟩ (by kernel_rfl) rfl
    (fun f fn hf hfn => by
      obtain rfl : f = 6 := Option.some.inj ((show Tryd.prog.funcNamed "porthole/portholelaw7.BlakeApart" = some 6 by kernel_rfl).symm.trans hf) |>.symm
      obtain rfl : fn = Tryd.f6 := (Option.some.inj (Tryd.func6.symm.trans hfn)).symm
      exact ⟨by kernel_rfl, fun j t ht => by
        rw [Tryd.params6] at ht
        have hm : t ∈ [36, 36] := by
          have := List.mem_of_getElem? (l := [36, 36]) (i := j) (by simpa using ht)
          exact this
        have hall : ∀ t ∈ [36, 36], Tryd.prog.wantsStandIn t = false := by
          intro t h
          simp only [List.mem_cons, List.not_mem_nil, or_false] at h
          rcases h with rfl | rfl <;> kernel_rfl
        exact hall t hm⟩)
    (by kernel_rfl)
#print axioms blakeApart_upto_card
end Go.Proofs.YtgblbhocpafgcaaDoor
