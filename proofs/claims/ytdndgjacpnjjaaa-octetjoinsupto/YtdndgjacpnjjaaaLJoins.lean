/-
  Proved: OctetJoins returns true for every list of slices of bytes and every number of 64 bits, where what it reads is of bulk at most 1048576 (the statement OctetJoinsUptoSaid). Its one condition is that bound.
-/
import Derived.Test.YtdndgjacpnjjaaaJoinA
import Derived.Test.YtdndgjacpnjjaaaJoinB
import Derived.JoinedCond
import Derived.Deep.Matrix
namespace Go.Proofs.Ytdndgjacpnjjaaa
open Go.ChangeShapes Go.WideShapes Go.ChangeAt Go.RowKit Go.Deep

theorem octetJoins_walk (a0 : Option Addr) (len cap : Nat) (L : List (List Int)) (n : Int) (w : World) (h : RdL w a0 len L) (hlen : len ≤ 1048576) (hT : L.flatten.length ≤ 1048576) (n0 : 0 ≤ n) (n1 : n < 18446744073709551616) :
    Calls Try.prog 6 #[.slice a0 len cap, .int .u64 n] w fun e w' => e = .returned (.bool true) ∧ Below w.heap.size w w' := by
  by_cases hq : L.flatten.length < 3
  · exact octetJoins_a a0 len cap L L.flatten n w h rfl h.byt hlen hT n0 n1 hq
  · exact octetJoins_b a0 len cap L L.flatten n w h rfl h.byt hlen hT n0 n1 (by omega)

/-! ### What the bound gives -/
theorem bulk_one {H : Type} (d : DataW H) : 1 ≤ Rows.uptoBulk d := by
  cases d with
  | lit l => cases l <;> simp [Rows.uptoBulk]
  | _ => simp [Rows.uptoBulk]
theorem bulk_len {H : Type} (l : List (DataW H)) : l.length ≤ Rows.uptoBulkAll l := by
  induction l with
  | nil => simp [Rows.uptoBulkAll]
  | cons x r ih => have := bulk_one x; simp only [Rows.uptoBulkAll, List.length_cons]; omega
theorem bulk_rows {H : Type} (F : Nat → DataW H) (G : Nat → List Int) (h : ∀ r, (G r).length ≤ Rows.uptoBulk (F r)) : ∀ rs : List Nat, (rs.map G).flatten.length ≤ Rows.uptoBulkAll (rs.map F)
  | [] => by simp [Rows.uptoBulkAll]
  | r :: rs => by
    have h1 := h r
    have h2 := bulk_rows F G h rs
    simp only [List.map_cons, List.flatten_cons, List.length_append, Rows.uptoBulkAll]
    omega
theorem cells25 : Try.prog.cellsOf 25 = 1 := by kernel_rfl

/-- A list of slices of bytes that came in. -/
theorem open_lists {H : Type} {enc : TypeId × Value → H} {W : World} {base : Nat} {held : Bool} {a : Option Addr} {len cap : Nat} {d : DataW H} {p : List MemPlace} (h : DataW.Trod enc Try.prog W base (fun _ => true) held 40 (.slice a len cap) d p) :
    ∃ L, RdL W a len L ∧ len ≤ Rows.uptoBulk d ∧ L.flatten.length ≤ Rows.uptoBulk d := by
  obtain ⟨fuel, hf⟩ := h
  rcases open_int_rows Try.underlying40 Try.underlying25 Try.underlying5 cells25 cells5 hf with ⟨hcs, hx⟩ | ⟨x, l, c, A, N, C, Z, hcs, _, hl, hm, hx, hrow⟩
  · simp [Value.cells] at hcs
    obtain ⟨rfl, rfl, rfl⟩ := hcs
    exact ⟨[], ⟨rfl, fun h => by omega⟩, by omega, by simp⟩
  · simp [Value.cells] at hcs
    obtain ⟨rfl, rfl, rfl⟩ := hcs
    simp only [Prod.mk.injEq] at hx
    obtain ⟨hd, _⟩ := hx
    have hb : ∀ r, ((Z r).take (N r)).length ≤ Rows.uptoBulk (intRow (H := H) .u8 (A r) (N r) (if A r = none then [] else Z r)) ∨ A r = none := by
      intro r
      by_cases hA : A r = none
      · exact .inr hA
      · left
        rw [if_neg hA]
        cases hA' : A r with
        | none => exact absurd hA' hA
        | some y =>
          simp only [intRow, Rows.uptoBulk]
          have := bulk_len (lits (H := H) .u8 ((Z r).take (N r)))
          simp only [lits, List.length_map] at this
          simp only [lits]
          omega
    refine ⟨(List.range len).map fun r => if A r = none then [] else (Z r).take (N r), ⟨by simp, fun h0 => ?_⟩, ?_, ?_⟩
    · obtain ⟨b, off, spot⟩ := x
      have hspot : spot = none := by simpa [Addr.add] using World.cell?_spot (hrow 0 (by omega)).1
      subst hspot
      refine ⟨b, off, rfl, fun i hi => ?_⟩
      obtain ⟨hc, h1, h2, h3, h4, h5, h6⟩ := hrow i (by omega)
      refine ⟨A i, N i, C i, by rw [← Go.WideShapes.add_plain]; exact hc, ?_⟩
      rw [List.getElem?_map, List.getElem?_range hi]
      simp only [Option.map_some, Option.getD_some]
      cases hA : A i with
      | none =>
        have e1 := h5 hA
        have e2 : N i = 0 := by omega
        rw [if_pos rfl, e1, e2]
        exact Rd.nil _ _ _ (fun _ => rfl)
      | some y =>
        rw [if_neg (by simp)]
        obtain ⟨_, hcell⟩ := h6 y hA
        refine ⟨by rw [List.length_take]; omega, h1, (fun h => by cases h), fun m hm' => bounds_u8 (h4 m (List.mem_of_mem_take hm')), fun hpos => ?_⟩
        obtain ⟨b2, o2, rfl, hc2⟩ := ints_at (zs := Z i) (fun j hj => hcell j (by omega)) (by omega)
        refine ⟨b2, o2, rfl, fun j hj => ?_⟩
        rw [hc2 j (by omega), List.getD_eq_getElem?_getD, List.getElem?_take_of_lt hj]
    · rw [hd]
      simp only [Rows.uptoBulk]
      have := bulk_len ((List.range len).map fun r => intRow (H := H) .u8 (A r) (N r) (Z r))
      simp only [List.length_map, List.length_range] at this
      omega
    · rw [hd]
      simp only [Rows.uptoBulk]
      have := bulk_rows (H := H) (fun r => intRow .u8 (A r) (N r) (Z r)) (fun r => if A r = none then [] else (Z r).take (N r)) (fun r => by
        by_cases hA : A r = none
        · simp only [if_pos hA, List.length_nil]; omega
        · rcases hb r with h | h
          · simp only [if_neg hA] at h ⊢; exact h
          · exact absurd h hA) (List.range len)
      omega

set_option maxRecDepth 100000 in
theorem octetJoins_contract (H : Type) (enc : TypeId × Value → H) (W : World) (base : Nat) (args : Array Value) (ds gs : List (DataW H)) (before : List MemPlace)
    (hval : ∀ (j : Nat) t v, Try.f6.params[j]? = some t → args[j]? = some v → Value.okWide Try.prog W .any base t v)
    (hW : DataW.Whole enc Try.prog Try.f6.params.toList Rows.octetJoinsSpec.vars false W args.toList ds gs before) (hk : Rows.uptoSmall H (ds ++ gs) = true) :
    Calls Try.prog 6 args W fun e W' => ∃ v, e = .returned v ∧ Rows.octetJoinsSpec.post enc Try.prog Try.f6 false true false false W args v W' := by
  have hW' := hW
  obtain ⟨p, q, hA0, hV, rfl, hfz, hnd⟩ := hW
  have hA : DataW.TrodAll enc Try.prog W 0 (fun _ => true) true Try.f6.params.toList args.toList ds p := hA0
  rw [Try.params6] at hA hval
  obtain ⟨v0, vs0, d0, ds0, p0, q0, hargs, rfl, rfl, h0, r0⟩ := trodAll_cons hA
  obtain ⟨v1, vs1, d1, ds1, p1, q1, rfl, rfl, rfl, h1, r1⟩ := trodAll_cons r0
  obtain ⟨rfl, rfl, rfl⟩ := trodAll_nil r1
  obtain rfl : args = #[v0, v1] := by cases args; simp_all
  obtain ⟨rfl, rfl⟩ := trodVars_none hV
  obtain ⟨a0, len0, cap0, rfl⟩ := okWide_slice Try.underlying40 (hval 0 40 v0 rfl rfl)
  have lt0 : ∀ x ∈ p0, x.block < W.heap.size := by obtain ⟨m, hm⟩ := h0; exact DataW.trod_lt m _ _ _ hm
  obtain ⟨L, hL, b1, b2⟩ := open_lists h0
  obtain ⟨a1, rfl, rfl, rfl, w1⟩ := open_int Try.underlying22 (hval 1 22 v1 rfl rfl) h1
  have b3 := bounds_u64 w1
  have hbulk : Rows.uptoBulk d0 ≤ 1048576 := by
    have h : Rows.uptoBulkAll ([d0, .lit (.int .u64 a1)] ++ []) ≤ 1048576 := of_decide_eq_true hk
    simp only [List.append_nil, Rows.uptoBulkAll] at h
    omega
  clear hA0
  refine (octetJoins_walk a0 len0 cap0 L a1 W hL (by omega) (by omega) (by omega) (by omega)).mono fun e W' ⟨he, bel⟩ => ?_
  subst he
  exact ⟨_, rfl, _, _, _, [], _, [], hW', trodAll_mk1 (shut_bool Try.underlying4 _), (trodAll_cons_mk (Below.trod laidOut (by kernel_rfl) (of_decide_eq_true (by kernel_rfl)) h0 bel lt0) (trodAll_cons_mk (shut_int Try.underlying22 w1) trodAll_mk0)), rfl, bel.frame _, fun h => by cases h⟩

set_option maxRecDepth 100000 in
theorem octetJoins_lifted (os : Os) (started : os.Started) (H : Type) (enc : TypeId × Value → H) (F : Stop.Interp) :
    ReturnsInHanded {} Try.checked os 6 .any ((Rows.OpenSpec.upto Rows.octetJoinsSpec).pre6 enc Try.prog Try.f6 Rows.octetJoinsUptoRow.domain false) (((Rows.OpenSpec.upto Rows.octetJoinsSpec).at F).post enc Try.prog Try.f6 false true false false) := by
  refine returnsInHanded_of_cond (C := Try.checked) (s := Rows.OpenSpec.upto Rows.octetJoinsSpec) (k := Rows.uptoSmall) rfl own started (by kernel_rfl) Try.func6
    (OpenSpec.witness (enc := enc) (C := Try.checked) (s := Rows.OpenSpec.upto Rows.octetJoinsSpec) (k := Rows.uptoSmall) rfl false ⟨#[], #[.slice none 0 0, .int .u64 0], []⟩ 8 (by kernel_rfl) (by kernel_rfl) (by kernel_rfl)
      (x := ([.nil, .lit (.int .u64 0)], [], [])) (by kernel_rfl) rfl (by kernel_rfl)) ?_
  intro W base args ds gs before hval hW _ hk _
  exact octetJoins_contract H enc W base args ds gs before hval hW hk

/-- The statement. -/
theorem octetJoins_upto : Rows.OctetJoinsUptoSaid :=
  OpenClaim.holds_of_cond 6 Try.f6 rfl rfl rfl rfl rfl rfl rfl ⟨rfl, rfl, rfl, rfl, rfl⟩ rfl rfl rfl rfl rfl (by kernel_rfl) Try.func6 (by kernel_rfl)
    (of_decide_eq_true (by kernel_rfl)) (by unfold Func.isWrapper; first | (rw [if_pos (by decide +kernel)]; kernel_rfl) | (rw [if_neg (by decide +kernel)]; exact ⟨rfl, rfl⟩))
    (fun os started H enc _ F => octetJoins_lifted os started H enc F)
#print axioms octetJoins_upto
end Go.Proofs.Ytdndgjacpnjjaaa
