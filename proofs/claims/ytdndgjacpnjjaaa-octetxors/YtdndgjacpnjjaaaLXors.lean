/-
  Proved: OctetXors returns true for every two slices of bytes, and for one slice and its copy (the statement OctetXorsSaid). No condition.
-/
import Derived.Test.YtdndgjacpnjjaaaXorA
import Derived.Test.YtdndgjacpnjjaaaXorB
import Derived.Test.YtdndgjacpnjjaaaXorC
namespace Go.Proofs.Ytdndgjacpnjjaaa
open Go.ChangeShapes Go.WideShapes Go.ChangeAt Go.RowKit

theorem octetXors_walk (a0 : Option Addr) (la ca : Nat) (A : List Int) (b0 : Option Addr) (lb cb : Nat) (B : List Int) (same : Bool) (w : World) (ha : Rd w a0 la ca A) (hb : Rd w b0 lb cb B) (ma : la ≤ 140737488351232) (mb : lb ≤ 140737488351232) :
    Calls Try.prog 5 #[.slice a0 la ca, .slice b0 lb cb, .bool same] w fun e w' => e = .returned (.bool true) ∧ Below w.heap.size w w' := by
  cases same with
  | true => exact octetXors_c a0 la ca A _ w ha ma
  | false =>
    by_cases hmin : lb < la
    · exact octetXors_a a0 la ca A b0 lb cb B w ha hb ma mb hmin
    · exact octetXors_b a0 la ca A b0 lb cb B w ha hb ma mb (by omega)

set_option maxRecDepth 100000 in
theorem octetXors_lifted (os : Os) (started : os.Started) (H : Type) (enc : TypeId × Value → H) :
    ReturnsInHanded {} Try.checked os 5 .any (Rows.octetXorsSpec.pre6 enc Try.prog Try.f5 Rows.octetXorsRow.domain false) (Rows.octetXorsSpec.post enc Try.prog Try.f5 false true false false) := by
  refine returnsInHanded_of_change_sized (C := Try.checked) own started (by kernel_rfl) Try.func5
    (ChangeSpec.witness6 (enc := enc) (C := Try.checked) false ⟨#[], #[.slice none 0 0, .slice none 0 0, .bool false], []⟩ 8 (by kernel_rfl) (by kernel_rfl) (by kernel_rfl) (by kernel_rfl)) ?_
  intro W base args ds gs before hval0 hW hcnd hsz0 _
  have hval : ∀ (j : Nat) t v, Try.f5.params[j]? = some t → args[j]? = some v → Value.okWide Try.prog W .any base t v := hval0
  have hsz : (DataW.weightsEach Try.prog (Try.f5.params.toList ++ Rows.octetXorsSpec.plain.varTypes Try.prog) (ds ++ gs)).all (· ≤ reachBytes) = true := hsz0
  have hW' := hW
  obtain ⟨p, q, hA0, hV, rfl, hfz, hnd⟩ := hW
  have hA : DataW.TrodAll enc Try.prog W 0 (fun _ => true) true Try.f5.params.toList args.toList ds p := hA0
  rw [Try.params5] at hA hval hsz
  obtain ⟨v0, vs0, d0, ds0, p0, q0, hargs, rfl, rfl, h0, r0⟩ := trodAll_cons hA
  obtain ⟨v1, vs1, d1, ds1, p1, q1, rfl, rfl, rfl, h1, r1⟩ := trodAll_cons r0
  obtain ⟨v2, vs2, d2, ds2, p2, q2, rfl, rfl, rfl, h2, r2⟩ := trodAll_cons r1
  obtain ⟨rfl, rfl, rfl⟩ := trodAll_nil r2
  obtain rfl : args = #[v0, v1, v2] := by cases args; simp_all
  obtain ⟨rfl, rfl⟩ := trodVars_none hV
  obtain ⟨a0, len0, cap0, rfl⟩ := okWide_slice Try.underlying25 (hval 0 25 v0 rfl rfl)
  have lt0 : ∀ x ∈ p0, x.block < W.heap.size := by obtain ⟨m, hm⟩ := h0; exact DataW.trod_lt m _ _ _ hm
  obtain ⟨l0, hl0, hd0⟩ := open_bytes h0
  have hlen0 := reach_bytes hsz 0 rfl rfl hd0
  obtain ⟨a1, len1, cap1, rfl⟩ := okWide_slice Try.underlying25 (hval 1 25 v1 rfl rfl)
  have lt1 : ∀ x ∈ p1, x.block < W.heap.size := by obtain ⟨m, hm⟩ := h1; exact DataW.trod_lt m _ _ _ hm
  obtain ⟨l1, hl1, hd1⟩ := open_bytes h1
  have hlen1 := reach_bytes hsz 1 rfl rfl hd1
  obtain ⟨s, rfl, rfl, rfl⟩ := open_bool Try.underlying4 (hval 2 4 v2 rfl rfl) h2
  clear hA0 hval0
  refine (octetXors_walk a0 len0 cap0 l0 a1 len1 cap1 l1 s W hl0 hl1 hlen0 hlen1).mono fun e W' ⟨he, bel⟩ => ?_
  subst he
  exact ⟨_, rfl, _, _, _, [], _, [], hW', trodAll_mk1 (shut_bool Try.underlying4 _), (trodAll_cons_mk (Below.trod laidOut (by kernel_rfl) (of_decide_eq_true (by kernel_rfl)) h0 bel lt0) (trodAll_cons_mk (Below.trod laidOut (by kernel_rfl) (of_decide_eq_true (by kernel_rfl)) h1 bel lt1) (trodAll_cons_mk (shut_bool Try.underlying4 _) trodAll_mk0))), rfl, bel.frame _, fun h => by cases h⟩

/-- The statement. -/
theorem octetXors_holds : Rows.OctetXorsSaid :=
  OpenClaim.holds_of_wide 5 Try.f5 rfl rfl rfl rfl rfl rfl rfl ⟨rfl, rfl, rfl, rfl, rfl⟩ rfl rfl rfl rfl rfl (by kernel_rfl) Try.func5 (by kernel_rfl)
    (of_decide_eq_true (by kernel_rfl)) (by unfold Func.isWrapper; first | (rw [if_pos (by decide +kernel)]; kernel_rfl) | (rw [if_neg (by decide +kernel)]; exact ⟨rfl, rfl⟩))
    (fun os started H enc _ => octetXors_lifted os started H enc)
#print axioms octetXors_holds
end Go.Proofs.Ytdndgjacpnjjaaa
