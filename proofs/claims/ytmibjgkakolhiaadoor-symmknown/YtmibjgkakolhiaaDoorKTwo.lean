/-
  A region that draws its order and whose later operations turn what its earlier ones read ('x = f(x)', 'a, b = g(b, a)'): one condition on the world until operation k has come up, another one from then on. No statement of the seat is proved here.
-/
import Derived.Test.YtmibjgkakolhiaaDoorKGen
namespace Go.Proofs.YtmibjgkakolhiaaDoor
open Go.RowKit

section
variable {P : Program} {ops : Array Oper} {Q : Exit → Act → World → Prop} {md : Region.Mode} {S1 S2 : World → Prop}
set_option maxRecDepth 8000 in
theorem yieldsIf_mono {S S' : World → Prop} {o : Oper} {v : Value} {a : Act} (h : YieldsIf P ops S o v a) (hs : ∀ w, S' w → S w) : YieldsIf P ops S' o v a :=
  h.imp (fun ⟨hw, hv⟩ => ⟨hw, fun w h' => hv w (hs w h')⟩) id
/-- Whatever order is picked: S1 holds behind each operation until number k has come up; behind that, S2. -/
def wpAnyK (P : Program) (md : Region.Mode) (ops : Array Oper) (Q : Exit → Act → World → Prop) (k : Nat) (S1 S2 : World → Prop) : Nat → Array Bool → Act → World → Prop
  | 0, listed, a, w => Region.ready md ops listed = [] ∧ Q .normal a w
  | fuel + 1, listed, a, w =>
    (Region.ready md ops listed = [] → Q .normal a w) ∧
    ∀ i ∈ Region.ready md ops listed, (i = k → wpOp P ops Q i (fun a' w' => S2 w' ∧ wpAnyH P md ops Q S2 fuel (listed.setIfInBounds i true) a' w') a w) ∧
      (i ≠ k → wpOp P ops Q i (fun a' w' => S1 w' ∧ wpAnyK P md ops Q k S1 S2 fuel (listed.setIfInBounds i true) a' w') a w)
set_option maxRecDepth 8000 in
theorem wpAny_of_two {k : Nat} : ∀ (fuel : Nat) (listed : Array Bool) (a : Act) (w : World), wpAnyK P md ops Q k S1 S2 fuel listed a w → wpAny P md ops Q fuel listed a w
  | 0, _, _, _, h => h
  | fuel + 1, _, _, _, h => ⟨h.1, fun i hi => by
    by_cases hk : i = k
    · exact wpOp_mono (fun a' w' h' => wpAny_of_held fuel _ a' w' h'.2) ((h.2 i hi).1 hk)
    · exact wpOp_mono (fun a' w' h' => wpAny_of_two fuel _ a' w' h'.2) ((h.2 i hi).2 hk)⟩
set_option maxRecDepth 8000 in
theorem wpAnyK_first {k i : Nat} {oi : Oper} {v : Value} {S0 : World → Prop} (hi : ops[i]? = some oi) (hik : i ≠ k) (hsel : ∀ (j : Nat) (o : Oper) cs b, ops[j]? = some o → o.op ≠ .select cs b)
    (hQ : ∀ c a w, Q (.panic c) (a.put oi.dst v) w → Q (.panic c) a w) (h1 : ∀ w, S1 w → S0 w)
    (h2 : (∀ ok, ops[k]? = some ok → ∃ e ∈ ok.after, Region.binds md e = true ∧ e.on = i) ∨ ∀ w, S2 w → S0 w) :
    ∀ (fuel : Nat) (listed : Array Bool) (a : Act) (w : World),
      (∀ j oj, ops[j]? = some oj → j ≠ i → listed.getD j true = false → (∀ e ∈ oj.after, Region.binds md e = true → e.on ≠ i) → oi.apart ops oj = true) →
      i ∈ Region.ready md ops listed → YieldsIf P ops S0 oi v a → S1 w →
      wpAnyK P md ops Q k S1 S2 fuel (listed.setIfInBounds i true) (a.put oi.dst v) w → wpAnyK P md ops Q k S1 S2 (fuel + 1) listed a w := by
  intro fuel
  induction fuel with
  | zero =>
    intro listed a w _ hr hy hS H
    refine ⟨fun h => (by rw [h] at hr; cases hr), fun j hj => ?_⟩
    by_cases hji : j = i
    · subst hji; exact ⟨fun h => absurd h hik, fun _ => hy.wpOp hi (h1 w hS) ⟨hS, H⟩⟩
    · have := ready_mono hj hji
      rw [H.1] at this
      cases this
  | succ fuel ih =>
    intro listed a w hfree hr hy hS H
    refine ⟨fun h => (by rw [h] at hr; cases hr), fun j hj => ?_⟩
    by_cases hji : j = i
    · subst hji; exact ⟨fun h => absurd h hik, fun _ => hy.wpOp hi (h1 w hS) ⟨hS, H⟩⟩
    · have hjr := H.2 j (ready_mono hj hji)
      obtain ⟨hjun, oj, hoj, hall⟩ := mem_ready.1 hj
      have hnot : ∀ e ∈ oj.after, Region.binds md e = true → e.on ≠ i := fun e he hb heq => by
        have h1 := hall e he hb
        have h0 := (mem_ready.1 hr).1
        rw [heq] at h1
        rcases Nat.lt_or_ge i listed.size with h' | h'
        · simp [h'] at h0 h1; rw [h0] at h1; cases h1
        · simp [Array.getElem?_eq_none h'] at h1
      have hfree' : ∀ m om, ops[m]? = some om → m ≠ i → (listed.setIfInBounds j true).getD m true = false →
          (∀ e ∈ om.after, Region.binds md e = true → e.on ≠ i) → oi.apart ops om = true := fun m om hm hmi hun hno => by
        refine hfree m om hm hmi ?_ hno
        by_cases hjm : j = m
        · subst hjm; exact hjun
        · rw [getD_set_ne true hjm] at hun; exact hun
      refine ⟨fun hjk => ?_, fun hjk => ?_⟩
      · have hS2 : ∀ w, S2 w → S0 w := by
          rcases h2 with h2 | h2
          · obtain ⟨e, he, hb, heq⟩ := h2 oj (hjk ▸ hoj)
            exact absurd heq (hnot e he hb)
          · exact h2
        have h3 := wpOp_putIf hoj (hfree j oj hoj hji hjun hnot) (fun cs b => hsel i oi cs b hi) (fun cs b => hsel j oj cs b hoj) hQ hy (hjr.1 hjk)
        refine wpOp_mono (fun a' w' h4 => ⟨h4.2.1, wpAnyH_first hi hsel hQ fuel (listed.setIfInBounds j true) a' w' hfree' (ready_mono hr (Ne.symm hji)) (yieldsIf_mono h4.1 hS2) h4.2.1 ?_⟩) h3
        rw [Array.setIfInBounds_comm _ _ hji]
        exact h4.2.2
      · have h3 := wpOp_putIf hoj (hfree j oj hoj hji hjun hnot) (fun cs b => hsel i oi cs b hi) (fun cs b => hsel j oj cs b hoj) hQ hy (hjr.2 hjk)
        refine wpOp_mono (fun a' w' h4 => ⟨h4.2.1, ih (listed.setIfInBounds j true) a' w' hfree' (ready_mono hr (Ne.symm hji)) h4.1 h4.2.1 ?_⟩) h3
        rw [Array.setIfInBounds_comm _ _ hji]
        exact h4.2.2
/-- Does number k wait for number i? -/
def waitsB (md : Region.Mode) (ops : Array Oper) (k i : Nat) : Bool := match ops[k]? with
  | some ok => ok.after.toList.any (fun e => Region.binds md e && e.on == i)
  | none => true
set_option maxRecDepth 8000 in
theorem waits_of {k i : Nat} (h : waitsB md ops k i = true) : ∀ ok, ops[k]? = some ok → ∃ e ∈ ok.after, Region.binds md e = true ∧ e.on = i := fun ok hk => by
  unfold waitsB at h
  rw [hk] at h
  simp only [List.any_eq_true, Bool.and_eq_true, beq_iff_eq] at h
  obtain ⟨e, he, hb, ho⟩ := h
  exact ⟨e, Array.mem_toList_iff.1 he, hb, ho⟩
set_option maxRecDepth 8000 in
/-- Take number i first: what it reads is turned by nobody. -/
theorem wpAnyK_take {k i : Nat} {oi : Oper} {v : Value} {fuel : Nat} {listed : Array Bool} {a : Act} {w : World} (hi : ops[i]? = some oi) (hik : i ≠ k)
    (hs : Region.noSelect ops = true) (hf : Region.free md ops listed i = true) (hr : (Region.ready md ops listed).contains i = true)
    (hQ : ∀ c a w, Q (.panic c) (a.put oi.dst v) w → Q (.panic c) a w) (h12 : ∀ w, S1 w → S2 w) (hy : YieldsIf P ops S2 oi v a) (hS : S1 w)
    (h : wpAnyK P md ops Q k S1 S2 fuel (listed.setIfInBounds i true) (a.put oi.dst v) w) : wpAnyK P md ops Q k S1 S2 (fuel + 1) listed a w :=
  wpAnyK_first hi hik (Region.noSelect_spec hs) hQ h12 (.inr fun _ h => h) fuel listed a w (Region.free_spec hi hf) (by simpa using hr) hy hS h
set_option maxRecDepth 8000 in
/-- Take number i first: number k, which turns what it reads, waits for it. -/
theorem wpAnyK_ahead {k i : Nat} {oi : Oper} {v : Value} {fuel : Nat} {listed : Array Bool} {a : Act} {w : World} (hi : ops[i]? = some oi) (hik : i ≠ k) (hk : waitsB md ops k i = true)
    (hs : Region.noSelect ops = true) (hf : Region.free md ops listed i = true) (hr : (Region.ready md ops listed).contains i = true)
    (hQ : ∀ c a w, Q (.panic c) (a.put oi.dst v) w → Q (.panic c) a w) (hy : YieldsIf P ops S1 oi v a) (hS : S1 w)
    (h : wpAnyK P md ops Q k S1 S2 fuel (listed.setIfInBounds i true) (a.put oi.dst v) w) : wpAnyK P md ops Q k S1 S2 (fuel + 1) listed a w :=
  wpAnyK_first hi hik (Region.noSelect_spec hs) hQ (fun _ h => h) (.inl (waits_of hk)) fuel listed a w (Region.free_spec hi hf) (by simpa using hr) hy hS h
set_option maxRecDepth 8000 in
/-- One operation comes up next, and it is not number k. -/
theorem wpAnyK_one {k i : Nat} {o : Oper} {fuel : Nat} {listed : Array Bool} {a : Act} {w : World} (ho : ops[i]? = some o) (hik : i ≠ k) (hr : Region.ready md ops listed = [i])
    (h : ∀ K' : Act → World → Prop, Shut (∀ a w, S1 w → (S1 w → wpAnyK P md ops Q k S1 S2 fuel (listed.setIfInBounds i true) a w) → K' a w) → if Region.wanted o (yielded ops a.tmps) = true then Oper.wp P o a w K' Q else K' (a.put o.dst undef) w) :
    wpAnyK P md ops Q k S1 S2 (fuel + 1) listed a w := by
  refine ⟨fun h0 => (by rw [hr] at h0; cases h0), fun j hj => ?_⟩
  rw [hr] at hj
  obtain rfl : j = i := by simpa using hj
  exact ⟨fun h => absurd h hik, fun _ => wpOp_step ho (fun K' hK => h K' (fun a w hS hW => hK a w ⟨hS, hW hS⟩))⟩
set_option maxRecDepth 8000 in
/-- Number k comes up. -/
theorem wpAnyK_last {k : Nat} {o : Oper} {fuel : Nat} {listed : Array Bool} {a : Act} {w : World} (ho : ops[k]? = some o) (hr : Region.ready md ops listed = [k])
    (h : ∀ K' : Act → World → Prop, Shut (∀ a w, S2 w → (S2 w → wpAnyH P md ops Q S2 fuel (listed.setIfInBounds k true) a w) → K' a w) → if Region.wanted o (yielded ops a.tmps) = true then Oper.wp P o a w K' Q else K' (a.put o.dst undef) w) :
    wpAnyK P md ops Q k S1 S2 (fuel + 1) listed a w := by
  refine ⟨fun h0 => (by rw [hr] at h0; cases h0), fun j hj => ?_⟩
  rw [hr] at hj
  obtain rfl : j = k := by simpa using hj
  exact ⟨fun _ => wpOp_step ho (fun K' hK => h K' (fun a w hS hW => hK a w ⟨hS, hW hS⟩)), fun h => absurd rfl h⟩
set_option maxRecDepth 8000 in
/-- The beginning. -/
theorem wp_region_two {id k : Nat} {a : Act} {w : World} (S1 S2 : World → Prop) (hm : P.follows .mixedOrders = true) (hS : S1 w.drew)
    (h : S1 w.drew → wpAnyK P .any ops Q k S1 S2 ops.size (Array.replicate ops.size false) a w.drew) : (Code.region id ops true).wp P Q a w :=
  wp_region_any hm (wpAny_of_two _ _ _ _ (h hS))
end
end Go.Proofs.YtmibjgkakolhiaaDoor
