/-
  Several texts of one's own, laid together. No statement of the seat is proved here.
-/
import Derived.Test.YtlnbjehimabaiaaGreatDoorPk3
import Derived.Test.YtlnbjehimabaiaaGreatDoorPk1
import Derived.Test.YtlnbjehimabaiaaGreatDoorPk4
/-
 A region that draws its order and whose later operations turn what its earlier ones read ('x = f(x)', 'a, b = g(b, a)'): one condition on the world until operation k has come up, another one from then on. No statement of the seat is proved here.
-/
namespace Go.Proofs.YtlnbjehimabaiaaGreatDoor
open Go.RowKit
set_option maxRecDepth 8000

section
variable {P : Program} {ops : Array Oper} {Q : Exit → Act → World → Prop} {md : Region.Mode} {S1 S2 : World → Prop}
theorem yieldsIf_mono {S S' : World → Prop} {o : Oper} {v : Value} {a : Act} (h : YieldsIf P ops S o v a) (hs : ∀ w, S' w → S w) : YieldsIf P ops S' o v a :=
 h.imp (fun ⟨hw, hv⟩ => ⟨hw, fun w h' => hv w (hs w h')⟩) id
/-- Whatever order is picked: S1 holds behind each operation until number k has come up; behind that, S2. -/
def wpAnyK (P : Program) (md : Region.Mode) (ops : Array Oper) (Q : Exit → Act → World → Prop) (k : Nat) (S1 S2 : World → Prop) : Nat → Array Bool → Act → World → Prop
 | 0, listed, a, w => Region.ready md ops listed = [] ∧ Q .normal a w
 | fuel + 1, listed, a, w =>
  (Region.ready md ops listed = [] → Q .normal a w) ∧
  ∀ i ∈ Region.ready md ops listed, (i = k → wpOp P ops Q i (fun a' w' => S2 w' ∧ wpAnyH P md ops Q S2 fuel (listed.setIfInBounds i true) a' w') a w) ∧
   (i ≠ k → wpOp P ops Q i (fun a' w' => S1 w' ∧ wpAnyK P md ops Q k S1 S2 fuel (listed.setIfInBounds i true) a' w') a w)
theorem wpAny_of_two {k : Nat} : ∀ (fuel : Nat) (listed : Array Bool) (a : Act) (w : World), wpAnyK P md ops Q k S1 S2 fuel listed a w → wpAny P md ops Q fuel listed a w
 | 0, _, _, _, h => h
 | fuel + 1, _, _, _, h => ⟨h.1, fun i hi => by
  by_cases hk : i = k
  ·exact wpOp_mono (fun a' w' h' => wpAny_of_held fuel _ a' w' h'.2) ((h.2 i hi).1 hk)
  ·exact wpOp_mono (fun a' w' h' => wpAny_of_two fuel _ a' w' h'.2) ((h.2 i hi).2 hk)⟩
theorem wpAnyK_first {k i : Nat} {oi : Oper} {v : Value} {S0 : World → Prop} (hi : ops[i]? = some oi) (hik : i ≠ k) (hsel : ∀ (j : Nat) (o : Oper) cs b, ops[j]? = some o → o.op ≠ .select cs b)
  (hQ : ∀ c a w, Q (.panic c) (a.put oi.dst v) w → Q (.panic c) a w) (h1 : ∀ w, S1 w → S0 w)
  (h2 : (∀ ok, ops[k]? = some ok → ∃ e ∈ ok.after, Region.binds md e = true ∧ e.on = i) ∨ ∀ w, S2 w → S0 w) :
  ∀ (fuel : Nat) (listed : Array Bool) (a : Act) (w : World),
   (∀ j oj, ops[j]? = some oj → j ≠ i → listed.getD j true = false → (∀ e ∈ oj.after, Region.binds md e = true → e.on ≠ i) → oi.apart ops oj = true) →
   i ∈ Region.ready md ops listed → YieldsIf P ops S0 oi v a → S1 w →
   wpAnyK P md ops Q k S1 S2 fuel (listed.setIfInBounds i true) (a.put oi.dst v) w → wpAnyK P md ops Q k S1 S2 (fuel + 1) listed a w := by
 intro fuel
 induction fuel with
 | zero =>
  intro listed a w _ hr hy hS H
  refine ⟨fun h => (by rw [h] at hr; cases hr), fun j hj => ?_⟩
  by_cases hji : j = i
  ·subst hji; exact ⟨fun h => absurd h hik, fun _ => hy.wpOp hi (h1 w hS) ⟨hS, H⟩⟩
  ·have := ready_mono hj hji
   rw [H.1] at this
   cases this
 | succ fuel ih =>
  intro listed a w hfree hr hy hS H
  refine ⟨fun h => (by rw [h] at hr; cases hr), fun j hj => ?_⟩
  by_cases hji : j = i
  ·subst hji; exact ⟨fun h => absurd h hik, fun _ => hy.wpOp hi (h1 w hS) ⟨hS, H⟩⟩
  ·have hjr := H.2 j (ready_mono hj hji)
   obtain ⟨hjun, oj, hoj, hall⟩ := mem_ready.1 hj
   have hnot : ∀ e ∈ oj.after, Region.binds md e = true → e.on ≠ i := fun e he hb heq => by
    have h1 := hall e he hb
    have h0 := (mem_ready.1 hr).1
    rw [heq] at h1
    rcases Nat.lt_or_ge i listed.size with h' | h'
    ·simp [h'] at h0 h1; rw [h0] at h1; cases h1
    ·simp [Array.getElem?_eq_none h'] at h1
   have hfree' : ∀ m om, ops[m]? = some om → m ≠ i → (listed.setIfInBounds j true).getD m true = false →
     (∀ e ∈ om.after, Region.binds md e = true → e.on ≠ i) → oi.apart ops om = true := fun m om hm hmi hun hno => by
    refine hfree m om hm hmi ?_ hno
    by_cases hjm : j = m
    ·subst hjm; exact hjun
    ·rw [getD_set_ne true hjm] at hun; exact hun
   refine ⟨fun hjk => ?_, fun hjk => ?_⟩
   ·have hS2 : ∀ w, S2 w → S0 w := by
     rcases h2 with h2 | h2
     ·obtain ⟨e, he, hb, heq⟩ := h2 oj (hjk ▸ hoj)
      exact absurd heq (hnot e he hb)
     ·exact h2
    have h3 := wpOp_putIf hoj (hfree j oj hoj hji hjun hnot) (fun cs b => hsel i oi cs b hi) (fun cs b => hsel j oj cs b hoj) hQ hy (hjr.1 hjk)
    refine wpOp_mono (fun a' w' h4 => ⟨h4.2.1, wpAnyH_first hi hsel hQ fuel (listed.setIfInBounds j true) a' w' hfree' (ready_mono hr (Ne.symm hji)) (yieldsIf_mono h4.1 hS2) h4.2.1 ?_⟩) h3
    rw [Array.setIfInBounds_comm _ _ hji]
    exact h4.2.2
   ·have h3 := wpOp_putIf hoj (hfree j oj hoj hji hjun hnot) (fun cs b => hsel i oi cs b hi) (fun cs b => hsel j oj cs b hoj) hQ hy (hjr.2 hjk)
    refine wpOp_mono (fun a' w' h4 => ⟨h4.2.1, ih (listed.setIfInBounds j true) a' w' hfree' (ready_mono hr (Ne.symm hji)) h4.1 h4.2.1 ?_⟩) h3
    rw [Array.setIfInBounds_comm _ _ hji]
    exact h4.2.2
/-- Does number k wait for number i? -/
def waitsB (md : Region.Mode) (ops : Array Oper) (k i : Nat) : Bool := match ops[k]? with
 | some ok => ok.after.toList.any (fun e => Region.binds md e && e.on == i)
 | none => true
theorem waits_of {k i : Nat} (h : waitsB md ops k i = true) : ∀ ok, ops[k]? = some ok → ∃ e ∈ ok.after, Region.binds md e = true ∧ e.on = i := fun ok hk => by
 unfold waitsB at h
 rw [hk] at h
 simp only [List.any_eq_true, Bool.and_eq_true, beq_iff_eq] at h
 obtain ⟨e, he, hb, ho⟩ := h
 exact ⟨e, Array.mem_toList_iff.1 he, hb, ho⟩
/-- Take number i first: what it reads is turned by nobody. -/
theorem wpAnyK_take {k i : Nat} {oi : Oper} {v : Value} {fuel : Nat} {listed : Array Bool} {a : Act} {w : World} (hi : ops[i]? = some oi) (hik : i ≠ k)
  (hs : Region.noSelect ops = true) (hf : Region.free md ops listed i = true) (hr : (Region.ready md ops listed).contains i = true)
  (hQ : ∀ c a w, Q (.panic c) (a.put oi.dst v) w → Q (.panic c) a w) (h12 : ∀ w, S1 w → S2 w) (hy : YieldsIf P ops S2 oi v a) (hS : S1 w)
  (h : wpAnyK P md ops Q k S1 S2 fuel (listed.setIfInBounds i true) (a.put oi.dst v) w) : wpAnyK P md ops Q k S1 S2 (fuel + 1) listed a w :=
 wpAnyK_first hi hik (Region.noSelect_spec hs) hQ h12 (.inr fun _ h => h) fuel listed a w (Region.free_spec hi hf) (by simpa using hr) hy hS h
/-- Take number i first: number k, which turns what it reads, waits for it. -/
theorem wpAnyK_ahead {k i : Nat} {oi : Oper} {v : Value} {fuel : Nat} {listed : Array Bool} {a : Act} {w : World} (hi : ops[i]? = some oi) (hik : i ≠ k) (hk : waitsB md ops k i = true)
  (hs : Region.noSelect ops = true) (hf : Region.free md ops listed i = true) (hr : (Region.ready md ops listed).contains i = true)
  (hQ : ∀ c a w, Q (.panic c) (a.put oi.dst v) w → Q (.panic c) a w) (hy : YieldsIf P ops S1 oi v a) (hS : S1 w)
  (h : wpAnyK P md ops Q k S1 S2 fuel (listed.setIfInBounds i true) (a.put oi.dst v) w) : wpAnyK P md ops Q k S1 S2 (fuel + 1) listed a w :=
 wpAnyK_first hi hik (Region.noSelect_spec hs) hQ (fun _ h => h) (.inl (waits_of hk)) fuel listed a w (Region.free_spec hi hf) (by simpa using hr) hy hS h
/-- One operation comes up next, and it is not number k. -/
theorem wpAnyK_one {k i : Nat} {o : Oper} {fuel : Nat} {listed : Array Bool} {a : Act} {w : World} (ho : ops[i]? = some o) (hik : i ≠ k) (hr : Region.ready md ops listed = [i])
  (h : ∀ K' : Act → World → Prop, Shut (∀ a w, S1 w → (S1 w → wpAnyK P md ops Q k S1 S2 fuel (listed.setIfInBounds i true) a w) → K' a w) → if Region.wanted o (yielded ops a.tmps) = true then Oper.wp P o a w K' Q else K' (a.put o.dst undef) w) :
  wpAnyK P md ops Q k S1 S2 (fuel + 1) listed a w := by
 refine ⟨fun h0 => (by rw [hr] at h0; cases h0), fun j hj => ?_⟩
 rw [hr] at hj
 obtain rfl : j = i := by simpa using hj
 exact ⟨fun h => absurd h hik, fun _ => wpOp_step ho (fun K' hK => h K' (fun a w hS hW => hK a w ⟨hS, hW hS⟩))⟩
/-- Number k comes up. -/
theorem wpAnyK_last {k : Nat} {o : Oper} {fuel : Nat} {listed : Array Bool} {a : Act} {w : World} (ho : ops[k]? = some o) (hr : Region.ready md ops listed = [k])
  (h : ∀ K' : Act → World → Prop, Shut (∀ a w, S2 w → (S2 w → wpAnyH P md ops Q S2 fuel (listed.setIfInBounds k true) a w) → K' a w) → if Region.wanted o (yielded ops a.tmps) = true then Oper.wp P o a w K' Q else K' (a.put o.dst undef) w) :
  wpAnyK P md ops Q k S1 S2 (fuel + 1) listed a w := by
 refine ⟨fun h0 => (by rw [hr] at h0; cases h0), fun j hj => ?_⟩
 rw [hr] at hj
 obtain rfl : j = k := by simpa using hj
 exact ⟨fun _ => wpOp_step ho (fun K' hK => h K' (fun a w hS hW => hK a w ⟨hS, hW hS⟩)), fun h => absurd rfl h⟩
/-- The beginning. -/
theorem wp_region_two {id k : Nat} {a : Act} {w : World} (S1 S2 : World → Prop) (hm : P.follows .mixedOrders = true) (hS : S1 w.drew)
  (h : S1 w.drew → wpAnyK P .any ops Q k S1 S2 ops.size (Array.replicate ops.size false) a w.drew) : (Code.region id ops true).wp P Q a w :=
 wp_region_any hm (wpAny_of_two _ _ _ _ (h hS))
end
end Go.Proofs.YtlnbjehimabaiaaGreatDoor
/-
  Steps of a region that draws its order in two phases, in short. No statement of the seat is proved here.
-/
namespace Go.Proofs.YtlnbjehimabaiaaGreatDoor
open Go.RowKit

section
variable {P : Program} {ops : Array Oper} {Q : Exit → Act → World → Prop} {md : Region.Mode} {k : Nat} {S1 S2 : World → Prop} {fuel : Nat} {listed : Array Bool} {a : Act} {w : World}
set_option maxRecDepth 8000 in
theorem tka (i : Nat) {oi : Oper} {v : Value} (h : wpAnyK P md ops Q k S1 S2 fuel (listed.setIfInBounds i true) (a.put oi.dst v) w) (hi : ops[i]? = some oi := by (simp only [List.getElem?_toArray]; rfl)) (hik : i ≠ k := by decide) (hk : waitsB md ops k i = true := by kernel_rfl) (hs : Region.noSelect ops = true := by kernel_rfl)
    (hf : Region.free md ops listed i = true := by kernel_rfl) (hr : (Region.ready md ops listed).contains i = true := by kernel_rfl) (hQ : ∀ c a w, Q (.panic c) (a.put oi.dst v) w → Q (.panic c) a w := by exact fun _ _ _ h => h)
    (hw : Region.wanted oi (yielded ops a.tmps) = true := by rfl) (hy : ∀ u, S1 u → (execOp a.eval oi).run P u = .ok (.value v) u := by (intro u hu; (go_simp) <;> with_reducible rfl)) (hS : S1 w := by assumption) : wpAnyK P md ops Q k S1 S2 (fuel + 1) listed a w :=
  wpAnyK_ahead hi hik hk hs hf hr hQ (.inl ⟨hw, hy⟩) hS h
set_option maxRecDepth 8000 in
theorem tkal (i : Nat) (v : Value) {oi : Oper} (h : wpAnyK P md ops Q k S1 S2 fuel (listed.setIfInBounds i true) (a.put oi.dst v) w) (hi : ops[i]? = some oi := by (simp only [List.getElem?_toArray]; rfl)) (hik : i ≠ k := by decide) (hk : waitsB md ops k i = true := by kernel_rfl) (hs : Region.noSelect ops = true := by kernel_rfl)
    (hf : Region.free md ops listed i = true := by kernel_rfl) (hr : (Region.ready md ops listed).contains i = true := by kernel_rfl) (hQ : ∀ c a w, Q (.panic c) (a.put oi.dst v) w → Q (.panic c) a w := by exact fun _ _ _ h => h)
    (hy : YieldsIf P ops S1 oi v a) (hS : S1 w := by assumption) : wpAnyK P md ops Q k S1 S2 (fuel + 1) listed a w :=
  wpAnyK_ahead hi hik hk hs hf hr hQ hy hS h
set_option maxRecDepth 8000 in
theorem tkk (i : Nat) (h12 : ∀ w, S1 w → S2 w) {oi : Oper} {v : Value} (h : wpAnyK P md ops Q k S1 S2 fuel (listed.setIfInBounds i true) (a.put oi.dst v) w) (hi : ops[i]? = some oi := by (simp only [List.getElem?_toArray]; rfl)) (hik : i ≠ k := by decide) (hs : Region.noSelect ops = true := by kernel_rfl)
    (hf : Region.free md ops listed i = true := by kernel_rfl) (hr : (Region.ready md ops listed).contains i = true := by kernel_rfl) (hQ : ∀ c a w, Q (.panic c) (a.put oi.dst v) w → Q (.panic c) a w := by exact fun _ _ _ h => h)
    (hw : Region.wanted oi (yielded ops a.tmps) = true := by rfl) (hy : ∀ u, S2 u → (execOp a.eval oi).run P u = .ok (.value v) u := by (intro u hu; (go_simp) <;> with_reducible rfl)) (hS : S1 w := by assumption) : wpAnyK P md ops Q k S1 S2 (fuel + 1) listed a w :=
  wpAnyK_take hi hik hs hf hr hQ h12 (.inl ⟨hw, hy⟩) hS h
set_option maxRecDepth 8000 in
theorem tna (i : Nat) {oi : Oper} {b : Act} {L : Array Bool} {v : Value} (h : wpAnyK P md ops Q k S1 S2 fuel L b w) (hi : ops[i]? = some oi := by (simp only [List.getElem?_toArray]; rfl)) (hik : i ≠ k := by decide) (hk : waitsB md ops k i = true := by kernel_rfl) (hs : Region.noSelect ops = true := by kernel_rfl)
    (hf : Region.free md ops listed i = true := by kernel_rfl) (hr : (Region.ready md ops listed).contains i = true := by kernel_rfl) (hQ : ∀ c a w, Q (.panic c) (a.put oi.dst v) w → Q (.panic c) a w := by exact fun _ _ _ h => h)
    (hw : Region.wanted oi (yielded ops a.tmps) = true := by rfl) (hy : ∀ u, S1 u → (execOp a.eval oi).run P u = .ok (.value v) u := by (intro u hu; (go_simp) <;> with_reducible rfl)) (hS : S1 w := by assumption) (hb : a.put oi.dst v = b := by first | (simp only [Act.put, List.setIfInBounds_toArray, List.set_cons_zero, List.set_cons_succ]; rfl) | rfl) (hl : listed.setIfInBounds i true = L := by first | (simp only [List.setIfInBounds_toArray, List.set_cons_zero, List.set_cons_succ]; rfl) | rfl) : wpAnyK P md ops Q k S1 S2 (fuel + 1) listed a w :=
  wpAnyK_ahead hi hik hk hs hf hr hQ (.inl ⟨hw, hy⟩) hS (hb ▸ hl ▸ h)
set_option maxRecDepth 8000 in
theorem tnal (i : Nat) (v : Value) {oi : Oper} {b : Act} {L : Array Bool} (h : wpAnyK P md ops Q k S1 S2 fuel L b w) (hi : ops[i]? = some oi := by (simp only [List.getElem?_toArray]; rfl)) (hik : i ≠ k := by decide) (hk : waitsB md ops k i = true := by kernel_rfl) (hs : Region.noSelect ops = true := by kernel_rfl)
    (hf : Region.free md ops listed i = true := by kernel_rfl) (hr : (Region.ready md ops listed).contains i = true := by kernel_rfl) (hQ : ∀ c a w, Q (.panic c) (a.put oi.dst v) w → Q (.panic c) a w := by exact fun _ _ _ h => h)
    (hy : YieldsIf P ops S1 oi v a) (hS : S1 w := by assumption) (hb : a.put oi.dst v = b := by first | (simp only [Act.put, List.setIfInBounds_toArray, List.set_cons_zero, List.set_cons_succ]; rfl) | rfl) (hl : listed.setIfInBounds i true = L := by first | (simp only [List.setIfInBounds_toArray, List.set_cons_zero, List.set_cons_succ]; rfl) | rfl) : wpAnyK P md ops Q k S1 S2 (fuel + 1) listed a w :=
  wpAnyK_ahead hi hik hk hs hf hr hQ hy hS (hb ▸ hl ▸ h)
set_option maxRecDepth 8000 in
theorem tnk (i : Nat) (h12 : ∀ w, S1 w → S2 w) {oi : Oper} {b : Act} {L : Array Bool} {v : Value} (h : wpAnyK P md ops Q k S1 S2 fuel L b w) (hi : ops[i]? = some oi := by (simp only [List.getElem?_toArray]; rfl)) (hik : i ≠ k := by decide) (hs : Region.noSelect ops = true := by kernel_rfl)
    (hf : Region.free md ops listed i = true := by kernel_rfl) (hr : (Region.ready md ops listed).contains i = true := by kernel_rfl) (hQ : ∀ c a w, Q (.panic c) (a.put oi.dst v) w → Q (.panic c) a w := by exact fun _ _ _ h => h)
    (hw : Region.wanted oi (yielded ops a.tmps) = true := by rfl) (hy : ∀ u, S2 u → (execOp a.eval oi).run P u = .ok (.value v) u := by (intro u hu; (go_simp) <;> with_reducible rfl)) (hS : S1 w := by assumption) (hb : a.put oi.dst v = b := by first | (simp only [Act.put, List.setIfInBounds_toArray, List.set_cons_zero, List.set_cons_succ]; rfl) | rfl) (hl : listed.setIfInBounds i true = L := by first | (simp only [List.setIfInBounds_toArray, List.set_cons_zero, List.set_cons_succ]; rfl) | rfl) : wpAnyK P md ops Q k S1 S2 (fuel + 1) listed a w :=
  wpAnyK_take hi hik hs hf hr hQ h12 (.inl ⟨hw, hy⟩) hS (hb ▸ hl ▸ h)
set_option maxRecDepth 8000 in
theorem ko1 {i : Nat} {K : Act → World → Prop} {L : Array Bool} (hK : Shut (∀ a w, S1 w → (S1 w → wpAnyK P md ops Q k S1 S2 fuel (listed.setIfInBounds i true) a w) → K a w)) (hS : S1 w) (h : S1 w → wpAnyK P md ops Q k S1 S2 fuel L a w)
    (hl : listed.setIfInBounds i true = L := by first | (simp only [List.setIfInBounds_toArray, List.set]; rfl) | rfl) : K a w := hK.out _ _ hS fun s => hl ▸ h s
set_option maxRecDepth 8000 in
theorem kop1 {i : Nat} {K : Act → World → Prop} {L : Array Bool} {b : Act} (hK : Shut (∀ a w, S1 w → (S1 w → wpAnyK P md ops Q k S1 S2 fuel (listed.setIfInBounds i true) a w) → K a w)) (hS : S1 w) (h : S1 w → wpAnyK P md ops Q k S1 S2 fuel L b w)
    (hb : a = b := by first | (simp only [Act.put, List.setIfInBounds_toArray, List.set_cons_zero, List.set_cons_succ]; rfl) | rfl) (hl : listed.setIfInBounds i true = L := by first | (simp only [List.setIfInBounds_toArray, List.set_cons_zero, List.set_cons_succ]; rfl) | rfl) : K a w := hK.out _ _ hS fun s => hb ▸ hl ▸ h s
set_option maxRecDepth 8000 in
theorem rdk (i : Nat) {o : Oper} (h : ∀ K : Act → World → Prop, Shut (∀ a w, S1 w → (S1 w → wpAnyK P md ops Q k S1 S2 fuel (listed.setIfInBounds i true) a w) → K a w) → if Region.wanted o (yielded ops a.tmps) = true then Oper.wp P o a w K Q else K (a.put o.dst undef) w)
    (hi : ops[i]? = some o := by (simp only [List.getElem?_toArray]; rfl)) (hik : i ≠ k := by decide) (hr : Region.ready md ops listed = [i] := by kernel_rfl) : wpAnyK P md ops Q k S1 S2 (fuel + 1) listed a w := wpAnyK_one hi hik hr h
set_option maxRecDepth 8000 in
theorem rdl (i : Nat) {o : Oper} (h : ∀ K : Act → World → Prop, Shut (∀ a w, S2 w → (S2 w → wpAnyH P md ops Q S2 fuel (listed.setIfInBounds i true) a w) → K a w) → if Region.wanted o (yielded ops a.tmps) = true then Oper.wp P o a w K Q else K (a.put o.dst undef) w)
    (hi : ops[i]? = some o := by (simp only [List.getElem?_toArray]; rfl)) (hr : Region.ready md ops listed = [i] := by kernel_rfl) : wpAnyK P md ops Q i S1 S2 (fuel + 1) listed a w := wpAnyK_last hi hr h
end
end Go.Proofs.YtlnbjehimabaiaaGreatDoor
/-
 Words and bytes in BLAKE2s' memory: lists of words, the steps of a round, of a block's words, of the words that are pressed in with it. No statement of the seat is proved here.
-/
namespace Go.Proofs.YtlnbjehimabaiaaGreatDoor
open Go.RowKit
set_option maxRecDepth 8000

theorem Ext.extB {w u : World} (h : Ext w u) (b : Nat) : ExtB b w u := ⟨h.os, h.tape, h.output, h.size, fun k hk _ => h.block k hk⟩
/-- n words of 32 bits. -/
structure Wn (n : Nat) (L : List Int) : Prop where
 len : L.length = n
 wd : ∀ x ∈ L, W7 x
theorem Wn.map_len {n : Nat} {L : List Int} (h : Wn n L) : (List.map (Value.int .u32) L).length = n := by rw [List.length_map, h.len]
theorem Wn.set {n : Nat} {L : List Int} (h : Wn n L) (i : Nat) {x : Int} (hx : W7 x) : Wn n (L.set i x) := ⟨by rw [List.length_set, h.len], fun y hy => by
 rcases List.mem_or_eq_of_mem_set hy with hy | rfl
 ·exact h.wd y hy
 ·exact hx⟩
theorem w7_zero : W7 0 := ⟨by decide, by decide⟩
theorem w7_dec (l : List Int) (h : l.all (fun x => decide (0 ≤ x) && decide (x < 4294967296)) = true) : ∀ x ∈ l, W7 x := fun x hx => by
 have := List.all_eq_true.1 h x hx
 simpa [W7] using this
theorem getW7 {L : List Int} (h : ∀ x ∈ L, W7 x) (i : Nat) : W7 L[i]! := by
 by_cases hi : i < L.length
 ·rw [getElem!_pos L i hi]
  exact h _ (List.getElem_mem hi)
 ·rw [getElem!_neg L i hi]
  exact w7_zero
theorem bg7_w {L : List Int} (h : Wn 16 L) (i j k l : Nat) (x y : Int) : Wn 16 (bg7 L i j k l x y) := by
 obtain ⟨h1, h2, h3, h4⟩ := mg7_w x y (getW7 h.wd i) (getW7 h.wd j) (getW7 h.wd k) (getW7 h.wd l)
 exact (((h.set i h1).set j h2).set k h3).set l h4
theorem gs7_w (m : List Int) (s : List Nat) {L : List Int} (h : Wn 16 L) : ∀ k, Wn 16 (gs7 m s L k)
 | 0 => h
 | k + 1 => bg7_w (gs7_w m s h k) _ _ _ _ _ _
theorem rs7_w (m : List Int) {L : List Int} (h : Wn 16 L) : ∀ k, Wn 16 (rs7 m L k)
 | 0 => h
 | k + 1 => gs7_w _ _ (rs7_w m h k) 8
theorem wn_word {u : World} {b n : Nat} {L : List Int} (h : Ar u b n (List.map (Value.int .u32) L)) (hL : Wn n L) (i : Nat) (hi : i < n) : ∃ x, u.cell? ⟨b, i, none⟩ = some (.int .u32 x) ∧ u.frozen? ⟨b, i, none⟩ = false ∧ W7 x ∧ Hid (x = L[i]!) := by
 obtain ⟨h1, h2⟩ := h.cell i hi
 rw [List.getElem_map] at h1
 exact ⟨_, h1, h2, hL.wd _ (List.getElem_mem _), (getElem!_pos L i (by rw [hL.len]; exact hi)).symm⟩
theorem ar_bg {u : World} {b : Nat} {L : List Int} (h : Ar u b 16 (List.map (Value.int .u32) L)) (i j k m : Nat) (hi : i < 16) (hj : j < 16) (hk : k < 16) (hm : m < 16) {x0 x1 x2 x3 x y p q r s : Int} (e0 : x0 = L[i]!) (e1 : x1 = L[j]!) (e2 : x2 = L[k]!) (e3 : x3 = L[m]!) (hq : (p, q, r, s) = mg7 x0 x1 x2 x3 x y) :
  Ar ((((u.setCell ⟨b, i, none⟩ (.int .u32 p)).setCell ⟨b, j, none⟩ (.int .u32 q)).setCell ⟨b, k, none⟩ (.int .u32 r)).setCell ⟨b, m, none⟩ (.int .u32 s)) b 16 (List.map (Value.int .u32) (bg7 L i j k m x y)) := by
 have := (((h.set i hi (.int .u32 p)).set j hj (.int .u32 q)).set k hk (.int .u32 r)).set m hm (.int .u32 s)
 subst e0 e1 e2 e3
 unfold bg7
 rw [← hq]
 simpa only [List.map_set] using this
/-- The order of a round: sixteen numbers below 16. -/
structure So (s : List Nat) : Prop where
 len : s.length = 16
 lt : ∀ i : Nat, s[i]! < 16
def nb8 (n : Nat) : Value := .int .u8 (n : Int)
theorem so_dec (s : List Nat) (h : s.length = 16) (h2 : s.all (· < 16) = true) : So s := ⟨h, fun i => by
 by_cases hi : i < s.length
 ·rw [getElem!_pos s i hi]
  have := List.all_eq_true.1 h2 _ (List.getElem_mem hi)
  simpa using this
 ·rw [getElem!_neg s i hi]
  decide⟩
theorem so_cell {u : World} {b : Nat} {s : List Nat} (h : Ar u b 16 (List.map nb8 s)) (hs : So s) (i : Nat) (hi : i < 16) : u.cell? ⟨b, i, none⟩ = some (.int .u8 (s[i]! : Nat)) := by
 obtain ⟨h1, h2⟩ := h.cell i hi
 rw [List.getElem_map] at h1
 rw [h1, getElem!_pos s i (by rw [hs.len]; exact hi)]
 rfl
theorem bel4' (w : World) (o1 o2 o3 o4 : Obj) : Below w.heap.size w ((((w.alloc o1).alloc o2).alloc o3).alloc o4) := (bel3 w o1 o2 o3).alloc (by simp <;> omega) o4
/-! ### Lists that are written step by step -/
/-- The first k of the new ones, the elder ones behind. -/
def mk7 (new old : List Int) (k : Nat) : List Int := new.take k ++ old.drop k
theorem mk7_zero (new old : List Int) : mk7 new old 0 = old := by simp [mk7]
theorem mk7_all {new old : List Int} (h : old.length ≤ new.length) (k : Nat) (hk : k = new.length) : mk7 new old k = new := by
 subst hk
 unfold mk7
 rw [List.take_length, List.drop_eq_nil_of_le h, List.append_nil]
theorem mk7_len {new old : List Int} {n : Nat} (h : new.length = n) (h' : old.length = n) (k : Nat) : (mk7 new old k).length = n := by
 unfold mk7
 rw [List.length_append, List.length_take, List.length_drop, h, h']
 omega
theorem mk7_get_new {new old : List Int} {k i : Nat} (hi : i < k) (hn : k ≤ new.length) : (mk7 new old k)[i]! = new[i]! := by
 unfold mk7
 have h1 : i < (new.take k).length := by rw [List.length_take]; omega
 rw [getElem!_pos _ i (by rw [List.length_append]; omega), getElem!_pos new i (by omega), List.getElem_append_left h1, List.getElem_take]
theorem mk7_get_old {new old : List Int} {k i : Nat} (hi : k ≤ i) (hl : i < old.length) (hn : k ≤ new.length) : (mk7 new old k)[i]! = old[i]! := by
 unfold mk7
 have h1 : (new.take k).length = k := by rw [List.length_take]; omega
 have h2 : i < (new.take k ++ old.drop k).length := by rw [List.length_append, List.length_drop, h1]; omega
 rw [getElem!_pos _ i h2, getElem!_pos old i hl, List.getElem_append_right (by omega), List.getElem_drop]
 congr 1
 omega
theorem mk7_set {new old : List Int} {k : Nat} (hk : k < new.length) (ho : k < old.length) {x : Int} (hx : x = new[k]!) : (mk7 new old k).set k x = mk7 new old (k + 1) := by
 unfold mk7
 have h1 : (new.take k).length = k := by rw [List.length_take]; omega
 rw [List.set_append_right _ _ (by omega), h1, Nat.sub_self, List.drop_eq_getElem_cons ho, List.set_cons_zero, List.take_succ_eq_append_getElem hk, List.append_assoc, hx, getElem!_pos new k hk]
 rfl
theorem mk7_w {n : Nat} {new old : List Int} (h : Wn n new) (h' : Wn n old) (k : Nat) : Wn n (mk7 new old k) := ⟨mk7_len h.len h'.len k, fun x hx => by
 rcases List.mem_append.1 hx with hx | hx
 ·exact h.wd x (List.mem_of_mem_take hx)
 ·exact h'.wd x (List.mem_of_mem_drop hx)⟩
/-! ### What is pressed in -/
theorem iv7_w : Wn 8 iv7 := ⟨rfl, w7_dec _ (by decide)⟩
theorem zr_w (n : Nat) : Wn n (List.replicate n 0) := ⟨List.length_replicate, fun x hx => by rw [(List.mem_replicate.1 hx).2]; exact w7_zero⟩
theorem h07_w : Wn 8 h07 := iv7_w.set 0 (xr7_w ⟨by decide, by decide⟩ ⟨by decide, by decide⟩)
theorem app_w {n m : Nat} {a b : List Int} (h : Wn n a) (h' : Wn m b) : Wn (n + m) (a ++ b) := ⟨by rw [List.length_append, h.len, h'.len], fun x hx => by
 rcases List.mem_append.1 hx with hx | hx
 ·exact h.wd x hx
 ·exact h'.wd x hx⟩
/-- v ahead of the rounds, its steps. -/
def va7 (h : List Int) : List Int := h ++ iv7
def vb7 (h : List Int) (t : Int) : List Int := (va7 h).set 12 (xr7 (va7 h)[12]! (t % 4294967296))
def vc7 (h : List Int) (t : Int) : List Int := (vb7 h t).set 13 (xr7 (vb7 h t)[13]! (t / 4294967296 % 4294967296))
def vd7 (h : List Int) (t : Int) : List Int := (vc7 h t).set 14 (4294967295 - (vc7 h t)[14]!)
theorem vs7_last (h : List Int) (t : Int) : vs7 h t true = vd7 h t := rfl
theorem vs7_not (h : List Int) (t : Int) : vs7 h t false = vc7 h t := rfl
theorem va7_w {h : List Int} (hh : Wn 8 h) : Wn 16 (va7 h) := app_w hh iv7_w
theorem vb7_w {h : List Int} (hh : Wn 8 h) (t : Int) : Wn 16 (vb7 h t) := (va7_w hh).set 12 (xr7_w (getW7 (va7_w hh).wd 12) ⟨by omega, by omega⟩)
theorem vc7_w {h : List Int} (hh : Wn 8 h) (t : Int) : Wn 16 (vc7 h t) := (vb7_w hh t).set 13 (xr7_w (getW7 (vb7_w hh t).wd 13) ⟨by omega, by omega⟩)
theorem w7_not {x : Int} (h : W7 x) : W7 (4294967295 - x) := ⟨by have := h.2; omega, by have := h.1; omega⟩
theorem vd7_w {h : List Int} (hh : Wn 8 h) (t : Int) : Wn 16 (vd7 h t) := (vc7_w hh t).set 14 (w7_not (getW7 (vc7_w hh t).wd 14))
theorem vs7_w {h : List Int} (hh : Wn 8 h) (t : Int) (last : Bool) : Wn 16 (vs7 h t last) := by
 cases last
 ·rw [vs7_not]; exact vc7_w hh t
 ·rw [vs7_last]; exact vd7_w hh t
/-- The words that are pressed in. -/
def px7 (h v : List Int) : List Int := List.zipWith xr7 h (List.zipWith xr7 (v.take 8) (v.drop 8))
theorem pr7_eq (h b : List Int) (t : Int) (last : Bool) : pr7 h b t last = px7 h (rs7 (wd7 b 16) (vs7 h t last) 10) := rfl
theorem px7_len {h v : List Int} (hh : Wn 8 h) (hv : Wn 16 v) : (px7 h v).length = 8 := by
 unfold px7
 rw [List.length_zipWith, List.length_zipWith, List.length_take, List.length_drop, hh.len, hv.len]
 rfl
theorem px7_at {h v : List Int} (hh : Wn 8 h) (hv : Wn 16 v) (i : Nat) (hi : i < 8) : (px7 h v)[i]! = xr7 h[i]! (xr7 v[i]! v[i + 8]!) := by
 have h1 := hh.len
 have h2 := hv.len
 rw [getElem!_pos _ i (by rw [px7_len hh hv]; exact hi), getElem!_pos h i (by omega), getElem!_pos v i (by omega), getElem!_pos v (i + 8) (by omega)]
 unfold px7
 rw [List.getElem_zipWith, List.getElem_zipWith, List.getElem_take, List.getElem_drop]
 simp only [Nat.add_comm 8 i]
theorem px7_w {h v : List Int} (hh : Wn 8 h) (hv : Wn 16 v) : Wn 8 (px7 h v) := ⟨px7_len hh hv, fun x hx => by
 obtain ⟨i, hi, rfl⟩ := List.getElem_of_mem hx
 rw [px7_len hh hv] at hi
 have e := px7_at hh hv i hi
 rw [getElem!_pos _ i (by rw [px7_len hh hv]; exact hi)] at e
 rw [e]
 exact xr7_w (getW7 hh.wd i) (xr7_w (getW7 hv.wd i) (getW7 hv.wd (i + 8)))⟩
theorem wd7_len (b : List Int) : ∀ k, (wd7 b k).length = k
 | 0 => rfl
 | k + 1 => by rw [wd7, List.length_append, wd7_len b k]; rfl
theorem leN4_w {b : List Int} (hb : Byt b) (i : Nat) : W7 (leN ((b.drop i).take 4)) := by
 have h := leN_w _ ((hb.drop i).take 4)
 refine ⟨h.1, Int.lt_of_lt_of_le h.2 ?_⟩
 have : ((b.drop i).take 4).length ≤ 4 := by rw [List.length_take]; exact Nat.min_le_left _ _
 generalize ((b.drop i).take 4).length = n at this
 match n, this with
 | 0, _ => decide
 | 1, _ => decide
 | 2, _ => decide
 | 3, _ => decide
 | 4, _ => decide
theorem wd7_w {b : List Int} (hb : Byt b) : ∀ k, Wn k (wd7 b k)
 | 0 => ⟨rfl, fun x hx => by cases hx⟩
 | k + 1 => app_w (wd7_w hb k) ⟨rfl, fun x hx => by rw [List.mem_singleton.1 hx]; exact leN4_w hb _⟩
theorem wd7_at (b : List Int) : ∀ (n i : Nat), i < n → (wd7 b n)[i]! = leN ((b.drop (4 * i)).take 4)
 | 0, _, h => by omega
 | n + 1, i, h => by
  rw [wd7]
  by_cases hi : i < n
  ·rw [getElem!_pos _ i (by rw [List.length_append, wd7_len]; omega), List.getElem_append_left (by rw [wd7_len]; exact hi), ← wd7_at b n i hi, getElem!_pos (wd7 b n) i (by rw [wd7_len]; exact hi)]
  ·have e : i = n := by omega
   subst e
   rw [getElem!_pos _ i (by rw [List.length_append, wd7_len]; exact Nat.lt_succ_self i), List.getElem_append_right (by rw [wd7_len]; exact Nat.le_refl _)]
   simp [wd7_len]
theorem pr7_w {h b : List Int} (hh : Wn 8 h) (t : Int) (last : Bool) : Wn 8 (pr7 h b t last) := by
 rw [pr7_eq]
 exact px7_w hh (rs7_w _ (vs7_w hh t last) 10)
theorem hb7_w (text : List Int) : ∀ k, Wn 8 (hb7 text k)
 | 0 => h07_w
 | k + 1 => pr7_w (hb7_w text k) _ _
theorem ou7_len (h : List Int) : ∀ k, (ou7 h k).length = 4 * k
 | 0 => rfl
 | k + 1 => by rw [ou7, List.length_append, ou7_len h k, lay_length]; omega
theorem ou7_byt (h : List Int) : ∀ k, Byt (ou7 h k)
 | 0 => Byt.nil
 | k + 1 => (ou7_byt h k).app (lay_byt _ _)
theorem sum7_bn (text : List Int) : Bn 32 (sum7 text) := ⟨ou7_len _ 8, ou7_byt _ 8⟩
theorem sg7_so (k : Nat) (hk : k < 10) : So sg7[k]! := by
 match k, hk with
 | 0, _ => exact so_dec _ rfl (by decide)
 | 1, _ => exact so_dec _ rfl (by decide)
 | 2, _ => exact so_dec _ rfl (by decide)
 | 3, _ => exact so_dec _ rfl (by decide)
 | 4, _ => exact so_dec _ rfl (by decide)
 | 5, _ => exact so_dec _ rfl (by decide)
 | 6, _ => exact so_dec _ rfl (by decide)
 | 7, _ => exact so_dec _ rfl (by decide)
 | 8, _ => exact so_dec _ rfl (by decide)
 | 9, _ => exact so_dec _ rfl (by decide)
theorem xr7_assoc {a b c : Int} (ha : W7 a) (hb : W7 b) (hc : W7 c) : xr7 (xr7 a b) c = xr7 a (xr7 b c) := by
 have h1 := xr7_w ha hb
 have h2 := xr7_w hb hc
 obtain ⟨A, rfl⟩ := Int.eq_ofNat_of_zero_le ha.1
 obtain ⟨B, rfl⟩ := Int.eq_ofNat_of_zero_le hb.1
 obtain ⟨C, rfl⟩ := Int.eq_ofNat_of_zero_le hc.1
 have a2 := ha.2
 have b2 := hb.2
 have c2 := hc.2
 unfold xr7 at h1 h2 ⊢
 rw [u32_xor_nat A B (by omega) (by omega)] at h1 ⊢
 rw [u32_xor_nat B C (by omega) (by omega)] at h2 ⊢
 have g1 := h1.2
 have g2 := h2.2
 rw [u32_xor_nat _ C (by omega) (by omega), u32_xor_nat A _ (by omega) (by omega), Nat.xor_assoc]
end Go.Proofs.YtlnbjehimabaiaaGreatDoor
