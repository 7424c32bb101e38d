/-
  A stretch of operations of a region that draws its order, taken one behind the other in their text's order: what must be asked of the order is asked once, by one Bool. No statement of the seat is proved here.
-/
import Derived.Test.YtjmdgmbkkkoamaaKGen
namespace Go.Proofs.Ytjmdgmbkkkoamaa
open Go.RowKit

theorem belowN {B : Nat} {a w : World} (h : Below B a w) (n : Nat) : Below B a (w.drewN n) := ⟨h.os, h.tape, h.output, h.size, h.block⟩
/-- The operations yield their values, one behind the other, in every world that meets S. -/
def Takes (P : Program) (ops : Array Oper) (S : World → Prop) (K : Act → Prop) : List Oper → Act → Prop
  | [], a => K a
  | o :: rest, a => ∃ v, YieldsIf P ops S o v a ∧ Takes P ops S K rest (a.put o.dst v)
def setN : Nat → Nat → Array Bool → Array Bool
  | 0, _, l => l
  | m + 1, k, l => setN m (k + 1) (l.setIfInBounds k true)
def takesB (md : Region.Mode) (ops : Array Oper) : Nat → Nat → Array Bool → Bool
  | 0, _, _ => true
  | m + 1, k, l => (Region.ready md ops l).contains k && Region.free md ops l k && takesB md ops m (k + 1) (l.setIfInBounds k true)
theorem wpAnyH_takes {P : Program} {md : Region.Mode} {ops : Array Oper} {Q : Exit → Act → World → Prop} {S : World → Prop} {w : World} {fuel : Nat} (hs : Region.noSelect ops = true)
    (hQ : ∀ c (d : Option Nat) v a w, Q (.panic c) (Act.put a d v) w → Q (.panic c) a w) (hS : S w) :
    ∀ (l : List Oper) (k : Nat) (listed : Array Bool) (a : Act), (∀ j, j < l.length → ops[k + j]? = l[j]?) → takesB md ops l.length k listed = true →
      Takes P ops S (fun a' => wpAnyH P md ops Q S fuel (setN l.length k listed) a' w) l a → wpAnyH P md ops Q S (fuel + l.length) listed a w
  | [], _, _, _, _, _, h => h
  | o :: l, k, listed, a, hl, hB, h => by
    have h0 : ops[k]? = some o := by simpa using hl 0 (by simp)
    simp only [List.length_cons, takesB, Bool.and_eq_true] at hB
    obtain ⟨⟨hr, hf⟩, hB'⟩ := hB
    obtain ⟨v, hy, hK⟩ := h
    exact wpAnyH_take h0 hs hf hr (fun c a w => hQ c _ _ a w) hy hS (wpAnyH_takes hs hQ hS l (k + 1) _ _ (fun j hj => by have := hl (j + 1) (by simpa using hj); simpa [Nat.add_assoc, Nat.add_comm 1 j] using this) hB' hK)
theorem takes_nil {P : Program} {ops : Array Oper} {S : World → Prop} {K : Act → Prop} {a : Act} (h : K a) : Takes P ops S K [] a := h
theorem takes_one {P : Program} {ops : Array Oper} {S : World → Prop} {K : Act → Prop} {o : Oper} {rest : List Oper} {a : Act} (v : Value) (hw : Region.wanted o (yielded ops a.tmps) = true) (hy : ∀ u, S u → (execOp a.eval o).run P u = .ok (.value v) u)
    (h : Takes P ops S K rest (a.put o.dst v)) : Takes P ops S K (o :: rest) a := ⟨v, .inl ⟨hw, hy⟩, h⟩
theorem takes_skip {P : Program} {ops : Array Oper} {S : World → Prop} {K : Act → Prop} {o : Oper} {rest : List Oper} {a : Act} (hw : Region.wanted o (yielded ops a.tmps) = false)
    (h : Takes P ops S K rest (a.put o.dst undef)) : Takes P ops S K (o :: rest) a := ⟨_, .inr ⟨hw, rfl⟩, h⟩
/-- The first m of the region, from its beginning. -/
theorem wp_region_takes {P : Program} {id : Nat} {l : List Oper} {Q : Exit → Act → World → Prop} {S : World → Prop} {a : Act} {w : World} (m : Nat) (hm : P.follows .mixedOrders = true) (hS : S w.drew)
    (hB : (Region.noSelect l.toArray && takesB .any l.toArray (l.take m).length 0 (Array.replicate l.length false)) = true)
    (h : S w.drew → Takes P l.toArray S (fun a' => wpAnyH P .any l.toArray (NoPanic Q) S (l.length - (l.take m).length) (setN (l.take m).length 0 (Array.replicate l.length false)) a' w.drew) (l.take m) a) :
    (Code.region id l.toArray true).wp P Q a w := by
  refine wp_region_noPanic ?_
  refine wp_region_held_drew (S := S) hm hS (fun hS => ?_)
  rw [Bool.and_eq_true] at hB
  have hle : (l.take m).length ≤ l.length := by rw [List.length_take]; exact Nat.min_le_right _ _
  have := wpAnyH_takes (fuel := l.length - (l.take m).length) (P := P) (md := .any) (Q := NoPanic Q) hB.1 (fun _ _ _ _ _ h => h) hS (l.take m) 0 (Array.replicate l.length false) a (fun j hj => by
    rw [Nat.zero_add]
    have : j < m := by rw [List.length_take] at hj; omega
    simp [List.getElem?_take_of_lt this]) hB.2 (h hS)
  rw [Nat.sub_add_cancel hle] at this
  simpa using this
end Go.Proofs.Ytjmdgmbkkkoamaa
