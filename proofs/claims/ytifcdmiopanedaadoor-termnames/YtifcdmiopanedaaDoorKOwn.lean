/-
  Slices of bytes of one's own. No statement of the seat is proved here.
-/
import Derived.Test.YtifcdmiopanedaaDoorQHand
namespace Go.Proofs.YtifcdmiopanedaaDoor
open Go.RowKit

/-- A slice of one's own that holds these bytes. -/
structure Ow (u : World) (g n : Nat) (l : List Int) : Prop where
  own : ∃ base, u.ownsRow base 5 1 (.slice (some ⟨g, 0, none⟩) n n) n (List.map (Value.int .u8) l)
  byt : Byt l
theorem Ow.len {u : World} {g n : Nat} {l : List Int} (h : Ow u g n l) : l.length = n := by obtain ⟨_, h⟩ := h.own; simpa using h.1
theorem Ow.lt {u : World} {g n : Nat} {l : List Int} (h : Ow u g n l) : g < u.heap.size := by obtain ⟨_, h⟩ := h.own; exact (h.lt g (by simp [Value.ownBlock])).2
theorem Ow.later {u v : World} {g n : Nat} {l : List Int} (h : Ow u g n l) (hb : Below u.heap.size u v) : Ow v g n l := ⟨by obtain ⟨b, h⟩ := h.own; exact ⟨b, owns_later h hb⟩, h.byt⟩
theorem Ow.rd {u : World} {g n : Nat} {l : List Int} (h : Ow u g n l) : Rd u (some ⟨g, 0, none⟩) n n l := by obtain ⟨_, h'⟩ := h.own; exact Rd.owns h.byt h'
theorem Ow.cell {u : World} {g n : Nat} {l : List Int} (h : Ow u g n l) (k : Nat) (hk : k < n) : ∃ v, u.cell? ⟨g, k, none⟩ = some (.int .u8 v) ∧ u.frozen? ⟨g, k, none⟩ = false ∧ l[k]? = some v ∧ 0 ≤ v ∧ v ≤ 255 := by
  obtain ⟨_, h'⟩ := h.own
  obtain ⟨v, h1, h2⟩ := bytes_own h' k hk
  exact ⟨v, h1, World.ownsRow.frozenAt h' k, h2, h.byt v (List.mem_of_getElem? h2)⟩
theorem Ow.set {u : World} {g n : Nat} {l : List Int} (h : Ow u g n l) (k : Nat) {v : Int} (h0 : 0 ≤ v) (h1 : v ≤ 255) : Ow (u.setCell ⟨g, k, none⟩ (.int .u8 v)) g n (l.set k v) := ⟨by
  obtain ⟨b, h'⟩ := h.own
  refine ⟨b, ?_⟩
  rw [List.map_set]
  exact (h'.stored k _).1, byt_set h.byt k h0 h1⟩
theorem Ow.else {u : World} {g n : Nat} {l : List Int} (h : Ow u g n l) (c k : Nat) (hc : g ≠ c) (v : Value) : Ow (u.setCell ⟨c, k, none⟩ v) g n l := ⟨by
  obtain ⟨b, h'⟩ := h.own
  exact ⟨b, h'.kept (w' := u.setCell ⟨c, k, none⟩ v) (row := some c) ⟨rfl, rfl, rfl, by simp, fun i hi hne => Below.heap_setCell _ _ _ _ (fun e => hne (by simp [e]))⟩ (.inr (by simp [Value.ownBlock]; exact fun e => hc e))⟩, h.byt⟩
theorem wpAnyH_mono {P : Program} {md : Region.Mode} {ops : Array Oper} {Q : Exit → Act → World → Prop} {S S' : World → Prop} (hS : ∀ u, S' u → S u) :
    ∀ {fuel : Nat} {listed : Array Bool} {a : Act} {w : World}, wpAnyH P md ops Q S' fuel listed a w → wpAnyH P md ops Q S fuel listed a w
  | 0, _, _, _, h => h
  | _ + 1, _, _, _, h => ⟨h.1, fun i hi => wpOp_mono (fun _ _ h' => ⟨hS _ h'.1, wpAnyH_mono hS h'.2⟩) (h.2 i hi)⟩
theorem str_of {w : World} {a : Option Addr} {len cap : Nat} {l : List Int} (h : Rd w a len cap l) : (convert 69 9 (.slice a len cap)).run Tryd.prog w = .ok (.string (strOfNums l)) w := h.str _ 5 _ Tryd.underlying69 Tryd.underlying5 Tryd.underlying9
theorem xorL_self : ∀ {a : List Int}, Byt a → xorL a a = List.replicate a.length 0
  | [], _ => rfl
  | x :: a, h => by
    have hx := h x (by simp)
    have e := xorL_self (a := a) (fun y hy => h y (List.mem_cons_of_mem _ hy))
    unfold xorL at e ⊢
    rw [List.zipWith_cons_cons, e, List.length_cons, List.replicate_succ, (xor8 x x hx hx).2.2.2 rfl]
end Go.Proofs.YtifcdmiopanedaaDoor
