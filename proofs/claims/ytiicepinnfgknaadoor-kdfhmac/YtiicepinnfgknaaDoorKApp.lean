/-
  An append of whatever bytes to a slice of one's own: nil or not, and where it lies behind it. No statement of the seat is proved here.
-/
import Derived.Test.YtiicepinnfgknaaDoorKOwn
import Derived.Maps.AppendAt
import Derived.Laws.OwnMore
namespace Go.Proofs.YtiicepinnfgknaaDoor
open Go.RowKit

theorem below_gb {u v : World} {B : Nat} {row : Option Nat} (h : u.grownBy v row) (hB : B ≤ u.heap.size) (hr : ∀ k, row = some k → B ≤ k) : Below B u v :=
  ⟨h.os, h.tape, h.output, h.size, fun k hk => h.block k (by omega) (fun e => by have := hr k e.symm; omega)⟩
theorem app_l (u : World) (base : Nat) (v : Value) (n : Nat) (xl : List Int) (a : Option Addr) (m c : Nat) (l : List Int) (hown : u.ownsRow base 5 1 v n (List.map (Value.int .u8) xl)) (hr : Rd u a m c l) (hnm : n + m ≤ 140737488355328) (hbase : base ≤ u.heap.size) (ty : TypeId) :
    ∃ v' w', (Builtin.append_ #[27, 27] ty #[v, .slice a m c]).run Tryd.prog u = .ok v' w' ∧ w'.ownsRow base 5 1 v' (n + m) (List.map (Value.int .u8) (xl ++ l)) ∧ u.grownBy w' v.ownBlock ∧ Below base u w' := by
  obtain ⟨i0, hi, hz0, hz1, hz2⟩ := info_parts info5
  cases a with
  | none =>
    obtain ⟨rfl, rfl, rfl⟩ := hr.none_len
    refine ⟨v, u, run_append_owned_none u base 27 ty 5 i0 1 Tryd.underlying27 hi v n _ hown, by rw [Nat.add_zero, List.append_nil]; exact hown, ⟨rfl, rfl, rfl, Nat.le_refl _, fun _ _ _ => rfl⟩, Below.refl _ _⟩
  | some x =>
    have hn : ∀ j w, (List.map (Value.int .u8) l)[j]? = some w → u.cell? (x.add j) = some w := by
      have := hr.news m
      rwa [List.take_of_length_le (by rw [hr.hlen]; exact Nat.le_refl _)] at this
    obtain ⟨v', w', h1, h2, h3, -⟩ := run_append_own (P := Tryd.prog) u base 27 ty 5 i0 (.int .u8 0) 1 1 Tryd.underlying27 hi hz0 hz1 hz2 rfl (by decide) v n _ hown x m c (List.map (Value.int .u8) l) (by rw [List.length_map, hr.hlen, Nat.mul_one]) hn (bytes_oneCell _) (by unfold maxLen; omega) (by omega) hbase
    rw [← List.map_append] at h2
    exact ⟨v', w', h1, h2, h3, below_gb h3 hbase (fun k hk => (hown.lt k hk).1)⟩
theorem wpList_app_l {ops : Array Oper} {rest : List Oper} {o : Oper} {a : Act} {u : World} {Q : Exit → Act → World → Prop} (hgd : o.guard = none) (s x : Operand)
    (ho : o.op = .call { callee := .builtin .append, args := #[s, x], argTypes := #[27, 27] }) (base : Nat) (v : Value) (n : Nat) (xl : List Int) (hs : a.eval s = v) (hown : u.ownsRow base 5 1 v n (List.map (Value.int .u8) xl))
    (ad : Option Addr) (m c : Nat) (l : List Int) (hx : a.eval x = .slice ad m c) (hr : Rd u ad m c l) (hnm : n + m ≤ 140737488355328) (hbase : base ≤ u.heap.size)
    (h : ∀ v' w', w'.ownsRow base 5 1 v' (n + m) (List.map (Value.int .u8) (xl ++ l)) → Below base u w' → wpList Tryd.prog ops Q rest (a.put o.dst v') w') : wpList Tryd.prog ops Q (o :: rest) a u := by
  refine wpList_plain hgd fun K hK => ?_
  obtain ⟨v', w', h1, h2, -, h4⟩ := app_l u base v n xl ad m c l hown hr hnm hbase o.type
  unfold Oper.wp execOp
  simp only [ho, resolve, invoke, builtin, Sem.run_bind, Sem.run_pure, Result.andThen_ok, List.map_toArray, List.map_cons, List.map_nil, hs, hx, h1]
  exact hK _ _ (h v' w' h2 h4)
theorem owns_sh {w : World} {base n : Nat} {v : Value} {l : List Int} (h : w.ownsRow base 5 1 v n (List.map (Value.int .u8) l)) : ∃ a c, v = .slice a n c := owns_shape h
theorem rd_own {w : World} {base n c : Nat} {a : Option Addr} {l : List Int} (hb : Byt l) (h : w.ownsRow base 5 1 (.slice a n c) n (List.map (Value.int .u8) l)) : Rd w a n c l := Rd.owns hb h
/-- Where it is not empty it has a block, from the base on. -/
theorem owns_block {w : World} {base n c : Nat} {a : Option Addr} {xs : List Value} (h : w.ownsRow base 5 1 (.slice a n c) n xs) (hn : 0 < n) : ∃ g, a = some ⟨g, 0, none⟩ ∧ base ≤ g ∧ g < w.heap.size := by
  rcases h.2 with ⟨_, rfl⟩ | ⟨g, cap', cur, hv, hg, hh, _⟩
  · omega
  · cases hv
    exact ⟨g, rfl, hg, (Array.getElem?_eq_some_iff.1 hh).1⟩
/-- The same, and it is told where the slice lies. -/
theorem app_at (u : World) (base : Nat) (v : Value) (n : Nat) (xl : List Int) (a : Option Addr) (m c : Nat) (l : List Int) (hown : u.ownsRow base 5 1 v n (List.map (Value.int .u8) xl)) (hr : Rd u a m c l) (hnm : n + m ≤ 140737488355328) (hbase : base ≤ u.heap.size) (ty : TypeId) :
    ∃ v' w', (Builtin.append_ #[27, 27] ty #[v, .slice a m c]).run Tryd.prog u = .ok v' w' ∧ w'.ownsRow base 5 1 v' (n + m) (List.map (Value.int .u8) (xl ++ l)) ∧ u.grownBy w' v.ownBlock ∧ (v'.ownBlock = v.ownBlock ∨ v'.ownBlock = some u.heap.size) := by
  obtain ⟨i0, hi, hz0, hz1, hz2⟩ := info_parts info5
  cases a with
  | none =>
    obtain ⟨rfl, rfl, rfl⟩ := hr.none_len
    exact ⟨v, u, run_append_owned_none u base 27 ty 5 i0 1 Tryd.underlying27 hi v n _ hown, by rw [Nat.add_zero, List.append_nil]; exact hown, ⟨rfl, rfl, rfl, Nat.le_refl _, fun _ _ _ => rfl⟩, .inl rfl⟩
  | some x =>
    have hn : ∀ j w, (List.map (Value.int .u8) l)[j]? = some w → u.cell? (x.add j) = some w := by
      have := hr.news m
      rwa [List.take_of_length_le (by rw [hr.hlen]; exact Nat.le_refl _)] at this
    obtain ⟨v', w', h1, h2, h3, -, h5⟩ := run_append_own_at (P := Tryd.prog) u base 27 ty 5 i0 (.int .u8 0) 1 1 Tryd.underlying27 hi hz0 hz1 hz2 rfl (by decide) v n _ hown x m c (List.map (Value.int .u8) l) (by rw [List.length_map, hr.hlen, Nat.mul_one]) hn (bytes_oneCell _) (by unfold maxLen; omega) (by omega) hbase
    rw [← List.map_append] at h2
    exact ⟨v', w', h1, h2, h3, h5⟩
theorem wpList_app_at {ops : Array Oper} {rest : List Oper} {o : Oper} {a : Act} {u : World} {Q : Exit → Act → World → Prop} (hgd : o.guard = none) (s x : Operand)
    (ho : o.op = .call { callee := .builtin .append, args := #[s, x], argTypes := #[27, 27] }) (base : Nat) (v : Value) (n : Nat) (xl : List Int) (hs : a.eval s = v) (hown : u.ownsRow base 5 1 v n (List.map (Value.int .u8) xl))
    (ad : Option Addr) (m c : Nat) (l : List Int) (hx : a.eval x = .slice ad m c) (hr : Rd u ad m c l) (hnm : n + m ≤ 140737488355328) (hbase : base ≤ u.heap.size)
    (h : ∀ v' w', w'.ownsRow base 5 1 v' (n + m) (List.map (Value.int .u8) (xl ++ l)) → u.grownBy w' v.ownBlock → (v'.ownBlock = v.ownBlock ∨ v'.ownBlock = some u.heap.size) → wpList Tryd.prog ops Q rest (a.put o.dst v') w') : wpList Tryd.prog ops Q (o :: rest) a u := by
  refine wpList_plain hgd fun K hK => ?_
  obtain ⟨v', w', h1, h2, h3, h4⟩ := app_at u base v n xl ad m c l hown hr hnm hbase o.type
  unfold Oper.wp execOp
  simp only [ho, resolve, invoke, builtin, Sem.run_bind, Sem.run_pure, Result.andThen_ok, List.map_toArray, List.map_cons, List.map_nil, hs, hx, h1]
  exact hK _ _ (h v' w' h2 h3 h4)
theorem few_s (a : Option Addr) (len cap : Nat) (l : List Int) (w : World) (hr : Rd w a len cap l) (hm : len ≤ 140737488351232) :
    Calls Tryd.prog 12 #[.slice a len cap, .int .i64 (len : Int)] w fun e w' => ∃ a' c', e = .returned (.slice a' len c') ∧ Hid (Rd w' a' len c' l) ∧ Below w.heap.size w w' := by
  refine (few_any a len cap l (len : Int) w hr hm (by omega) (by omega)).mono ?_
  rintro e w' ⟨a', c', rfl, ho, hb⟩
  have e1 : l.take (len : Int).toNat = l := List.take_of_length_le (by rw [hr.hlen]; omega)
  rw [e1, hr.hlen] at ho
  exact ⟨a', c', by rw [e1, hr.hlen], rd_own hr.byt ho, hb⟩
end Go.Proofs.YtiicepinnfgknaaDoor
