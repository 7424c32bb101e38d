/-
  Several texts of one's own, laid together. No statement of the seat is proved here.
-/
import Derived.Test.YtmibjgkakolhiaaDoorPk17
import Derived.Maps.AppendAt
import Derived.Laws.OwnMore
import Derived.Test.YtmibjgkakolhiaaDoorPk40
import Derived.Test.YtmibjgkakolhiaaDoorRB2
import Derived.Test.YtmibjgkakolhiaaDoorPk21
/-
  An append of whatever bytes to a slice of one's own: nil or not, and where it lies behind it. No statement of the seat is proved here.
-/
namespace Go.Proofs.YtmibjgkakolhiaaDoor
open Go.RowKit

set_option maxRecDepth 8000 in
theorem below_gb {u v : World} {B : Nat} {row : Option Nat} (h : u.grownBy v row) (hB : B ≤ u.heap.size) (hr : ∀ k, row = some k → B ≤ k) : Below B u v :=
  ⟨h.os, h.tape, h.output, h.size, fun k hk => h.block k (by omega) (fun e => by have := hr k e.symm; omega)⟩
set_option maxRecDepth 8000 in
theorem app_l (u : World) (base : Nat) (v : Value) (n : Nat) (xl : List Int) (a : Option Addr) (m c : Nat) (l : List Int) (hown : u.ownsRow base 5 1 v n (List.map (Value.int .u8) xl)) (hr : Rd u a m c l) (hnm : n + m ≤ 140737488355328) (hbase : base ≤ u.heap.size) (ty : TypeId) :
    ∃ v' w', (Builtin.append_ #[35, 35] ty #[v, .slice a m c]).run Tryd.prog u = .ok v' w' ∧ w'.ownsRow base 5 1 v' (n + m) (List.map (Value.int .u8) (xl ++ l)) ∧ u.grownBy w' v.ownBlock ∧ Below base u w' := by
  obtain ⟨i0, hi, hz0, hz1, hz2⟩ := info_parts info5
  cases a with
  | none =>
    obtain ⟨rfl, rfl, rfl⟩ := hr.none_len
    refine ⟨v, u, run_append_owned_none u base 35 ty 5 i0 1 Tryd.underlying35 hi v n _ hown, by rw [Nat.add_zero, List.append_nil]; exact hown, ⟨rfl, rfl, rfl, Nat.le_refl _, fun _ _ _ => rfl⟩, Below.refl _ _⟩
  | some x =>
    have hn : ∀ j w, (List.map (Value.int .u8) l)[j]? = some w → u.cell? (x.add j) = some w := by
      have := hr.news m
      rwa [List.take_of_length_le (by rw [hr.hlen]; exact Nat.le_refl _)] at this
    obtain ⟨v', w', h1, h2, h3, -⟩ := run_append_own (P := Tryd.prog) u base 35 ty 5 i0 (.int .u8 0) 1 1 Tryd.underlying35 hi hz0 hz1 hz2 rfl (by decide) v n _ hown x m c (List.map (Value.int .u8) l) (by rw [List.length_map, hr.hlen, Nat.mul_one]) hn (bytes_oneCell _) (by unfold maxLen; omega) (by omega) hbase
    rw [← List.map_append] at h2
    exact ⟨v', w', h1, h2, h3, below_gb h3 hbase (fun k hk => (hown.lt k hk).1)⟩
set_option maxRecDepth 8000 in
theorem wpList_app_l {ops : Array Oper} {rest : List Oper} {o : Oper} {a : Act} {u : World} {Q : Exit → Act → World → Prop} (hgd : o.guard = none) (s x : Operand)
    (ho : o.op = .call { callee := .builtin .append, args := #[s, x], argTypes := #[35, 35] }) (base : Nat) (v : Value) (n : Nat) (xl : List Int) (hs : a.eval s = v) (hown : u.ownsRow base 5 1 v n (List.map (Value.int .u8) xl))
    (ad : Option Addr) (m c : Nat) (l : List Int) (hx : a.eval x = .slice ad m c) (hr : Rd u ad m c l) (hnm : n + m ≤ 140737488355328) (hbase : base ≤ u.heap.size)
    (h : ∀ v' w', w'.ownsRow base 5 1 v' (n + m) (List.map (Value.int .u8) (xl ++ l)) → Below base u w' → wpList Tryd.prog ops Q rest (a.put o.dst v') w') : wpList Tryd.prog ops Q (o :: rest) a u := by
  refine wpList_plain hgd fun K hK => ?_
  obtain ⟨v', w', h1, h2, -, h4⟩ := app_l u base v n xl ad m c l hown hr hnm hbase o.type
  unfold Oper.wp execOp
  simp only [ho, resolve, invoke, builtin, Sem.run_bind, Sem.run_pure, Result.andThen_ok, List.map_toArray, List.map_cons, List.map_nil, hs, hx, h1]
  exact hK _ _ (h v' w' h2 h4)
set_option maxRecDepth 8000 in
theorem owns_sh {w : World} {base n : Nat} {v : Value} {l : List Int} (h : w.ownsRow base 5 1 v n (List.map (Value.int .u8) l)) : ∃ a c, v = .slice a n c := owns_shape h
set_option maxRecDepth 8000 in
theorem rd_own {w : World} {base n c : Nat} {a : Option Addr} {l : List Int} (hb : Byt l) (h : w.ownsRow base 5 1 (.slice a n c) n (List.map (Value.int .u8) l)) : Rd w a n c l := Rd.owns hb h
set_option maxRecDepth 8000 in
/-- Where it is not empty it has a block, from the base on. -/
theorem owns_block {w : World} {base n c : Nat} {a : Option Addr} {xs : List Value} (h : w.ownsRow base 5 1 (.slice a n c) n xs) (hn : 0 < n) : ∃ g, a = some ⟨g, 0, none⟩ ∧ base ≤ g ∧ g < w.heap.size := by
  rcases h.2 with ⟨_, rfl⟩ | ⟨g, cap', cur, hv, hg, hh, _⟩
  · omega
  · cases hv
    exact ⟨g, rfl, hg, (Array.getElem?_eq_some_iff.1 hh).1⟩
set_option maxRecDepth 8000 in
/-- The same, and it is told where the slice lies. -/
theorem app_at (u : World) (base : Nat) (v : Value) (n : Nat) (xl : List Int) (a : Option Addr) (m c : Nat) (l : List Int) (hown : u.ownsRow base 5 1 v n (List.map (Value.int .u8) xl)) (hr : Rd u a m c l) (hnm : n + m ≤ 140737488355328) (hbase : base ≤ u.heap.size) (ty : TypeId) :
    ∃ v' w', (Builtin.append_ #[35, 35] ty #[v, .slice a m c]).run Tryd.prog u = .ok v' w' ∧ w'.ownsRow base 5 1 v' (n + m) (List.map (Value.int .u8) (xl ++ l)) ∧ u.grownBy w' v.ownBlock ∧ (v'.ownBlock = v.ownBlock ∨ v'.ownBlock = some u.heap.size) := by
  obtain ⟨i0, hi, hz0, hz1, hz2⟩ := info_parts info5
  cases a with
  | none =>
    obtain ⟨rfl, rfl, rfl⟩ := hr.none_len
    exact ⟨v, u, run_append_owned_none u base 35 ty 5 i0 1 Tryd.underlying35 hi v n _ hown, by rw [Nat.add_zero, List.append_nil]; exact hown, ⟨rfl, rfl, rfl, Nat.le_refl _, fun _ _ _ => rfl⟩, .inl rfl⟩
  | some x =>
    have hn : ∀ j w, (List.map (Value.int .u8) l)[j]? = some w → u.cell? (x.add j) = some w := by
      have := hr.news m
      rwa [List.take_of_length_le (by rw [hr.hlen]; exact Nat.le_refl _)] at this
    obtain ⟨v', w', h1, h2, h3, -, h5⟩ := run_append_own_at (P := Tryd.prog) u base 35 ty 5 i0 (.int .u8 0) 1 1 Tryd.underlying35 hi hz0 hz1 hz2 rfl (by decide) v n _ hown x m c (List.map (Value.int .u8) l) (by rw [List.length_map, hr.hlen, Nat.mul_one]) hn (bytes_oneCell _) (by unfold maxLen; omega) (by omega) hbase
    rw [← List.map_append] at h2
    exact ⟨v', w', h1, h2, h3, h5⟩
set_option maxRecDepth 8000 in
theorem wpList_app_at {ops : Array Oper} {rest : List Oper} {o : Oper} {a : Act} {u : World} {Q : Exit → Act → World → Prop} (hgd : o.guard = none) (s x : Operand)
    (ho : o.op = .call { callee := .builtin .append, args := #[s, x], argTypes := #[35, 35] }) (base : Nat) (v : Value) (n : Nat) (xl : List Int) (hs : a.eval s = v) (hown : u.ownsRow base 5 1 v n (List.map (Value.int .u8) xl))
    (ad : Option Addr) (m c : Nat) (l : List Int) (hx : a.eval x = .slice ad m c) (hr : Rd u ad m c l) (hnm : n + m ≤ 140737488355328) (hbase : base ≤ u.heap.size)
    (h : ∀ v' w', w'.ownsRow base 5 1 v' (n + m) (List.map (Value.int .u8) (xl ++ l)) → u.grownBy w' v.ownBlock → (v'.ownBlock = v.ownBlock ∨ v'.ownBlock = some u.heap.size) → wpList Tryd.prog ops Q rest (a.put o.dst v') w') : wpList Tryd.prog ops Q (o :: rest) a u := by
  refine wpList_plain hgd fun K hK => ?_
  obtain ⟨v', w', h1, h2, h3, h4⟩ := app_at u base v n xl ad m c l hown hr hnm hbase o.type
  unfold Oper.wp execOp
  simp only [ho, resolve, invoke, builtin, Sem.run_bind, Sem.run_pure, Result.andThen_ok, List.map_toArray, List.map_cons, List.map_nil, hs, hx, h1]
  exact hK _ _ (h v' w' h2 h3 h4)
end Go.Proofs.YtmibjgkakolhiaaDoor
/-
  What the reference's Symm's MixHash does. No statement of the seat is proved here.
-/
namespace Go.Proofs.YtmibjgkakolhiaaDoor
open Go.RowKit

set_option maxRecDepth 8000 in
set_option maxHeartbeats 4000000 in
theorem rmixhash10_c (b : Nat) (k : List Int) (h : Bool) (n : Int) (H C : List Int) (a : Option Addr) (len cap : Nat) (x : List Int) (w : World) (hs : Ny w b k h n H C) (hr : Rd w a len cap x) (hg : Gq w) (hm : len ≤ 140737488351248) :
    Calls Tryd.prog 12 #[.pointer (some ⟨b, 0, none⟩), .slice a len cap] w fun e w' => e = .returned (.tuple #[]) ∧ Hid (Ny w' b k h n (sum7 (H ++ x)) C) ∧ ExtB b w w' := by
  have HS : Hid (Ny w b k h n H C) := hs
  have HG : Hid (Gq w) := hg
  have HR : Hid (Rd w a len cap x) := hr
  have hlt := hs.lt
  clear hs hr hg
  go_enter Tryd.func12, Tryd.ntmps12
  have OL : Hid ((w.alloc (.cells #[] 5)).ownsRow w.heap.size 5 1 (.slice (some ⟨w.heap.size, 0, none⟩) 0 0) 0 (List.map (Value.int .u8) [])) := World.ownsRow_made w #[] 0 (Nat.le_refl _) (by decide) rfl
  have hb0 := bel1 w (.cells #[] 5)
  go_wp2_with (at_builtin; refine wpList_app_l rfl (.tmp 5) (.tmp 9) rfl w.heap.size _ 0 [] rfl OL.out (some ⟨b, 34, none⟩) 32 32 H rfl (HS.out.later hb0).rdH (by decide) hb0.size ?_)
  intro v1 V1 ho1 hb1
  obtain ⟨a1, c1, rfl⟩ := owns_sh ho1
  have HB1 : Hid (Below w.heap.size w V1) := hb0.trans hb1
  have HO1 : Hid (V1.ownsRow w.heap.size 5 1 (.slice a1 32 c1) 32 (List.map (Value.int .u8) H)) := ho1
  clear ho1 hb1 OL hb0
  go_wp2_with (at_builtin; refine wpList_app_l rfl (.tmp 10) (.tmp 11) rfl w.heap.size _ 32 H rfl HO1.out a len cap x rfl (HR.out.below HB1.out) (by omega) HB1.out.size ?_)
  intro v2 V2 ho2 hb2
  rw [← List.map_append] at ho2
  obtain ⟨a2, c2, rfl⟩ := owns_sh ho2
  have HB2 : Hid (Below w.heap.size w V2) := HB1.out.trans hb2
  have HRX : Hid (Rd V2 a2 (32 + len) c2 (H ++ x)) := rd_own (HS.out.bh.byt.app HR.out.byt) ho2
  clear ho2 hb2 HO1 HB1
  go_wp2_with fail
  refine (rsum_c a2 (32 + len) c2 (H ++ x) _ HRX.out (by omega) (HG.out.later HB2.out)).mono ?_
  rintro e V ⟨S, rfl, HS1, hb⟩
  have hSn : Bn 32 S := by rw [HS1.out]; exact sum7_bn _
  have hb2 : Below w.heap.size w V := HB2.out.trans (hb.mono HB2.out.size)
  replace HS : Hid (Ny V b k h n H C) := HS.out.later hb2
  have HE : Hid (ExtB b w V) := extb_of hb2
  clear hb hb2 HRX HG HR HB2
  have hth := HS.out.ho.all
  obtain ⟨hlen', hone, hi⟩ := bn32_cells hSn
  obtain ⟨cs, hcs⟩ : ∃ cs, cs = (List.map (Value.int .u8) S) := ⟨_, rfl⟩
  have HCS : Hid (cs = (List.map (Value.int .u8) S)) := hcs
  rw [← hcs] at hlen' hone hi ⊢
  clear hcs
  go_wp2_with (refine wpList_store_mid rfl 27 (.tmp 15) (.tmp 13) rfl b 34 cs.toArray rfl rfl (by simpa [hlen'] using hth) (by simpa using hi) (all_oneCell_toArray hone) ?_)
  go_end0
  exact ⟨rfl, by unfold Hid; rw [HCS.out, ← HS1.out]; exact HS.out.setH hSn, extB_setCells _ _ _ HE.out⟩
end Go.Proofs.YtmibjgkakolhiaaDoor
