/-
  The rows that portholehand's Terms makes: terms and their sizes; what its closure answers. No statement of the seat is proved here.
-/
import Derived.Test.YtifcdmiopanedaaDoorQHand
import Derived.Test.YtifcdmiopanedaaDoorKStr
import Derived.Test.YtifcdmiopanedaaDoorTVal
import Derived.Deep.AppendLies
import Derived.Deep.RegionHeld3
import Derived.OneCell
import Derived.Lib.Hide
namespace Go.Proofs.YtifcdmiopanedaaDoor
open Go.RowKit
set_option linter.unusedVariables false
set_option linter.unusedSimpArgs false

/-- Terms and their sizes, one behind the other. -/
def Tms (n : Nat) (xs ys : List Value) : Prop := ∀ j, j < n → ∃ t v l s, xs[j]? = some (.iface t v) ∧ Tm t v l s ∧ s ≤ 60 ∧ ys[j]? = some (.int .i64 s)
theorem Tms.snoc {n : Nat} {xs ys : List Value} (h : Tms n xs ys) (hx : xs.length = n) (hy : ys.length = n) {t : TypeId} {v : Value} {l : List UInt8} {s : Nat} (k : Tm t v l s) (ks : s ≤ 60) : Tms (n + 1) (xs ++ [.iface t v]) (ys ++ [.int .i64 s]) := by
  intro j hj
  by_cases e : j = n
  · subst e
    exact ⟨t, v, l, s, by rw [List.getElem?_append_right (by omega), hx]; simp, k, ks, by rw [List.getElem?_append_right (by omega), hy]; simp⟩
  · obtain ⟨t', v', l', s', h1, h2, h3, h4⟩ := h j (by omega)
    exact ⟨t', v', l', s', by rw [List.getElem?_append_left (by omega)]; exact h1, h2, h3, by rw [List.getElem?_append_left (by omega)]; exact h4⟩
/-- The two rows and the variables that hold them. -/
structure Tq (B p3 p4 : Nat) (w u : World) (g3 c3 n : Nat) (xs : List Value) (g4 c4 m : Nat) (ys : List Value) : Prop where
  k3 : u.cell? ⟨p3, 0, none⟩ = some (.slice (some ⟨g3, 0, none⟩) n c3)
  z3 : u.frozen? ⟨p3, 0, none⟩ = false
  k4 : u.cell? ⟨p4, 0, none⟩ = some (.slice (some ⟨g4, 0, none⟩) m c4)
  z4 : u.frozen? ⟨p4, 0, none⟩ = false
  o3 : u.ownsRow B 29 1 (.slice (some ⟨g3, 0, none⟩) n c3) n xs
  o4 : u.ownsRow B 3 1 (.slice (some ⟨g4, 0, none⟩) m c4) m ys
  b33 : g3 ≠ p3
  b34 : g3 ≠ p4
  b43 : g4 ≠ p3
  b44 : g4 ≠ p4
  bg : g3 ≠ g4
  ne : p3 ≠ p4
  bel : Below B w u
  l3 : B ≤ p3
  l4 : B ≤ p4
theorem Tq.lt3 {B p3 p4 : Nat} {w u : World} {g3 c3 n : Nat} {xs : List Value} {g4 c4 m : Nat} {ys : List Value} (h : Tq B p3 p4 w u g3 c3 n xs g4 c4 m ys) : p3 < u.heap.size := World.block_lt_of_cell? u _ h.k3
theorem Tq.lt4 {B p3 p4 : Nat} {w u : World} {g3 c3 n : Nat} {xs : List Value} {g4 c4 m : Nat} {ys : List Value} (h : Tq B p3 p4 w u g3 c3 n xs g4 c4 m ys) : p4 < u.heap.size := World.block_lt_of_cell? u _ h.k4
theorem Tq.le {B p3 p4 : Nat} {w u : World} {g3 c3 n : Nat} {xs : List Value} {g4 c4 m : Nat} {ys : List Value} (h : Tq B p3 p4 w u g3 c3 n xs g4 c4 m ys) : B ≤ u.heap.size := by have := h.lt3; have := h.l3; omega
theorem Tq.later {B p3 p4 : Nat} {w u : World} {g3 c3 n : Nat} {xs : List Value} {g4 c4 m : Nat} {ys : List Value} (h : Tq B p3 p4 w u g3 c3 n xs g4 c4 m ys) {v : World} (hb : Below u.heap.size u v) : Tq B p3 p4 w v g3 c3 n xs g4 c4 m ys where
  k3 := cell_later hb h.k3
  z3 := froz_later hb h.lt3 h.z3
  k4 := cell_later hb h.k4
  z4 := froz_later hb h.lt4 h.z4
  o3 := owns_later h.o3 hb
  o4 := owns_later h.o4 hb
  b33 := h.b33
  b34 := h.b34
  b43 := h.b43
  b44 := h.b44
  bg := h.bg
  ne := h.ne
  bel := h.bel.trans (hb.mono h.le)
  l3 := h.l3
  l4 := h.l4
theorem froz_grown {w w' : World} {row : Option Nat} (hg : w.grownBy w' row) {b o : Nat} (hlt : b < w.heap.size) (hne : some b ≠ row) (hz : w.frozen? ⟨b, o, none⟩ = false) : w'.frozen? ⟨b, o, none⟩ = false := by
  have e := hg.block b hlt hne
  unfold World.frozen? at hz ⊢
  rw [e]; exact hz
/-- An append to the row of terms, stored. -/
theorem Tq.app3 {B p3 p4 : Nat} {w u : World} {g3 c3 n : Nat} {xs : List Value} {g4 c4 m : Nat} {ys : List Value} (h : Tq B p3 p4 w u g3 c3 n xs g4 c4 m ys) {v : World} {g c n' : Nat} {zs : List Value} (ho : v.ownsRow B 29 1 (.slice (some ⟨g, 0, none⟩) n' c) n' zs) (hg : u.grownBy v (some g3)) (hg2 : g3 = g ∨ g = u.heap.size) : Tq B p3 p4 w (v.setCell ⟨p3, 0, none⟩ (.slice (some ⟨g, 0, none⟩) n' c)) g c n' zs g4 c4 m ys := by
  have hlt : g4 < u.heap.size := by
    rcases h.o4.2 with ⟨e, _⟩ | ⟨g', _, _, e, _, hh, _⟩
    · cases e
    · cases e; exact (Array.getElem?_eq_some_iff.1 hh).1
  have l3 := h.lt3
  have l4 := h.lt4
  have hge : B ≤ g3 := (h.o3.lt g3 rfl).1
  have n3 : g ≠ p3 := by have := h.b33; rcases hg2 with e | e <;> omega
  have n4 : g ≠ p4 := by have := h.b34; rcases hg2 with e | e <;> omega
  have ng : g ≠ g4 := by have := h.bg; rcases hg2 with e | e <;> omega
  have q3 : v.cell? ⟨p3, 0, none⟩ = some (.slice (some ⟨g3, 0, none⟩) n c3) := hg.cell h.k3 (by have := h.b33; intro e; injection e with e; exact this e.symm)
  have q4 : v.cell? ⟨p4, 0, none⟩ = some (.slice (some ⟨g4, 0, none⟩) m c4) := hg.cell h.k4 (by have := h.b34; intro e; injection e with e; exact this e.symm)
  have y3 : v.frozen? ⟨p3, 0, none⟩ = false := froz_grown hg l3 (by have := h.b33; intro e; injection e with e; exact this e.symm) h.z3
  have y4 : v.frozen? ⟨p4, 0, none⟩ = false := froz_grown hg l4 (by have := h.b34; intro e; injection e with e; exact this e.symm) h.z4
  have ob : v.ownsRow B 3 1 (.slice (some ⟨g4, 0, none⟩) m c4) m ys := h.o4.kept hg (.inr (by have := h.bg; simp only [Value.ownBlock]; intro e; injection e with e; omega))
  have hb : Below B w v := h.bel.grown hg h.le (fun k hk => by injection hk with e; omega)
  refine { k3 := ?_, z3 := by rw [World.frozen?_setCell]; exact y3, k4 := ?_, z4 := by rw [World.frozen?_setCell]; exact y4, o3 := ?_, o4 := ?_, b33 := n3, b34 := n4, b43 := h.b43, b44 := h.b44, bg := ng, ne := h.ne, bel := hb.setCell h.l3 _, l3 := h.l3, l4 := h.l4 }
  · exact World.cell?_setCell_same _ _ _ q3
  · rw [World.cell?_setCell_other _ _ _ _ (by have := h.ne; intro e; injection e with e; omega)]; exact q4
  · exact ownsRow_setCell_other ho (by simp only [Value.ownBlock]; intro e; injection e with e; omega) _
  · exact ownsRow_setCell_other ob (by have := h.b43; simp only [Value.ownBlock]; intro e; injection e with e; omega) _
/-- An append to the row of sizes, stored. -/
theorem Tq.app4 {B p3 p4 : Nat} {w u : World} {g3 c3 n : Nat} {xs : List Value} {g4 c4 m : Nat} {ys : List Value} (h : Tq B p3 p4 w u g3 c3 n xs g4 c4 m ys) {v : World} {g c n' : Nat} {zs : List Value} (ho : v.ownsRow B 3 1 (.slice (some ⟨g, 0, none⟩) n' c) n' zs) (hg : u.grownBy v (some g4)) (hg2 : g4 = g ∨ g = u.heap.size) : Tq B p3 p4 w (v.setCell ⟨p4, 0, none⟩ (.slice (some ⟨g, 0, none⟩) n' c)) g3 c3 n xs g c n' zs := by
  have hlt : g3 < u.heap.size := by
    rcases h.o3.2 with ⟨e, _⟩ | ⟨g', _, _, e, _, hh, _⟩
    · cases e
    · cases e; exact (Array.getElem?_eq_some_iff.1 hh).1
  have l3 := h.lt3
  have l4 := h.lt4
  have hge : B ≤ g4 := (h.o4.lt g4 rfl).1
  have n3 : g ≠ p3 := by have := h.b43; rcases hg2 with e | e <;> omega
  have n4 : g ≠ p4 := by have := h.b44; rcases hg2 with e | e <;> omega
  have ng : g ≠ g3 := by have := h.bg; rcases hg2 with e | e <;> omega
  have q3 : v.cell? ⟨p3, 0, none⟩ = some (.slice (some ⟨g3, 0, none⟩) n c3) := hg.cell h.k3 (by have := h.b43; intro e; injection e with e; exact this e.symm)
  have q4 : v.cell? ⟨p4, 0, none⟩ = some (.slice (some ⟨g4, 0, none⟩) m c4) := hg.cell h.k4 (by have := h.b44; intro e; injection e with e; exact this e.symm)
  have y3 : v.frozen? ⟨p3, 0, none⟩ = false := froz_grown hg l3 (by have := h.b43; intro e; injection e with e; exact this e.symm) h.z3
  have y4 : v.frozen? ⟨p4, 0, none⟩ = false := froz_grown hg l4 (by have := h.b44; intro e; injection e with e; exact this e.symm) h.z4
  have ob : v.ownsRow B 29 1 (.slice (some ⟨g3, 0, none⟩) n c3) n xs := h.o3.kept hg (.inr (by have := h.bg; simp only [Value.ownBlock]; intro e; injection e with e; omega))
  have hb : Below B w v := h.bel.grown hg h.le (fun k hk => by injection hk with e; omega)
  refine { k4 := ?_, z4 := by rw [World.frozen?_setCell]; exact y4, k3 := ?_, z3 := by rw [World.frozen?_setCell]; exact y3, o4 := ?_, o3 := ?_, b43 := n3, b44 := n4, b33 := h.b33, b34 := h.b34, bg := Ne.symm ng, ne := h.ne, bel := hb.setCell h.l4 _, l3 := h.l3, l4 := h.l4 }
  · rw [World.cell?_setCell_other _ _ _ _ (by have := h.ne; intro e; injection e with e; omega)]; exact q3
  · exact World.cell?_setCell_same _ _ _ q4
  · exact ownsRow_setCell_other ob (by have := h.b34; simp only [Value.ownBlock]; intro e; injection e with e; omega) _
  · exact ownsRow_setCell_other ho (by simp only [Value.ownBlock]; intro e; injection e with e; omega) _
theorem Tq.can3 {B p3 p4 : Nat} {w u : World} {g3 c3 n : Nat} {xs : List Value} {g4 c4 m : Nat} {ys : List Value} (h : Tq B p3 p4 w u g3 c3 n xs g4 c4 m ys) {v : World} (hg : u.grownBy v (some g3)) : v.cell? ⟨p3, 0, none⟩ = some (.slice (some ⟨g3, 0, none⟩) n c3) ∧ v.frozen? ⟨p3, 0, none⟩ = false :=
  ⟨hg.cell h.k3 (by have := h.b33; intro e; injection e with e; exact this e.symm), froz_grown hg h.lt3 (by have := h.b33; intro e; injection e with e; exact this e.symm) h.z3⟩
theorem Tq.can4 {B p3 p4 : Nat} {w u : World} {g3 c3 n : Nat} {xs : List Value} {g4 c4 m : Nat} {ys : List Value} (h : Tq B p3 p4 w u g3 c3 n xs g4 c4 m ys) {v : World} (hg : u.grownBy v (some g4)) : v.cell? ⟨p4, 0, none⟩ = some (.slice (some ⟨g4, 0, none⟩) m c4) ∧ v.frozen? ⟨p4, 0, none⟩ = false :=
  ⟨hg.cell h.k4 (by have := h.b44; intro e; injection e with e; exact this e.symm), froz_grown hg h.lt4 (by have := h.b44; intro e; injection e with e; exact this e.symm) h.z4⟩
theorem termInfo : ((Tryd.prog.info? 29).map fun i => (i.zero, i.size, i.bytes)) = some (some .nilIface, 1, 16) := by kernel_rfl
theorem intInfo : ((Tryd.prog.info? 3).map fun i => (i.zero, i.size, i.bytes)) = some (some (.int .i64 0), 1, 8) := by kernel_rfl
/-- The append itself, in a plain region. -/
theorem wpList_ap3 {ops : Array Oper} {rest : List Oper} {o : Oper} {a : Act} {Q : Exit → Act → World → Prop} (B g c n : Nat) (xs : List Value) (t : TypeId) (x : Value) (w : World) (hown : w.ownsRow B 29 1 (.slice (some ⟨g, 0, none⟩) n c) n xs) (hB : B ≤ w.heap.size) (hlim : n ≤ 1000) (hgd : o.guard = none) (s y : Operand) (ho : o.op = .call { callee := .builtin .append, args := #[s, y], argTypes := #[45, 45] })
    (hs : a.eval s = .slice (some ⟨g, 0, none⟩) n c) (hx : a.eval y = .slice (some ⟨w.heap.size, 0, none⟩) 1 1)
    (h : ∀ g' c' u, u.ownsRow B 29 1 (.slice (some ⟨g', 0, none⟩) (n + 1) c') (n + 1) (xs ++ [(.iface t x)]) → (w.alloc (.cells #[(.iface t x)] 29)).grownBy u (some g) → (g = g' ∨ g' = (w.alloc (.cells #[(.iface t x)] 29)).heap.size) → wpList Tryd.prog ops Q rest (a.put o.dst (.slice (some ⟨g', 0, none⟩) (n + 1) c')) u) : wpList Tryd.prog ops Q (o :: rest) a (w.alloc (.cells #[(.iface t x)] 29)) := by
  obtain ⟨i0, hi, hz0, hz1, hz2⟩ := info_parts termInfo
  refine wpList_append_lies _ hgd s y 45 ho B 29 i0 .nilIface 1 16 Tryd.underlying45 hi hz0 hz1 hz2 rfl (by decide) _ n xs hs (hown.alloc _) ⟨w.heap.size, 0, none⟩ 1 1 [(.iface t x)] hx rfl
    (by intro j u' hj; match j, hj with | 0, hj => simp at hj; subst hj; simp [Addr.add]) (by intro u' hu'; simp at hu'; subst hu'; rfl) (by decide) (by unfold maxLen; omega) (by omega) (by simp; omega) _ rfl ?_
  intro g' c' u h1 h2 h3 _
  refine h g' c' u h1 h2 ?_
  rcases h3 with e | e
  · simp only [Value.ownBlock] at e; injection e with e; exact .inl e
  · exact .inr e
/-- The append itself, in a plain region. -/
theorem wpList_ap4 {ops : Array Oper} {rest : List Oper} {o : Oper} {a : Act} {Q : Exit → Act → World → Prop} (B g c n : Nat) (xs : List Value) (x : Int) (w : World) (hown : w.ownsRow B 3 1 (.slice (some ⟨g, 0, none⟩) n c) n xs) (hB : B ≤ w.heap.size) (hlim : n ≤ 1000) (hgd : o.guard = none) (s y : Operand) (ho : o.op = .call { callee := .builtin .append, args := #[s, y], argTypes := #[63, 63] })
    (hs : a.eval s = .slice (some ⟨g, 0, none⟩) n c) (hx : a.eval y = .slice (some ⟨w.heap.size, 0, none⟩) 1 1)
    (h : ∀ g' c' u, u.ownsRow B 3 1 (.slice (some ⟨g', 0, none⟩) (n + 1) c') (n + 1) (xs ++ [(.int .i64 x)]) → (w.alloc (.cells #[(.int .i64 x)] 3)).grownBy u (some g) → (g = g' ∨ g' = (w.alloc (.cells #[(.int .i64 x)] 3)).heap.size) → wpList Tryd.prog ops Q rest (a.put o.dst (.slice (some ⟨g', 0, none⟩) (n + 1) c')) u) : wpList Tryd.prog ops Q (o :: rest) a (w.alloc (.cells #[(.int .i64 x)] 3)) := by
  obtain ⟨i0, hi, hz0, hz1, hz2⟩ := info_parts intInfo
  refine wpList_append_lies _ hgd s y 63 ho B 3 i0 (.int .i64 0) 1 8 Tryd.underlying63 hi hz0 hz1 hz2 rfl (by decide) _ n xs hs (hown.alloc _) ⟨w.heap.size, 0, none⟩ 1 1 [(.int .i64 x)] hx rfl
    (by intro j u' hj; match j, hj with | 0, hj => simp at hj; subst hj; simp [Addr.add]) (by intro u' hu'; simp at hu'; subst hu'; rfl) (by decide) (by unfold maxLen; omega) (by omega) (by simp; omega) _ rfl ?_
  intro g' c' u h1 h2 h3 _
  refine h g' c' u h1 h2 ?_
  rcases h3 with e | e
  · simp only [Value.ownBlock] at e; injection e with e; exact .inl e
  · exact .inr e
theorem own_cell {w : World} {base g n c : Nat} {e : TypeId} {xs : List Value} (h : w.ownsRow base e 1 (.slice (some ⟨g, 0, none⟩) n c) n xs) {j : Nat} {x : Value} (hj : j < n) (hx : xs[j]? = some x) : w.cell? ⟨g, j, none⟩ = some x := by
  rw [World.ownsRow.cellAt h j (by omega)]
  exact hx
set_option maxRecDepth 8000 in
set_option maxHeartbeats 2000000 in
/-- What the closure of Terms answers. -/
theorem at_c {B p3 p4 : Nat} {w U : World} {g3 c3 n : Nat} {xs : List Value} {g4 c4 : Nat} {ys : List Value} (h : Tq B p3 p4 w U g3 c3 n xs g4 c4 n ys) (hT : Tms n xs ys) (hn : 1 ≤ n ∧ n ≤ 1000) (k : Int) (hk : -9223372036854775808 ≤ k ∧ k ≤ 9223372036854775807) :
    Calls Tryd.prog 25 #[.int .i64 k, .pointer (some ⟨p3, 0, none⟩), .pointer (some ⟨p4, 0, none⟩)] U fun e v => ∃ t x l s, e = .returned (.tuple #[.iface t x, .int .i64 (s : Nat)]) ∧ Hid (Tm t x l s) ∧ s ≤ 60 ∧ Below U.heap.size U v := by
  have q3 := h.k3
  have q4 := h.k4
  have HP : Hid (∀ w', w' = U → Calls Tryd.prog 18 #[.int .i64 k, .int .i64 n] w' fun e w2 => ∃ k', e = .returned (.int .i64 k') ∧ 0 ≤ k' ∧ k' < n ∧ w2 = U) := by rintro w' rfl; exact pick_any k n hk (by omega) w'
  have HH : Hid (Tq B p3 p4 w U g3 c3 n xs g4 c4 n ys) := h
  have HT : Hid (Tms n xs ys) := hT
  clear h hT
  go_enter Tryd.func25, Tryd.ntmps25
  go_wp2_with fail
  refine (HP.out _ rfl).mono ?_
  rintro e w2 ⟨k', rfl, k0, k1, hw2⟩
  have hw3 := hw2.symm
  subst hw3
  obtain ⟨j, rfl⟩ : ∃ j : Nat, k' = j := ⟨k'.toNat, by omega⟩
  have hjn : j < n := by omega
  obtain ⟨t, x, l, s, hx, hm, hs, hy⟩ := HT.out j hjn
  have qx := own_cell HH.out.o3 hjn hx
  have qy := own_cell HH.out.o4 hjn hy
  have HM : Hid (Tm t x l s) := hm
  clear hx hy hm HH HT HP
  go_upto_region 2 with fail
  refine wp_region_noPanic ?_
  refine wp_region_held_drew (S := Ext U) (by kernel_rfl) (Ext.refl U).drew (fun hH => ?_)
  change wpAnyH _ _ _ _ _ _ #[false, false, false, false, false, false, false, false, false, false] _ _
  refine wpAnyH_take (i := 0) (oi := ?o0at) (v := ?v0at) ?h0at (by kernel_rfl) ?f0at ?r0at (fun _ _ _ h => h) (Or.inl ⟨?w0at, ?y0at⟩) (by assumption) ?t0at
  case h0at => simp only [List.getElem?_toArray]; rfl
  case f0at => kernel_rfl
  case r0at => kernel_rfl
  case w0at => rfl
  case y0at => (intro u hu; (have hx := Ext.cell hu q3; go_simp) <;> with_reducible rfl)
  try simp only [Act.put, List.setIfInBounds_toArray, List.set_cons_zero, List.set_cons_succ]
  refine wpAnyH_take (i := 1) (oi := ?o1at) (v := ?v1at) ?h1at (by kernel_rfl) ?f1at ?r1at (fun _ _ _ h => h) (Or.inl ⟨?w1at, ?y1at⟩) (by assumption) ?t1at
  case h1at => simp only [List.getElem?_toArray]; rfl
  case f1at => kernel_rfl
  case r1at => kernel_rfl
  case w1at => rfl
  case y1at => (intro u hu; (go_simp) <;> with_reducible rfl)
  try simp only [Act.put, List.setIfInBounds_toArray, List.set_cons_zero, List.set_cons_succ]
  refine wpAnyH_take (i := 2) (oi := ?o2at) (v := ?v2at) ?h2at (by kernel_rfl) ?f2at ?r2at (fun _ _ _ h => h) (Or.inl ⟨?w2at, ?y2at⟩) (by assumption) ?t2at
  case h2at => simp only [List.getElem?_toArray]; rfl
  case f2at => kernel_rfl
  case r2at => kernel_rfl
  case w2at => rfl
  case y2at => (intro u hu; (go_simp) <;> with_reducible rfl)
  try simp only [Act.put, List.setIfInBounds_toArray, List.set_cons_zero, List.set_cons_succ]
  refine wpAnyH_take (i := 3) (oi := ?o3at) (v := ?v3at) ?h3at (by kernel_rfl) ?f3at ?r3at (fun _ _ _ h => h) (Or.inl ⟨?w3at, ?y3at⟩) (by assumption) ?t3at
  case h3at => simp only [List.getElem?_toArray]; rfl
  case f3at => kernel_rfl
  case r3at => kernel_rfl
  case w3at => rfl
  case y3at => (intro u hu; (have hx := Ext.cell hu qx; go_simp) <;> with_reducible rfl)
  try simp only [Act.put, List.setIfInBounds_toArray, List.set_cons_zero, List.set_cons_succ]
  refine wpAnyH_take (i := 4) (oi := ?o4at) (v := ?v4at) ?h4at (by kernel_rfl) ?f4at ?r4at (fun _ _ _ h => h) (Or.inl ⟨?w4at, ?y4at⟩) (by assumption) ?t4at
  case h4at => simp only [List.getElem?_toArray]; rfl
  case f4at => kernel_rfl
  case r4at => kernel_rfl
  case w4at => rfl
  case y4at => (intro u hu; (have hx := Ext.cell hu q4; go_simp) <;> with_reducible rfl)
  try simp only [Act.put, List.setIfInBounds_toArray, List.set_cons_zero, List.set_cons_succ]
  refine wpAnyH_take (i := 5) (oi := ?o5at) (v := ?v5at) ?h5at (by kernel_rfl) ?f5at ?r5at (fun _ _ _ h => h) (Or.inl ⟨?w5at, ?y5at⟩) (by assumption) ?t5at
  case h5at => simp only [List.getElem?_toArray]; rfl
  case f5at => kernel_rfl
  case r5at => kernel_rfl
  case w5at => rfl
  case y5at => (intro u hu; (go_simp) <;> with_reducible rfl)
  try simp only [Act.put, List.setIfInBounds_toArray, List.set_cons_zero, List.set_cons_succ]
  refine wpAnyH_take (i := 6) (oi := ?o6at) (v := ?v6at) ?h6at (by kernel_rfl) ?f6at ?r6at (fun _ _ _ h => h) (Or.inl ⟨?w6at, ?y6at⟩) (by assumption) ?t6at
  case h6at => simp only [List.getElem?_toArray]; rfl
  case f6at => kernel_rfl
  case r6at => kernel_rfl
  case w6at => rfl
  case y6at => (intro u hu; (go_simp) <;> with_reducible rfl)
  try simp only [Act.put, List.setIfInBounds_toArray, List.set_cons_zero, List.set_cons_succ]
  refine wpAnyH_take (i := 7) (oi := ?o7at) (v := ?v7at) ?h7at (by kernel_rfl) ?f7at ?r7at (fun _ _ _ h => h) (Or.inl ⟨?w7at, ?y7at⟩) (by assumption) ?t7at
  case h7at => simp only [List.getElem?_toArray]; rfl
  case f7at => kernel_rfl
  case r7at => kernel_rfl
  case w7at => rfl
  case y7at => (intro u hu; (have hx := Ext.cell hu qy; go_simp) <;> with_reducible rfl)
  try simp only [Act.put, List.setIfInBounds_toArray, List.set_cons_zero, List.set_cons_succ]
  refine wpAnyH_take (i := 8) (oi := ?o8at) (v := ?v8at) ?h8at (by kernel_rfl) ?f8at ?r8at (fun _ _ _ h => h) (Or.inl ⟨?w8at, ?y8at⟩) (by assumption) ?t8at
  case h8at => simp only [List.getElem?_toArray]; rfl
  case f8at => kernel_rfl
  case r8at => kernel_rfl
  case w8at => rfl
  case y8at => (intro u hu; (go_simp) <;> with_reducible rfl)
  try simp only [Act.put, List.setIfInBounds_toArray, List.set_cons_zero, List.set_cons_succ]
  refine wpAnyH_take (i := 9) (oi := ?o9at) (v := ?v9at) ?h9at (by kernel_rfl) ?f9at ?r9at (fun _ _ _ h => h) (Or.inl ⟨?w9at, ?y9at⟩) (by assumption) ?t9at
  case h9at => simp only [List.getElem?_toArray]; rfl
  case f9at => kernel_rfl
  case r9at => kernel_rfl
  case w9at => rfl
  case y9at => (intro u hu; (go_simp) <;> with_reducible rfl)
  try simp only [Act.put, List.setIfInBounds_toArray, List.set_cons_zero, List.set_cons_succ]
  refine wpAnyH_done (by kernel_rfl) ?_ _
  refine NoPanic.normal ?_
  go_wp2
  go_ret2
  exact ⟨t, x, l, s, rfl, HM, hs, hH⟩
end Go.Proofs.YtifcdmiopanedaaDoor
