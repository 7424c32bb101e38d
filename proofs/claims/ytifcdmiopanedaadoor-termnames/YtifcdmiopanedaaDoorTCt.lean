/-
  How many terms stand in a name: each has one letter. The reference's terms, taken apart. No statement of the seat is proved here.
-/
import Derived.Test.YtifcdmiopanedaaDoorTRef
import Derived.Test.YtifcdmiopanedaaDoorTName
import Derived.Test.YtifcdmiopanedaaDoorTVal
namespace Go.Proofs.YtifcdmiopanedaaDoor
open Go.RowKit
set_option linter.unusedVariables false

/-- The letters that terms begin with. -/
def isLtr (c : UInt8) : Bool := c == 95 || c == 97 || c == 112 || c == 115 || c == 99 || c == 104 || c == 98 || c == 63
def cnt (l : List UInt8) : Nat := l.countP isLtr
theorem cnt_app (a b : List UInt8) : cnt (a ++ b) = cnt a + cnt b := List.countP_append ..
theorem cnt_yes (c : UInt8) (l : List UInt8) (h : isLtr c = true) : cnt (c :: l) = cnt l + 1 := by unfold cnt; rw [List.countP_cons, if_pos h]
theorem cnt_no (c : UInt8) (l : List UInt8) (h : isLtr c = false) : cnt (c :: l) = cnt l := by unfold cnt; rw [List.countP_cons, if_neg (by simp [h])]; rfl
theorem dig_ltr {c : UInt8} (h : isDig c = true) : isLtr c = false := by
  unfold isDig at h
  simp only [Bool.and_eq_true, decide_eq_true_eq] at h
  unfold isLtr
  simp only [Bool.or_eq_false_iff, beq_eq_false_iff_ne, ne_eq]
  refine ⟨⟨⟨⟨⟨⟨⟨?_, ?_⟩, ?_⟩, ?_⟩, ?_⟩, ?_⟩, ?_⟩, ?_⟩ <;> (rintro rfl; revert h; decide)
theorem cnt_dig {l : List UInt8} (h : ∀ c ∈ l, isDig c = true) : cnt l = 0 := by
  unfold cnt
  rw [List.countP_eq_zero]
  intro c hc
  simp [dig_ltr (h c hc)]
theorem cnt_itoa (n : Int) : cnt (Lib.itoa n) = 0 := by
  by_cases h : n < 0
  · obtain ⟨u, rfl⟩ : ∃ u : Nat, n = -(u : Int) := ⟨n.natAbs, by omega⟩
    rw [Lib.itoa_neg u (by omega), cnt_no _ _ (by decide)]
    exact cnt_dig (decDigits_dig u)
  · obtain ⟨u, rfl⟩ : ∃ u : Nat, n = u := ⟨n.toNat, by omega⟩
    rw [Lib.itoa_nonneg]
    exact cnt_dig (decDigits_dig u)
theorem cnt_nil : cnt [] = 0 := rfl
theorem cnt_sh (a b : Int) : cnt (shN a b) = 1 := by
  unfold shN; rw [cnt_yes _ _ (by decide), cnt_app, cnt_no _ _ (by decide), cnt_itoa, cnt_itoa]
theorem cnt_ch (i : Int) (f w : List UInt8) : cnt (chN i f w) = cnt f + cnt w + 1 := by
  unfold chN; rw [cnt_yes _ _ (by decide), cnt_app, cnt_no _ _ (by decide), cnt_app, cnt_no _ _ (by decide), cnt_app, cnt_no _ _ (by decide), cnt_itoa, cnt_nil]; omega
theorem cnt_dg (f w : List UInt8) : cnt (dgN f w) = cnt f + cnt w + 1 := by
  unfold dgN; rw [cnt_yes _ _ (by decide), cnt_no _ _ (by decide), cnt_app, cnt_no _ _ (by decide), cnt_app, cnt_no _ _ (by decide), cnt_nil]; omega
theorem cnt_bx (n : Int) (k a t : List UInt8) : cnt (bxN n k a t) = cnt k + cnt a + cnt t + 1 := by
  unfold bxN; rw [cnt_yes _ _ (by decide), cnt_app, cnt_no _ _ (by decide), cnt_app, cnt_no _ _ (by decide), cnt_app, cnt_no _ _ (by decide), cnt_app, cnt_no _ _ (by decide), cnt_itoa, cnt_nil]; omega
theorem cnt_a (n : Int) : cnt (97 :: Lib.itoa n) = 1 := by rw [cnt_yes _ _ (by decide), cnt_itoa]
theorem cnt_p (n : Int) : cnt (112 :: Lib.itoa n) = 1 := by rw [cnt_yes _ _ (by decide), cnt_itoa]
theorem Tm.cnt {t : TypeId} {v : Value} {l : List UInt8} {s : Nat} (h : Tm t v l s) : cnt l = s :=
  h (fun _ _ l s => Go.Proofs.YtifcdmiopanedaaDoor.cnt l = s) (by decide) (fun n _ _ => cnt_a n) (fun n _ _ => cnt_p n) (fun n m _ _ _ _ => cnt_sh n m)
    (fun n tx vx ty vy nx ny sx sy n0 n1 px py => by rw [cnt_ch, px, py]) (fun tx vx ty vy nx ny sx sy px py => by rw [cnt_dg, px, py])
    (fun n tx vx ty vy tz vz nx ny nz sx sy sz n0 n1 px py pz => by rw [cnt_bx, px, py, pz])
/-- Terms of the reference in a row: their cells, their names. -/
def flat (es : List (List Value × List UInt8)) : List Value := (es.map (·.1)).flatten
def tot (es : List (List Value × List UInt8)) : Nat := (es.map fun e => cnt e.2).sum
theorem flat_app (a b : List (List Value × List UInt8)) : flat (a ++ b) = flat a ++ flat b := by unfold flat; rw [List.map_append, List.flatten_append]
theorem tot_app (a b : List (List Value × List UInt8)) : tot (a ++ b) = tot a + tot b := by unfold tot; rw [List.map_append, List.sum_append]
theorem flat_one (e : List Value × List UInt8) : flat [e] = e.1 := by simp [flat]
theorem tot_one (e : List Value × List UInt8) : tot [e] = cnt e.2 := by simp [tot]
/-- One, taken apart. -/
def Apart (u : World) (base : Nat) (cs : List Value) (l : List UInt8) : Prop := ∃ (k n m : Int) (pa : Option Addr) (pl pc : Nat), cs = [.int .i64 k, .int .i64 n, .int .i64 m, .slice pa pl pc] ∧
  ((pa = none ∧ pl = 0 ∧ pc = 0 ∧ cnt l = 1) ∨ ∃ (g o : Nat) (es : List (List Value × List UInt8)), pa = some ⟨g, o, none⟩ ∧ pl = es.length ∧ 0 < pl ∧ u.rangeAt g o (flat es) ∧ (∀ e ∈ es, Rt u base e.1 e.2) ∧ cnt l = tot es + 1)
theorem Rt.apart {u : World} {base : Nat} {cs : List Value} {l : List UInt8} (h : Rt u base cs l) : Apart u base cs l := by
  have key : Rt u base cs l ∧ Apart u base cs l := h (fun cs l => Rt u base cs l ∧ Apart u base cs l)
    (fun n m => ⟨fun P h0 h1 h2 h3 h4 h5 h6 h7 => h0 n m, 0, n, m, none, 0, 0, rfl, .inl ⟨rfl, rfl, rfl, by decide⟩⟩)
    (fun n m => ⟨fun P h0 h1 h2 h3 h4 h5 h6 h7 => h1 n m, 1, n, m, none, 0, 0, rfl, .inl ⟨rfl, rfl, rfl, by decide⟩⟩)
    (fun n m n0 n1 => ⟨fun P h0 h1 h2 h3 h4 h5 h6 h7 => h2 n m n0 n1, 2, n, m, none, 0, 0, rfl, .inl ⟨rfl, rfl, rfl, cnt_a n⟩⟩)
    (fun n m n0 n1 => ⟨fun P h0 h1 h2 h3 h4 h5 h6 h7 => h3 n m n0 n1, 3, n, m, none, 0, 0, rfl, .inl ⟨rfl, rfl, rfl, cnt_p n⟩⟩)
    (fun n m n0 n1 m0 m1 => ⟨fun P h0 h1 h2 h3 h4 h5 h6 h7 => h4 n m n0 n1 m0 m1, 4, n, m, none, 0, 0, rfl, .inl ⟨rfl, rfl, rfl, cnt_sh n m⟩⟩)
    (fun n m g o c x y a b n0 n1 hg hx hy hr ha hb => ⟨Rt.chain n n0 n1 hg hx hy hr ha.1 hb.1, 5, n, m, _, 2, c, rfl, .inr ⟨g, o, [(x, a), (y, b)], rfl, rfl, by decide, by simpa [flat] using hr, by
      intro e he
      simp only [List.mem_cons, List.not_mem_nil, or_false] at he
      rcases he with rfl | rfl
      · exact ha.1
      · exact hb.1, by rw [cnt_ch]; simp [tot]⟩⟩)
    (fun n m g o c x y a b hg hx hy hr ha hb => ⟨Rt.digest hg hx hy hr ha.1 hb.1, 6, n, m, _, 2, c, rfl, .inr ⟨g, o, [(x, a), (y, b)], rfl, rfl, by decide, by simpa [flat] using hr, by
      intro e he
      simp only [List.mem_cons, List.not_mem_nil, or_false] at he
      rcases he with rfl | rfl
      · exact ha.1
      · exact hb.1, by rw [cnt_dg]; simp [tot]⟩⟩)
    (fun n m g o c x y z a b d n0 n1 hg hx hy hz hr ha hb hd => ⟨Rt.box n n0 n1 hg hx hy hz hr ha.1 hb.1 hd.1, 7, n, m, _, 3, c, rfl, .inr ⟨g, o, [(x, a), (y, b), (z, d)], rfl, rfl, by decide, by simpa [flat] using hr, by
      intro e he
      simp only [List.mem_cons, List.not_mem_nil, or_false] at he
      rcases he with rfl | rfl | rfl
      · exact ha.1
      · exact hb.1
      · exact hd.1, by rw [cnt_bx]; simp [tot]; omega⟩⟩)
  exact key.2
theorem Rt.four {u : World} {base : Nat} {cs : List Value} {l : List UInt8} (h : Rt u base cs l) : cs.length = 4 ∧ (∀ x ∈ cs, x.oneCell' = true) ∧ 0 < cnt l := by
  obtain ⟨k, n, m, pa, pl, pc, rfl, h2⟩ := h.apart
  refine ⟨rfl, ?_, ?_⟩
  · intro x hx
    simp only [List.mem_cons, List.not_mem_nil, or_false] at hx
    rcases hx with rfl | rfl | rfl | rfl <;> rfl
  · rcases h2 with ⟨_, _, _, e⟩ | ⟨_, _, _, _, _, _, _, _, e⟩ <;> omega
/-- All of a row's. -/
def Ent (u : World) (base : Nat) (es : List (List Value × List UInt8)) : Prop := ∀ e ∈ es, Rt u base e.1 e.2
theorem Ent.app {u : World} {base : Nat} {a b : List (List Value × List UInt8)} (ha : Ent u base a) (hb : Ent u base b) : Ent u base (a ++ b) := fun e he => by
  rcases List.mem_append.1 he with h | h
  · exact ha e h
  · exact hb e h
theorem Ent.len {u : World} {base : Nat} : ∀ {es : List (List Value × List UInt8)}, Ent u base es → (flat es).length = es.length * 4 ∧ es.length ≤ tot es
  | [], _ => ⟨rfl, Nat.le_refl _⟩
  | e :: r, h => by
    obtain ⟨h1, h2⟩ := Ent.len (es := r) (fun x hx => h x (List.mem_cons_of_mem _ hx))
    obtain ⟨h3, _, h4⟩ := (h e List.mem_cons_self).four
    have e1 : flat (e :: r) = e.1 ++ flat r := by simp [flat]
    have e2 : tot (e :: r) = cnt e.2 + tot r := by simp [tot]
    rw [e1, e2, List.length_append, List.length_cons]
    omega
theorem Ent.one {u : World} {base : Nat} : ∀ {es : List (List Value × List UInt8)}, Ent u base es → ∀ x ∈ flat es, x.oneCell' = true := fun {es} h x hx => by
  unfold flat at hx
  obtain ⟨l, hl, hx2⟩ := List.mem_flatten.1 hx
  obtain ⟨e, he, rfl⟩ := List.mem_map.1 hl
  exact (h e he).four.2.1 x hx2
end Go.Proofs.YtifcdmiopanedaaDoor
