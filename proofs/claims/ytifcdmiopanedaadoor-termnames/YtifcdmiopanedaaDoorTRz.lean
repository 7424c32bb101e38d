/-
  portholeref12's Size. No statement of the seat is proved here.
-/
import Derived.Test.YtifcdmiopanedaaDoorTCt
import Derived.Test.YtifcdmiopanedaaDoorTTl
import Derived.Test.YtifcdmiopanedaaDoorTI
import Derived.Deep.LoopGhost
namespace Go.Proofs.YtifcdmiopanedaaDoor
open Go.RowKit
set_option linter.unusedVariables false
set_option linter.unusedSimpArgs false

theorem refInfo : ((Tryd.prog.info? 52).map fun i => (i.zero, i.size, i.bytes)) = some (some (.agg #[.int .i64 0, .int .i64 0, .int .i64 0, .slice none 0 0]), 4, 48) := by kernel_rfl
theorem run_append_zero {P : Program} (t ty e : TypeId) (i : TypeInfo) (ht : P.underlying t = some (.slice e)) (hi : P.info? e = some i) (g n cap : Nat) (h : n ≤ cap) (x : Option Addr) (c : Nat) (w : World) : (Builtin.append_ #[t, t] ty #[(.slice (some ⟨g, 0, none⟩) n cap), .slice x 0 c]).run P w = .ok (.slice (some ⟨g, 0, none⟩) n cap) w := by
  cases x <;> simp [Builtin.append_, run_underlying ht, sizeOf, typeInfo, hi, Builtin.lenOf, h, Builtin.firstCells, loadCells, loadCellsFrom, storeCells]
theorem step_app4 {ops : Array Oper} {o : Oper} {a : Act} {w : World} {K : Act → World → Prop} {Q : Exit → Act → World → Prop} {E : Prop} (B g n cap : Nat) (xs : List Value) (hown : w.ownsRow B 52 4 (.slice (some ⟨g, 0, none⟩) n cap) n xs) (pa : Option Addr) (m c : Nat) (news : List Value)
    (hsrc : (m = 0 ∧ news = []) ∨ (0 < m ∧ ∃ ad, pa = some ad ∧ ∀ j u, news[j]? = some u → w.cell? (ad.add j) = some u)) (hl : news.length = m * 4) (h1 : ∀ u ∈ news, u.oneCell' = true) (hlim : n + m ≤ 100000) (hB : B ≤ w.heap.size)
    (hgd : o.guard = none) (s x : Operand) (ho : o.op = .call { callee := .builtin .append, args := #[s, x], argTypes := #[50, 50] }) (hs : a.eval s = (.slice (some ⟨g, 0, none⟩) n cap)) (hx : a.eval x = .slice pa m c)
    (h : ∀ g' cap' u, u.ownsRow B 52 4 (.slice (some ⟨g', 0, none⟩) (n + m) cap') (n + m) (xs ++ news) → w.grownBy u (some g) → (g = g' ∨ g' = w.heap.size) → K (a.put o.dst (.slice (some ⟨g', 0, none⟩) (n + m) cap')) u) : if Region.wanted o (yielded ops a.tmps) = true then Oper.wp Tryd.prog o a w K Q else E := by
  obtain ⟨i0, hi, hz0, hz1, hz2⟩ := info_parts refInfo
  rcases hsrc with ⟨rfl, rfl⟩ | ⟨hm, ad, rfl, hnews⟩
  · have hle : n ≤ cap := by
      rcases hown.2 with ⟨e, _⟩ | ⟨g', cap', cur, e, _, _, hnc, _⟩
      · cases e
      · cases e; exact hnc
    refine step_append_run hgd s x 50 ho _ _ hs hx _ w (run_append_zero 50 o.type 52 i0 Tryd.underlying50 hi g n cap hle pa c w) ?_
    exact h g cap w (by rw [List.append_nil]; exact hown) ⟨rfl, rfl, rfl, Nat.le_refl _, fun _ _ _ => rfl⟩ (.inl rfl)
  · refine step_append_lies _ hgd s x 50 ho B 52 i0 _ 4 48 Tryd.underlying50 hi hz0 hz1 hz2 rfl (by decide) _ n xs hs hown ad m c news hx hl hnews h1 hm (by unfold maxLen; omega) (by omega) hB _ rfl ?_
    intro g' c' u h1 h2 h3 _
    refine h g' c' u h1 h2 ?_
    rcases h3 with e | e
    · simp only [Value.ownBlock] at e; injection e with e; exact .inl e
    · exact .inr e
/-- What is held while a list is made anew: the term taken, the list as it was. -/
structure Sr (q : Nat) (cs : List Value) (B g M c : Nat) (xs : List Value) (w u : World) : Prop where
  p : Blk q 52 cs u
  own : u.ownsRow B 52 4 (.slice (some ⟨g, 0, none⟩) M c) M xs
  bel : Below B w u
theorem Sr.le {q : Nat} {cs : List Value} {B g M c : Nat} {xs : List Value} {w u : World} (h : Sr q cs B g M c xs w u) (hB : B ≤ w.heap.size) : B ≤ u.heap.size := Nat.le_trans hB h.bel.size
theorem Sr.drew {q : Nat} {cs : List Value} {B g M c : Nat} {xs : List Value} {w u : World} (h : Sr q cs B g M c xs w u) : Sr q cs B g M c xs w u.drew := ⟨h.p, World.ownsRow.drew h.own, h.bel.trans ⟨rfl, rfl, rfl, Nat.le_refl _, fun _ _ => rfl⟩⟩
theorem Sr.alloc {q : Nat} {cs : List Value} {B g M c : Nat} {xs : List Value} {w u : World} (h : Sr q cs B g M c xs w u) (hB : B ≤ w.heap.size) (o : Obj) : Sr q cs B g M c xs w (u.alloc o) := ⟨h.p.alloc o, h.own.alloc o, h.bel.alloc (h.le hB) o⟩
theorem Sr.grown {q : Nat} {cs : List Value} {B g M c : Nat} {xs : List Value} {w u v : World} (h : Sr q cs B g M c xs w u) (hB : B ≤ w.heap.size) {g1 : Nat} (hg : u.grownBy v (some g1)) (n1 : g ≠ g1) (n2 : q ≠ g1) (n3 : B ≤ g1) : Sr q cs B g M c xs w v :=
  ⟨(hg.block q (Array.getElem?_eq_some_iff.1 h.p).1 (by intro e; injection e with e; exact n2 e)).trans h.p,
   h.own.kept hg (.inr (by simp only [Value.ownBlock]; intro e; injection e with e; exact n1 e)),
   h.bel.grown hg (h.le hB) (fun k hk => by injection hk with e; omega)⟩
theorem Sr.lt {q : Nat} {cs : List Value} {B g M c : Nat} {xs : List Value} {w u : World} (h : Sr q cs B g M c xs w u) : q < u.heap.size ∧ g < u.heap.size :=
  ⟨(Array.getElem?_eq_some_iff.1 h.p).1, (h.own.lt g rfl).2⟩
theorem Sr.src {q : Nat} {cs : List Value} {B g M c : Nat} {xs ys : List Value} {w u : World} (h : Sr q cs B g M c (xs ++ ys) w u) : ∀ j x, xs[j]? = some x → u.cell? ((⟨g, 0, none⟩ : Addr).add j) = some x := fun j x hx => by
  refine h.own.cells (g := g) rfl j x ?_
  rw [List.getElem?_append_left (List.getElem?_eq_some_iff.1 hx).1]
  exact hx
theorem last_cell {B g M c k : Nat} {xs ys : List Value} {u : World} (h : u.ownsRow B 52 4 (.slice (some ⟨g, 0, none⟩) M c) M (xs ++ ys)) (hk : xs.length = k) {j : Nat} {x : Value} (hx : ys[j]? = some x) : u.cell? ⟨g, k + j, none⟩ = some x := by
  have h2 := h.cells (g := g) rfl (k + j) x (by rw [List.getElem?_append_right (by omega), hk, Nat.add_sub_cancel_left]; exact hx)
  have hadd : (⟨g, 0, none⟩ : Addr).add (k + j) = ⟨g, k + j, none⟩ := by unfold Addr.add; split <;> simp_all
  rw [hadd] at h2
  exact h2
theorem add_at (g o j : Nat) : (⟨g, o, none⟩ : Addr).add j = ⟨g, o + j, none⟩ := by unfold Addr.add; split <;> simp_all
/-- What stands in a term of the reference: a list of such, one fewer in all. -/
theorem Apart.list {w : World} {base : Nat} {cs : List Value} {l : List UInt8} (h : Apart w base cs l) : ∃ (k n m : Int) (pa : Option Addr) (pl pc : Nat) (ps : List (List Value × List UInt8)), cs = [.int .i64 k, .int .i64 n, .int .i64 m, .slice pa pl pc] ∧ pl = ps.length ∧ Ent w base ps ∧ cnt l = tot ps + 1 ∧
    ((pl = 0 ∧ flat ps = []) ∨ (0 < pl ∧ ∃ ad, pa = some ad ∧ ∀ j u, (flat ps)[j]? = some u → w.cell? (ad.add j) = some u)) := by
  obtain ⟨k, n, m, pa, pl, pc, rfl, h2⟩ := h
  rcases h2 with ⟨rfl, rfl, rfl, e⟩ | ⟨g, o, es, rfl, rfl, hp, hr, he, e⟩
  · exact ⟨k, n, m, none, 0, 0, [], rfl, rfl, (fun e he => by cases he), e, .inl ⟨rfl, rfl⟩⟩
  · refine ⟨k, n, m, _, _, pc, es, rfl, rfl, he, e, .inr ⟨hp, _, rfl, fun j u hu => ?_⟩⟩
    rw [add_at]
    exact hr j u hu
theorem run_t1 (k n m : Int) (pa : Option Addr) (pl pc : Nat) (w : World) : Sem.run Tryd.prog (Instr.buildSlice 50 1 #[(0, .agg #[.int .i64 k, .int .i64 n, .int .i64 m, .slice pa pl pc])]) w = .ok (.slice (some ⟨w.heap.size, 0, none⟩) 1 1) (w.alloc (.cells #[.int .i64 k, .int .i64 n, .int .i64 m, .slice pa pl pc] 52)) := by kernel_rfl
set_option maxRecDepth 8000 in
set_option maxHeartbeats 4000000 in
theorem rsize_c {base : Nat} {cs : List Value} {l : List UInt8} (w : World) (h : Rt w base cs l) (hs : cnt l ≤ 10000) : Calls Tryd.prog 20 #[.agg cs.toArray] w fun e u => e = .returned (.int .i64 (cnt l : Nat)) ∧ Below w.heap.size w u := by
  obtain ⟨k0, n0, m0, pa0, pl0, pc0, ps0, rfl, -⟩ := h.apart.list
  have HE0 : Hid (Ent w base [([.int .i64 k0, .int .i64 n0, .int .i64 m0, .slice pa0 pl0 pc0], l)]) := fun e he => by
    simp only [List.mem_cons, List.not_mem_nil, or_false] at he
    subst he
    exact h
  obtain ⟨N, hN⟩ : ∃ z, cnt l = z := ⟨_, rfl⟩
  have HN : Hid (cnt l = N) := hN
  rw [hN] at hs ⊢
  clear h hN
  have hs1 : (w.alloc (.cells #[.int .i64 k0, .int .i64 n0, .int .i64 m0, .slice pa0 pl0 pc0] 52)).heap.size = w.heap.size + 1 := by simp
  have hrow : ((w.alloc (.cells #[.int .i64 k0, .int .i64 n0, .int .i64 m0, .slice pa0 pl0 pc0] 52)).alloc (.cells #[.int .i64 k0, .int .i64 n0, .int .i64 m0, .slice pa0 pl0 pc0] 52)).heap[w.heap.size + 1]? = some (.cells #[.int .i64 k0, .int .i64 n0, .int .i64 m0, .slice pa0 pl0 pc0] 52 (0, 0)) := by have h := heap_alloc_new (w.alloc (.cells #[.int .i64 k0, .int .i64 n0, .int .i64 m0, .slice pa0 pl0 pc0] 52)) (.cells #[.int .i64 k0, .int .i64 n0, .int .i64 m0, .slice pa0 pl0 pc0] 52); rw [hs1] at h; exact h
  have HO0 : Hid (((w.alloc (.cells #[.int .i64 k0, .int .i64 n0, .int .i64 m0, .slice pa0 pl0 pc0] 52)).alloc (.cells #[.int .i64 k0, .int .i64 n0, .int .i64 m0, .slice pa0 pl0 pc0] 52)).ownsRow w.heap.size 52 4 (.slice (some ⟨(w.heap.size + 1), 0, none⟩) 1 1) 1 (flat [([.int .i64 k0, .int .i64 n0, .int .i64 m0, .slice pa0 pl0 pc0], l)])) := ⟨rfl, .inr ⟨w.heap.size + 1, 1, _, rfl, by omega, hrow, Nat.le_refl _, by unfold maxLen; omega, rfl, rfl⟩⟩
  have HB0 : Hid (Below w.heap.size w ((w.alloc (.cells #[.int .i64 k0, .int .i64 n0, .int .i64 m0, .slice pa0 pl0 pc0] 52)).alloc (.cells #[.int .i64 k0, .int .i64 n0, .int .i64 m0, .slice pa0 pl0 pc0] 52))) := bel2 w _ _
  have c0 : (w.alloc (.cells #[.int .i64 k0, .int .i64 n0, .int .i64 m0, .slice pa0 pl0 pc0] 52)).cell? ⟨w.heap.size, 0, none⟩ = some (.int .i64 k0) := by rw [cell_of_row _ _ _ _ _ _ (heap_alloc_new w _)]; rfl
  have c1 : (w.alloc (.cells #[.int .i64 k0, .int .i64 n0, .int .i64 m0, .slice pa0 pl0 pc0] 52)).cell? ⟨w.heap.size, 1, none⟩ = some (.int .i64 n0) := by rw [cell_of_row _ _ _ _ _ _ (heap_alloc_new w _)]; rfl
  have c2 : (w.alloc (.cells #[.int .i64 k0, .int .i64 n0, .int .i64 m0, .slice pa0 pl0 pc0] 52)).cell? ⟨w.heap.size, 2, none⟩ = some (.int .i64 m0) := by rw [cell_of_row _ _ _ _ _ _ (heap_alloc_new w _)]; rfl
  have c3 : (w.alloc (.cells #[.int .i64 k0, .int .i64 n0, .int .i64 m0, .slice pa0 pl0 pc0] 52)).cell? ⟨w.heap.size, 3, none⟩ = some (.slice pa0 pl0 pc0) := by rw [cell_of_row _ _ _ _ _ _ (heap_alloc_new w _)]; rfl
  have ht1 := run_t1 k0 n0 m0 pa0 pl0 pc0
  clear hrow
  go_enter Tryd.func20, Tryd.ntmps20
  go_upto_region 3 with fail
  obtain ⟨W0, hW0⟩ : ∃ z, z = ((w.alloc (.cells #[.int .i64 k0, .int .i64 n0, .int .i64 m0, .slice pa0 pl0 pc0] 52)).alloc (.cells #[.int .i64 k0, .int .i64 n0, .int .i64 m0, .slice pa0 pl0 pc0] 52)) := ⟨_, rfl⟩
  rw [← hW0] at HO0 HB0
  rw [← hW0]
  clear hW0 c0 c1 c2 c3 ht1 hs1
  go_wp2
  go_loopg [3, 4] N (fun gk nv tv wr => ∃ (n g c : Nat) (es : List (List Value × List UInt8)), nv = .int .i64 n ∧ tv = (.slice (some ⟨g, 0, none⟩) es.length c) ∧ Hid (n + tot es = N) ∧ gk = tot es ∧ Hid (wr.ownsRow w.heap.size 52 4 (.slice (some ⟨g, 0, none⟩) es.length c) es.length (flat es)) ∧ Hid (Ent w base es) ∧ Hid (Below w.heap.size w wr))
  case atStart => exact ⟨0, w.heap.size + 1, 1, [([.int .i64 k0, .int .i64 n0, .int .i64 m0, .slice pa0 pl0 pc0], l)], rfl, rfl, by unfold Hid; rw [tot_one]; show 0 + cnt l = N; have := HN.out; omega, by rw [tot_one]; exact HN.out.symm, HO0, HE0, HB0⟩
  case round =>
    clear HO0 HE0 HB0
    obtain ⟨n, g, c, es, rfl, rfl, HT, hgk, HO, HE, HB⟩ := hrel
    rcases List.eq_nil_or_concat es with rfl | ⟨es0, ⟨ecs, el⟩, rfl⟩
    · have hn : n = N := by have := HT.out; simpa [tot] using this
      rw [List.length_nil]
      subst hn
      go_wp2
      go_ret
      exact ⟨rfl, HB.out⟩
    · rw [List.concat_eq_append] at HT hgk HO HE ⊢
      have hone := HE.out (ecs, el) (by simp)
      obtain ⟨k1, n1, m1, pa1, pl1, pc1, ps, rfl, hpl, hps, hct, hsrc⟩ := hone.apart.list
      have HP : Hid (Ent w base ps) := hps
      have HSR : Hid ((pl1 = 0 ∧ flat ps = []) ∨ (0 < pl1 ∧ ∃ ad, pa1 = some ad ∧ ∀ j u, (flat ps)[j]? = some u → w.cell? (ad.add j) = some u)) := hsrc
      have HPL : Hid (pl1 = ps.length) := hpl
      have HE0 : Hid (Ent w base es0) := fun e he => HE.out e (by simp [he])
      have hl0 := HE0.out.len
      have hlp := HP.out.len
      have htt : n + (tot es0 + (tot ps + 1)) = N := by have := HT.out; rw [tot_app, tot_one] at this; omega
      obtain ⟨k, hk⟩ : ∃ z, es0.length = z := ⟨_, rfl⟩
      obtain ⟨M, hM⟩ : ∃ z, (es0 ++ [(([.int .i64 k1, .int .i64 n1, .int .i64 m1, .slice pa1 pl1 pc1], el) : List Value × List UInt8)]).length = z := ⟨_, rfl⟩
      have hMk : M = k + 1 := by rw [← hM, ← hk]; simp
      rw [flat_app, flat_one] at HO
      rw [hM] at HO ⊢
      have HL0 : Hid ((flat es0).length = k * 4) := by unfold Hid; rw [hl0.1, hk]
      have HLP : Hid ((flat ps).length = pl1 * 4) := by unfold Hid; rw [hlp.1, hpl]
      have hgk2 : gk = tot es0 + tot ps + 1 := by rw [hgk, tot_app, tot_one]; omega
      have hb1 : n < 10000 := by omega
      have hb2 : k + pl1 ≤ 10000 := by omega
      have HK : Hid (es0.length = k) := hk
      have hM0 : (0 : Int) < M := by omega
      have hkM : k < M := by omega
      have hw : IntKind.i64.wrap ((M : Int) - 1) = k := by rw [IntKind.wrap_i64]; omega
      have hn2 : (n : Int) < 10000 := by omega
      have hMc : (M : Int) ≤ c ∧ M ≤ c := by
        rcases HO.out.2 with ⟨e, _⟩ | ⟨g', cap', cur, e, _, _, hnc, _⟩
        · cases e
        · cases e; omega
      have x0 : wr.cell? ⟨g, k * 4, none⟩ = some (.int .i64 k1) := last_cell HO.out HL0.out (j := 0) rfl
      have x1 : wr.cell? ⟨g, k * 4 + 1, none⟩ = some (.int .i64 n1) := last_cell HO.out HL0.out (j := 1) rfl
      have x2 : wr.cell? ⟨g, k * 4 + 2, none⟩ = some (.int .i64 m1) := last_cell HO.out HL0.out (j := 2) rfl
      have x3 : wr.cell? ⟨g, k * 4 + 3, none⟩ = some (.slice pa1 pl1 pc1) := last_cell HO.out HL0.out (j := 3) rfl
      have hwk : IntKind.i64.wrap (k : Int) = k := by rw [IntKind.wrap_i64]; omega
      have hk0 : (0 : Int) ≤ k := by omega
      have hkc : (k : Int) ≤ c := by omega
      have HTT : Hid (n + (tot es0 + (tot ps + 1)) = N) := htt
      clear hone hsrc hps hpl hl0 hlp hct htt hk hM hgk HT HE
      go_upto_region 5 with fail
      obtain ⟨W1, hW1⟩ : ∃ z, z = wr.alloc (.cells #[.int .i64 k1, .int .i64 n1, .int .i64 m1, .slice pa1 pl1 pc1] 52) := ⟨_, rfl⟩
      obtain ⟨q, hq⟩ : ∃ z, z = wr.heap.size := ⟨_, rfl⟩
      have HS : Hid (Sr q [.int .i64 k1, .int .i64 n1, .int .i64 m1, .slice pa1 pl1 pc1] w.heap.size g M c (flat es0 ++ [.int .i64 k1, .int .i64 n1, .int .i64 m1, .slice pa1 pl1 pc1]) w W1) := by
        rw [hW1, hq]
        exact ⟨Blk.new wr _ [.int .i64 k1, .int .i64 n1, .int .i64 m1, .slice pa1 pl1 pc1], HO.out.alloc _, HB.out.alloc HB.out.size _⟩
      rw [← hW1, ← hq]
      clear hW1 hq x0 x1 x2 x3 HO HB
      refine wp_region_noPanic ?_
      refine wp_region_held_drew (S := Sr q [.int .i64 k1, .int .i64 n1, .int .i64 m1, .slice pa1 pl1 pc1] w.heap.size g M c (flat es0 ++ [.int .i64 k1, .int .i64 n1, .int .i64 m1, .slice pa1 pl1 pc1]) w) (by kernel_rfl) HS.out.drew (fun hH => ?_)
      change wpAnyH _ _ _ _ _ _ #[false, false, false, false, false, false, false, false, false, false, false] _ _
      refine wpAnyH_take (i := 1) (oi := ?o1rz) (v := ?v1rz) ?h1rz (by kernel_rfl) ?f1rz ?r1rz (fun _ _ _ h => h) (Or.inl ⟨?w1rz, ?y1rz⟩) (by assumption) ?t1rz
      case h1rz => simp only [List.getElem?_toArray]; rfl
      case f1rz => kernel_rfl
      case r1rz => kernel_rfl
      case w1rz => rfl
      case y1rz => (intro u hu; (go_simp) <;> with_reducible rfl)
      try simp only [Act.put, List.setIfInBounds_toArray, List.set_cons_zero, List.set_cons_succ]
      refine wpAnyH_take (i := 2) (oi := ?o2rz) (v := ?v2rz) ?h2rz (by kernel_rfl) ?f2rz ?r2rz (fun _ _ _ h => h) (Or.inl ⟨?w2rz, ?y2rz⟩) (by assumption) ?t2rz
      case h2rz => simp only [List.getElem?_toArray]; rfl
      case f2rz => kernel_rfl
      case r2rz => kernel_rfl
      case w2rz => rfl
      case y2rz => (intro u hu; (go_simp) <;> with_reducible rfl)
      try simp only [Act.put, List.setIfInBounds_toArray, List.set_cons_zero, List.set_cons_succ]
      refine wpAnyH_take (i := 3) (oi := ?o3rz) (v := ?v3rz) ?h3rz (by kernel_rfl) ?f3rz ?r3rz (fun _ _ _ h => h) (Or.inl ⟨?w3rz, ?y3rz⟩) (by assumption) ?t3rz
      case h3rz => simp only [List.getElem?_toArray]; rfl
      case f3rz => kernel_rfl
      case r3rz => kernel_rfl
      case w3rz => rfl
      case y3rz => (intro u hu; (go_simp) <;> with_reducible rfl)
      try simp only [Act.put, List.setIfInBounds_toArray, List.set_cons_zero, List.set_cons_succ]
      refine wpAnyH_take (i := 4) (oi := ?o4rz) (v := ?v4rz) ?h4rz (by kernel_rfl) ?f4rz ?r4rz (fun _ _ _ h => h) (Or.inl ⟨?w4rz, ?y4rz⟩) (by assumption) ?t4rz
      case h4rz => simp only [List.getElem?_toArray]; rfl
      case f4rz => kernel_rfl
      case r4rz => kernel_rfl
      case w4rz => rfl
      case y4rz => (intro u hu; (go_simp) <;> with_reducible rfl)
      try simp only [Act.put, List.setIfInBounds_toArray, List.set_cons_zero, List.set_cons_succ]
      refine wpAnyH_take (i := 5) (oi := ?o5rz) (v := ?v5rz) ?h5rz (by kernel_rfl) ?f5rz ?r5rz (fun _ _ _ h => h) (Or.inl ⟨?w5rz, ?y5rz⟩) (by assumption) ?t5rz
      case h5rz => simp only [List.getElem?_toArray]; rfl
      case f5rz => kernel_rfl
      case r5rz => kernel_rfl
      case w5rz => rfl
      case y5rz => (intro u hu; (go_simp) <;> with_reducible rfl)
      try simp only [Act.put, List.setIfInBounds_toArray, List.set_cons_zero, List.set_cons_succ]
      refine wpAnyH_take (i := 7) (oi := ?o7rz) (v := ?v7rz) ?h7rz (by kernel_rfl) ?f7rz ?r7rz (fun _ _ _ h => h) (Or.inl ⟨?w7rz, ?y7rz⟩) (by assumption) ?t7rz
      case h7rz => simp only [List.getElem?_toArray]; rfl
      case f7rz => kernel_rfl
      case r7rz => kernel_rfl
      case w7rz => rfl
      case y7rz => (intro u hu; (go_simp) <;> with_reducible rfl)
      try simp only [Act.put, List.setIfInBounds_toArray, List.set_cons_zero, List.set_cons_succ]
      refine wpAnyH_take (i := 8) (oi := ?o8rz) (v := ?v8rz) ?h8rz (by kernel_rfl) ?f8rz ?r8rz (fun _ _ _ h => h) (Or.inl ⟨?w8rz, ?y8rz⟩) (by assumption) ?t8rz
      case h8rz => simp only [List.getElem?_toArray]; rfl
      case f8rz => kernel_rfl
      case r8rz => kernel_rfl
      case w8rz => rfl
      case y8rz => (intro u hu; (have z0 := hu.p.cell (o := 0) rfl; have z1 := hu.p.cell (o := 1) rfl; have z2 := hu.p.cell (o := 2) rfl; have z3 := hu.p.cell (o := 3) rfl; go_simp) <;> with_reducible rfl)
      try simp only [Act.put, List.setIfInBounds_toArray, List.set_cons_zero, List.set_cons_succ]
      refine wpAnyH_ready (rs := [0]) (by kernel_rfl) (by simp) ?_
      refine AllReadyH.cons (o := ?o0rz) ?h0rz (fun K hK => ?_) AllReadyH.nil
      case h0rz => simp only [List.getElem?_toArray]; rfl
      go_simp
      have hH0_ : w.heap.size ≤ W1.heap.size := hH.le (Nat.le_refl _)
      have hlt_ : q < W1.heap.size ∧ g < W1.heap.size := hH.lt
      refine hK.out _ _ (hH.alloc (Nat.le_refl _) _) (fun hH' => ?_)
      clear hK K hH
      have hH := hH'
      clear hH'
      try simp only [List.setIfInBounds_toArray, List.set]
      have hown1 := World.ownsRow.drew (World.ownsRow_made (size := 4) (base := w.heap.size) (e := 52) W1 #[] 0 hH0_ (by unfold maxLen; omega) rfl)
      obtain ⟨W2, hW2⟩ : ∃ z, z = (W1.alloc (.cells #[] 52)).drew := ⟨_, rfl⟩
      obtain ⟨g1, hg1⟩ : ∃ z, z = W1.heap.size := ⟨_, rfl⟩
      have hz2 : W2.heap.size = g1 + 1 := by rw [hW2, hg1]; simp
      rw [← hW2, ← hg1] at hown1
      rw [← hW2] at hH
      rw [← hg1] at hlt_
      rw [← hW2, ← hg1]
      have hg1B : w.heap.size ≤ g1 := by rw [hg1]; exact hH0_
      clear hW2 hg1 hH0_
      refine wpAnyH_ready (rs := [6]) (by kernel_rfl) (by simp) ?_
      refine AllReadyH.cons (o := ?o6rz) ?h6rz (fun K hK => ?_) AllReadyH.nil
      case h6rz => simp only [List.getElem?_toArray]; rfl
      skip
      refine step_app4 w.heap.size g1 0 0 [] hown1 (some ⟨g, 0, none⟩) k c (flat es0) ((Nat.eq_zero_or_pos k).elim (fun e => .inl ⟨e, List.eq_nil_of_length_eq_zero (by have := HL0.out; omega)⟩) (fun e => .inr ⟨e, _, rfl, hH.src⟩)) HL0.out HE0.out.one (by omega) (hH.le (Nat.le_refl _)) (by rfl) _ _ (by rfl) (by rfl) (by rfl) ?_
      intro g2 c2 u2 K1 K2 K3
      have HS2 := hH.grown (Nat.le_refl _) K2 (by omega) (by omega) hg1B
      have hg2 : g ≠ g2 ∧ q ≠ g2 ∧ w.heap.size ≤ g2 := by omega
      refine hK.out _ _ HS2 (fun hH' => ?_)
      clear hK K hH
      have hH := hH'
      clear hH'
      try simp only [List.setIfInBounds_toArray, List.set]
      clear hown1 K2 K3 HS2
      refine wpAnyH_ready (rs := [9]) (by kernel_rfl) (by simp) ?_
      refine AllReadyH.cons (o := ?o9rz) ?h9rz (fun K hK => ?_) AllReadyH.nil
      case h9rz => simp only [List.getElem?_toArray]; rfl
      skip
      refine step_app4 w.heap.size g2 (0 + k) c2 _ K1 pa1 pl1 pc1 (flat ps) (HSR.out.elim .inl (fun ⟨e, ad, e2, e3⟩ => .inr ⟨e, ad, e2, fun j u hu => cell_later hH.bel (e3 j u hu)⟩)) HLP.out HP.out.one (by omega) (hH.le (Nat.le_refl _)) (by rfl) _ _ (by rfl) (by rfl) (by rfl) ?_
      intro g3 c3 u3 K4 K5 K6
      have HS3 := hH.grown (Nat.le_refl _) K5 hg2.1 hg2.2.1 hg2.2.2
      refine hK.out _ _ HS3 (fun hH' => ?_)
      clear hK K hH
      have hH := hH'
      clear hH'
      try simp only [List.setIfInBounds_toArray, List.set]
      clear K1 K5 K6 HS3
      refine wpAnyH_take (i := 10) (oi := ?o10rz) (v := ?v10rz) ?h10rz (by kernel_rfl) ?f10rz ?r10rz (fun _ _ _ h => h) (Or.inl ⟨?w10rz, ?y10rz⟩) (by assumption) ?t10rz
      case h10rz => simp only [List.getElem?_toArray]; rfl
      case f10rz => kernel_rfl
      case r10rz => kernel_rfl
      case w10rz => rfl
      case y10rz => (intro u hu; (go_simp) <;> with_reducible rfl)
      try simp only [Act.put, List.setIfInBounds_toArray, List.set_cons_zero, List.set_cons_succ]
      refine wpAnyH_done (by kernel_rfl) ?_ _
      refine NoPanic.normal ?_
      have hes : (es0 ++ ps).length = 0 + k + pl1 := by rw [List.length_append, HK.out, ← HPL.out]; omega
      have HB3 : Hid (Below w.heap.size w u3) := hH.bel
      have HO3 : Hid (u3.ownsRow w.heap.size 52 4 (.slice (some ⟨g3, 0, none⟩) (es0 ++ ps).length c3) (es0 ++ ps).length (flat (es0 ++ ps))) := by rw [hes, flat_app]; exact K4
      have HE3 : Hid (Ent w base (es0 ++ ps)) := HE0.out.app HP.out
      have HT3 : Hid (n + 1 + tot (es0 ++ ps) = N ∧ gk - 1 = tot (es0 ++ ps)) := by unfold Hid; rw [tot_app]; have := HTT.out; omega
      have HES : Hid ((es0 ++ ps).length = 0 + k + pl1) := hes
      clear hes hH K4
      go_wp2
      go_roundg (gk - 1)
      case measure => omega
      case rel => exact ⟨n + 1, g3, c3, es0 ++ ps, by go_num, by rw [HES.out, Nat.zero_add], HT3.out.1, HT3.out.2, HO3, HE3, HB3⟩
end Go.Proofs.YtifcdmiopanedaaDoor
