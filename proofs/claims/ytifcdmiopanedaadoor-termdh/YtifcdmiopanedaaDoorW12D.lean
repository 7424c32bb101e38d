/-
  TermDh's walk. No statement of the seat is proved here.
-/
import Derived.Test.YtifcdmiopanedaaDoorW12B
import Derived.Test.YtifcdmiopanedaaDoorTTm
namespace Go.Proofs.YtifcdmiopanedaaDoor
open Go.RowKit
set_option linter.unusedVariables false
set_option linter.unusedSimpArgs false

theorem Tm.kind {t : TypeId} {v : Value} {l : List UInt8} {s : Nat} (h : Tm t v l s) : (∃ n, t = 23 ∧ v = .agg #[.int .i64 n] ∧ (-9223372036854775808 ≤ n ∧ n ≤ 9223372036854775807)) ∨ (∃ tx vx n ty vy tz vz, t = 31 ∧ v = .agg #[.iface tx vx, .int .i64 n, .iface ty vy, .iface tz vz]) ∨
    ((∀ w, Sem.run Tryd.prog (Instr.typeAssert (.iface t v) 29 23 true) w = .ok (.tuple #[.agg #[.int .i64 0], .bool false]) w) ∧ (∀ w, Sem.run Tryd.prog (Instr.typeAssert (.iface t v) 29 31 true) w = .ok (.tuple #[.agg #[.nilIface, .int .i64 0, .nilIface, .nilIface], .bool false]) w) ∧ ∃ T E cs, ∀ w, Sem.run Tryd.prog (Instr.typeAssert (.iface t v) 29 31 false) w = .halt (.panic (.iface T (.pointer (some ⟨w.heap.size, 0, none⟩)))) (w.alloc (.cells cs E))) :=
  h (fun t v _ _ => (∃ n, t = 23 ∧ v = .agg #[.int .i64 n] ∧ (-9223372036854775808 ≤ n ∧ n ≤ 9223372036854775807)) ∨ (∃ tx vx n ty vy tz vz, t = 31 ∧ v = .agg #[.iface tx vx, .int .i64 n, .iface ty vy, .iface tz vz]) ∨
    ((∀ w, Sem.run Tryd.prog (Instr.typeAssert (.iface t v) 29 23 true) w = .ok (.tuple #[.agg #[.int .i64 0], .bool false]) w) ∧ (∀ w, Sem.run Tryd.prog (Instr.typeAssert (.iface t v) 29 31 true) w = .ok (.tuple #[.agg #[.nilIface, .int .i64 0, .nilIface, .nilIface], .bool false]) w) ∧ ∃ T E cs, ∀ w, Sem.run Tryd.prog (Instr.typeAssert (.iface t v) 29 31 false) w = .halt (.panic (.iface T (.pointer (some ⟨w.heap.size, 0, none⟩)))) (w.alloc (.cells cs E))))
    (.inr (.inr ⟨as_Empty_Public _, as_Empty_Box _, _, _, _, no_Box_Empty _⟩))
    (fun n n0 n1 => .inr (.inr ⟨as_Atom_Public _, as_Atom_Box _, _, _, _, no_Box_Atom _⟩))
    (fun n n0 n1 => .inl ⟨n, rfl, rfl, n0, n1⟩)
    (fun n m n0 n1 m0 m1 => .inr (.inr ⟨as_Shared_Public _, as_Shared_Box _, _, _, _, no_Box_Shared _⟩))
    (fun n tx vx ty vy nx ny sx sy n0 n1 px py => .inr (.inr ⟨as_Chain_Public _, as_Chain_Box _, _, _, _, no_Box_Chain _⟩))
    (fun tx vx ty vy nx ny sx sy px py => .inr (.inr ⟨as_Digest_Public _, as_Digest_Box _, _, _, _, no_Box_Digest _⟩))
    (fun n tx vx ty vy tz vz nx ny nz sx sy sz n0 n1 px py pz => .inr (.inl ⟨tx, vx, n, ty, vy, tz, vz, rfl, rfl⟩))
structure Sd (q : Nat) (n : Int) (w u : World) : Prop where
  p : Blk q 23 [.int .i64 n] u
  bel : Below w.heap.size w u
theorem Sd.later {q : Nat} {n : Int} {w u v : World} (h : Sd q n w u) (hb : Below u.heap.size u v) : Sd q n w v := ⟨h.p.lat hb, h.bel.trans (hb.mono h.bel.size)⟩
theorem Sd.drew {q : Nat} {n : Int} {w u : World} (h : Sd q n w u) : Sd q n w u.drew := h.later ⟨rfl, rfl, rfl, Nat.le_refl _, fun _ _ => rfl⟩
theorem Sd.alloc {q : Nat} {n : Int} {w u : World} (h : Sd q n w u) (o : Obj) : Sd q n w (u.alloc o) := h.later (bel1 _ _)
set_option maxRecDepth 8000 in
set_option maxHeartbeats 4000000 in
theorem termDh_walk (a : Option Addr) (len cap : Nat) (a1 s u : Int) (ha1 : -9223372036854775808 ≤ a1 ∧ a1 ≤ 9223372036854775807) (hs : -9223372036854775808 ≤ s ∧ s ≤ 9223372036854775807) (hu : -9223372036854775808 ≤ u ∧ u ≤ 9223372036854775807) (w : World) (hr : RdR w a len) (hg : Gt w) : Calls Tryd.prog 5 #[.slice a len cap, .int .i64 a1, .int .i64 s, .int .i64 u] w fun e u => e = .returned (.bool true) ∧ Below w.heap.size w u := by
  have HG : Hid (Gt w) := hg
  clear hg
  go_enter Tryd.func5, Tryd.ntmps5
  go_wp2_with fail
  refine (terms_c a len cap w hr).mono ?_
  rintro e U ⟨g, m, c, rfl, HT, hb⟩
  have HB : Hid (Below w.heap.size w U) := hb
  have hm0 : 1 ≤ m := HT.out.1
  have hm1 : m ≤ 41 := HT.out.2.1
  clear hb hr
  go_wp2_with fail
  refine (pick_any a1 m ha1 (by omega) _).mono ?_
  rintro e U2 ⟨kx, rfl, kx0, kx1, hw2⟩
  obtain rfl := hw2.symm
  obtain ⟨jx, rfl⟩ : ∃ j : Nat, kx = j := ⟨kx.toNat, by omega⟩
  have hjx : jx < m := by omega
  obtain ⟨tx, vx, lx, sx, hcx, px, hsx⟩ := HT.out.2.2 jx hjx
  have Px : Hid (Tm tx vx lx sx) := px
  have Sx : Hid (sx ≤ 60) := hsx
  clear px hsx
  obtain ⟨m2, e2⟩ : ∃ z, min s u = z := ⟨_, rfl⟩
  obtain ⟨M2, f2⟩ : ∃ z, max s u = z := ⟨_, rfl⟩
  have e3 : min u s = m2 := by omega
  have f3 : max u s = M2 := by omega
  have D2 : Hid (∀ w, Calls Tryd.prog 8 #[.int .i64 s, .iface 23 (.agg #[.int .i64 u])] w fun e u => e = .returned (.tuple #[.iface 58 (.agg #[.int .i64 m2, .int .i64 M2]), .bool true]) ∧ Below w.heap.size w u) := fun w => by have h := dh_yes s u w; rw [e2, f2] at h; exact h
  have D3 : Hid (∀ w, Calls Tryd.prog 8 #[.int .i64 u, .iface 23 (.agg #[.int .i64 s])] w fun e u => e = .returned (.tuple #[.iface 58 (.agg #[.int .i64 m2, .int .i64 M2]), .bool true]) ∧ Below w.heap.size w u) := fun w => by have h := dh_yes u s w; rw [e3, f3] at h; exact h
  have SM := same_t (Tm.shared m2 M2 (by omega) (by omega) (by omega) (by omega)) (Tm.shared m2 M2 (by omega) (by omega) (by omega) (by omega)) (by omega) (by omega) true (by simp)
  have KN : Hid (∀ w, Gt w → Calls Tryd.prog 9 #[] w fun e u => e = .returned (.bool true) ∧ Below w.heap.size w u) := known_c
  clear e2 f2 e3 f3
  rcases Px.out.kind with ⟨n, rfl, rfl, hn0, hn1⟩ | ⟨t1, v1, n, t2, v2, t3, v3, rfl, rfl⟩ | ⟨kp, kb, TT, EE, cc, kx⟩
  · obtain ⟨m1, e1⟩ : ∃ z, min s n = z := ⟨_, rfl⟩
    obtain ⟨M1, f1⟩ : ∃ z, max s n = z := ⟨_, rfl⟩
    have g0 : -9223372036854775808 ≤ m1 := by omega
    have g1 : m1 ≤ 9223372036854775807 := by omega
    have g2 : -9223372036854775808 ≤ M1 := by omega
    have g3 : M1 ≤ 9223372036854775807 := by omega
    have HLN := Tm.shared m1 M1 g0 g1 g2 g3
    obtain ⟨nm, hnm⟩ : ∃ z, (⟨(shN m1 M1).toArray⟩ : ByteArray) = z := ⟨_, rfl⟩
    have NM : Hid (∀ w, Gt w → Calls Tryd.prog 64 #[.agg #[.int .i64 m1, .int .i64 M1]] w fun e u => e = .returned (.string nm) ∧ Below w.heap.size w u) := fun w hw => by have h := name_Shared m1 M1 g0 g1 g2 g3 (by have := HLN.len.2; omega) w hw; rw [hnm] at h; exact h
    have NH : Hid (∀ w, Calls Tryd.prog 19 #[.iface 58 (.agg #[.int .i64 m1, .int .i64 M1])] w fun e u => e = .returned (.string nm) ∧ Below w.heap.size w u) := fun w => by have h := hname_c HLN.plain (by have := HLN.len.2; omega) w; rw [hnm] at h; exact h
    have hm : ∀ w, (method 208 58 (.agg #[.int .i64 m1, .int .i64 M1]) "Name").run Tryd.prog w = .ok (64, .agg #[.int .i64 m1, .int .i64 M1]) w := fun _ => by kernel_rfl
    have HE1 : Hid (min s n = m1) := e1
    have HF1 : Hid (max s n = M1) := f1
    clear g0 g1 g2 g3 HLN hnm
    have D1 : Hid (∀ w, Calls Tryd.prog 8 #[.int .i64 s, .iface 23 (.agg #[.int .i64 n])] w fun e u => e = .returned (.tuple #[.iface 58 (.agg #[.int .i64 m1, .int .i64 M1]), .bool true]) ∧ Below w.heap.size w u) := fun w => by have h := dh_yes s n w; rw [e1, f1] at h; exact h
    have PA : Hid (∀ w, Calls Tryd.prog 16 #[.iface 23 (.agg #[.int .i64 n])] w fun e u => e = .returned (.bool true) ∧ Below w.heap.size w u) := panics_of _ _ _ _ (no_Box_Public _)
    have hp := as_Public_Public (.agg #[.int .i64 n])
    have hx := as_Public_Box (.agg #[.int .i64 n])
    clear e1 f1
    go_wp2_with fail
    refine (D1.out _).mono ?_
    rintro e u1 ⟨rfl, hb⟩
    replace HB : Hid (Below w.heap.size w u1) := HB.out.trans (hb.mono HB.out.size)
    clear hb D1 hcx
    have HS : Hid (Sd u1.heap.size n w (u1.alloc (.cells #[.int .i64 n] 23))) := ⟨Blk.new u1 _ [.int .i64 n], HB.out.trans ((bel1 _ _).mono HB.out.size)⟩
    clear HB
    go_upto_region 5 with fail
    obtain ⟨W1, hW1⟩ : ∃ z, z = u1.alloc (.cells #[.int .i64 n] 23) := ⟨_, rfl⟩
    obtain ⟨q, hq⟩ : ∃ z, z = u1.heap.size := ⟨_, rfl⟩
    rw [← hW1, ← hq] at HS
    rw [← hW1, ← hq]
    clear hW1 hq hp
    go_wp2_with fail
    refine (D2.out _).mono ?_
    rintro e u2 ⟨rfl, hb⟩
    replace HS : Hid (Sd q n w u2) := HS.out.later hb
    clear hb D2
    go_wp2_with fail
    refine (D3.out _).mono ?_
    rintro e u3 ⟨rfl, hb⟩
    replace HS : Hid (Sd q n w u3) := HS.out.later hb
    clear hb D3
    go_wp2_with fail
    refine (KN.out _ (HG.out.later HS.out.bel)).mono ?_
    rintro e u4 ⟨rfl, hb⟩
    replace HS : Hid (Sd q n w u4) := HS.out.later hb
    clear hb KN
    go_wp2_with fail
    refine (SM.out _ (HG.out.later HS.out.bel)).mono ?_
    rintro e u5 ⟨rfl, hb⟩
    replace HS : Hid (Sd q n w u5) := HS.out.later hb
    clear hb SM
    replace HS : Hid (Sd q n w (u5.alloc (.cells #[.nilIface, .int .i64 0, .nilIface, .nilIface] 31))) := HS.out.alloc _
    go_upto_region 10 with fail
    obtain ⟨W2, hW2⟩ : ∃ z, z = u5.alloc (.cells #[.nilIface, .int .i64 0, .nilIface, .nilIface] 31) := ⟨_, rfl⟩
    rw [← hW2] at HS
    rw [← hW2]
    clear hW2 hx
    go_wp2_with fail
    refine (PA.out _).mono ?_
    rintro e u6 ⟨rfl, hb⟩
    replace HS : Hid (Sd q n w u6) := HS.out.later hb
    clear hb PA
    go_upto_region 14 with fail
    have e1 := HE1.out
    have f1 := HF1.out
    refine wp_region_noPanic ?_
    refine wp_region_held_drew (S := Sd q n w) (by kernel_rfl) HS.out.drew (fun hH => ?_)
    change wpAnyH _ _ _ _ _ _ #[false, false, false, false, false, false, false, false, false, false, false, false, false, false, false] _ _
    refine wpAnyH_take (i := 0) (oi := ?o0d) (v := ?v0d) ?h0d (by kernel_rfl) ?f0d ?r0d (fun _ _ _ h => h) (Or.inl ⟨?w0d, ?y0d⟩) (by assumption) ?t0d
    case h0d => simp only [List.getElem?_toArray]; rfl
    case f0d => kernel_rfl
    case r0d => kernel_rfl
    case w0d => rfl
    case y0d => (intro u hu; (go_simp) <;> with_reducible rfl)
    try simp only [Act.put, List.setIfInBounds_toArray, List.set_cons_zero, List.set_cons_succ]
    refine wpAnyH_take (i := 2) (oi := ?o2d) (v := ?v2d) ?h2d (by kernel_rfl) ?f2d ?r2d (fun _ _ _ h => h) (Or.inl ⟨?w2d, ?y2d⟩) (by assumption) ?t2d
    case h2d => simp only [List.getElem?_toArray]; rfl
    case f2d => kernel_rfl
    case r2d => kernel_rfl
    case w2d => rfl
    case y2d => (intro u hu; (go_simp) <;> with_reducible rfl)
    try simp only [Act.put, List.setIfInBounds_toArray, List.set_cons_zero, List.set_cons_succ]
    refine wpAnyH_take (i := 3) (oi := ?o3d) (v := ?v3d) ?h3d (by kernel_rfl) ?f3d ?r3d (fun _ _ _ h => h) (Or.inl ⟨?w3d, ?y3d⟩) (by assumption) ?t3d
    case h3d => simp only [List.getElem?_toArray]; rfl
    case f3d => kernel_rfl
    case r3d => kernel_rfl
    case w3d => rfl
    case y3d => (intro u hu; (go_simp) <;> with_reducible rfl)
    try simp only [Act.put, List.setIfInBounds_toArray, List.set_cons_zero, List.set_cons_succ]
    refine wpAnyH_take (i := 4) (oi := ?o4d) (v := ?v4d) ?h4d (by kernel_rfl) ?f4d ?r4d (fun _ _ _ h => h) (Or.inl ⟨?w4d, ?y4d⟩) (by assumption) ?t4d
    case h4d => simp only [List.getElem?_toArray]; rfl
    case f4d => kernel_rfl
    case r4d => kernel_rfl
    case w4d => rfl
    case y4d => (intro u hu; (have c0 := hu.p.cell (o := 0) rfl; go_simp) <;> with_reducible rfl)
    try simp only [Act.put, List.setIfInBounds_toArray, List.set_cons_zero, List.set_cons_succ]
    refine wpAnyH_take (i := 5) (oi := ?o5d) (v := ?v5d) ?h5d (by kernel_rfl) ?f5d ?r5d (fun _ _ _ h => h) (Or.inl ⟨?w5d, ?y5d⟩) (by assumption) ?t5d
    case h5d => simp only [List.getElem?_toArray]; rfl
    case f5d => kernel_rfl
    case r5d => kernel_rfl
    case w5d => rfl
    case y5d => (intro u hu; (go_simp) <;> with_reducible rfl)
    try simp only [Act.put, List.setIfInBounds_toArray, List.set_cons_zero, List.set_cons_succ]
    refine wpAnyH_take (i := 6) (oi := ?o6d) (v := ?v6d) ?h6d (by kernel_rfl) ?f6d ?r6d (fun _ _ _ h => h) (Or.inl ⟨?w6d, ?y6d⟩) (by assumption) ?t6d
    case h6d => simp only [List.getElem?_toArray]; rfl
    case f6d => kernel_rfl
    case r6d => kernel_rfl
    case w6d => rfl
    case y6d => (intro u hu; (go_simp) <;> with_reducible rfl)
    try simp only [Act.put, List.setIfInBounds_toArray, List.set_cons_zero, List.set_cons_succ]
    refine wpAnyH_take (i := 7) (oi := ?o7d) (v := ?v7d) ?h7d (by kernel_rfl) ?f7d ?r7d (fun _ _ _ h => h) (Or.inl ⟨?w7d, ?y7d⟩) (by assumption) ?t7d
    case h7d => simp only [List.getElem?_toArray]; rfl
    case f7d => kernel_rfl
    case r7d => kernel_rfl
    case w7d => rfl
    case y7d => (intro u hu; (go_simp) <;> with_reducible rfl)
    try simp only [Act.put, List.setIfInBounds_toArray, List.set_cons_zero, List.set_cons_succ]
    refine wpAnyH_take (i := 8) (oi := ?o8d) (v := ?v8d) ?h8d (by kernel_rfl) ?f8d ?r8d (fun _ _ _ h => h) (Or.inl ⟨?w8d, ?y8d⟩) (by assumption) ?t8d
    case h8d => simp only [List.getElem?_toArray]; rfl
    case f8d => kernel_rfl
    case r8d => kernel_rfl
    case w8d => rfl
    case y8d => (intro u hu; (have c0 := hu.p.cell (o := 0) rfl; go_simp) <;> with_reducible rfl)
    try simp only [Act.put, List.setIfInBounds_toArray, List.set_cons_zero, List.set_cons_succ]
    refine wpAnyH_take (i := 9) (oi := ?o9d) (v := ?v9d) ?h9d (by kernel_rfl) ?f9d ?r9d (fun _ _ _ h => h) (Or.inl ⟨?w9d, ?y9d⟩) (by assumption) ?t9d
    case h9d => simp only [List.getElem?_toArray]; rfl
    case f9d => kernel_rfl
    case r9d => kernel_rfl
    case w9d => rfl
    case y9d => (intro u hu; (go_simp) <;> with_reducible rfl)
    try simp only [Act.put, List.setIfInBounds_toArray, List.set_cons_zero, List.set_cons_succ]
    refine wpAnyH_take (i := 10) (oi := ?o10d) (v := ?v10d) ?h10d (by kernel_rfl) ?f10d ?r10d (fun _ _ _ h => h) (Or.inl ⟨?w10d, ?y10d⟩) (by assumption) ?t10d
    case h10d => simp only [List.getElem?_toArray]; rfl
    case f10d => kernel_rfl
    case r10d => kernel_rfl
    case w10d => rfl
    case y10d => (intro u hu; (go_simp) <;> with_reducible rfl)
    try simp only [Act.put, List.setIfInBounds_toArray, List.set_cons_zero, List.set_cons_succ]
    refine wpAnyH_take (i := 11) (oi := ?o11d) (v := ?v11d) ?h11d (by kernel_rfl) ?f11d ?r11d (fun _ _ _ h => h) (Or.inl ⟨?w11d, ?y11d⟩) (by assumption) ?t11d
    case h11d => simp only [List.getElem?_toArray]; rfl
    case f11d => kernel_rfl
    case r11d => kernel_rfl
    case w11d => rfl
    case y11d => (intro u hu; (go_simp) <;> with_reducible rfl)
    try simp only [Act.put, List.setIfInBounds_toArray, List.set_cons_zero, List.set_cons_succ]
    refine wpAnyH_ready (rs := [1]) (by kernel_rfl) (by simp) ?_
    refine AllReadyH.cons (o := ?o1d) ?h1d (fun K hK => ?_) AllReadyH.nil
    case h1d => simp only [List.getElem?_toArray]; rfl
    go_simp
    refine (NM.out _ (HG.out.later hH.bel)).mono ?_
    rintro e v1 ⟨rfl, hb⟩
    clear NM
    refine hK.out _ _ (hH.later hb) (fun hH' => ?_)
    clear hK K hH
    have hH := hH'
    clear hH'
    try simp only [List.setIfInBounds_toArray, List.set]
    clear hb
    refine wpAnyH_ready (rs := [12]) (by kernel_rfl) (by simp) ?_
    refine AllReadyH.cons (o := ?o12d) ?h12d (fun K hK => ?_) AllReadyH.nil
    case h12d => simp only [List.getElem?_toArray]; rfl
    go_simp
    refine (NH.out _).mono ?_
    rintro e v2 ⟨rfl, hb⟩
    clear NH
    refine hK.out _ _ (hH.later hb) (fun hH' => ?_)
    clear hK K hH
    have hH := hH'
    clear hH'
    try simp only [List.setIfInBounds_toArray, List.set]
    clear hb
    refine wpAnyH_take (i := 13) (oi := ?o13d) (v := ?v13d) ?h13d (by kernel_rfl) ?f13d ?r13d (fun _ _ _ h => h) (Or.inl ⟨?w13d, ?y13d⟩) (by assumption) ?t13d
    case h13d => simp only [List.getElem?_toArray]; rfl
    case f13d => kernel_rfl
    case r13d => kernel_rfl
    case w13d => rfl
    case y13d => (intro u hu; (go_simp) <;> with_reducible rfl)
    try simp only [Act.put, List.setIfInBounds_toArray, List.set_cons_zero, List.set_cons_succ]
    refine wpAnyH_take (i := 14) (oi := ?o14d) (v := ?v14d) ?h14d (by kernel_rfl) ?f14d ?r14d (fun _ _ _ h => h) (Or.inl ⟨?w14d, ?y14d⟩) (by assumption) ?t14d
    case h14d => simp only [List.getElem?_toArray]; rfl
    case f14d => kernel_rfl
    case r14d => kernel_rfl
    case w14d => rfl
    case y14d => (intro u hu; (go_simp) <;> with_reducible rfl)
    try simp only [Act.put, List.setIfInBounds_toArray, List.set_cons_zero, List.set_cons_succ]
    refine wpAnyH_done (by kernel_rfl) ?_ _
    refine NoPanic.normal ?_
    have HB : Hid (Below w.heap.size w v2) := hH.bel
    go_wp2
    go_ret
    exact ⟨by simp, HB.out⟩
  · have D1 : Hid (∀ w, Calls Tryd.prog 8 #[.int .i64 s, .iface 31 (.agg #[.iface t1 v1, .int .i64 n, .iface t2 v2, .iface t3 v3])] w fun e u => e = .returned (.tuple #[.nilIface, .bool false]) ∧ Below w.heap.size w u) := dh_no s _ (as_Box_Public _)
    have PA : Hid (∀ w, Calls Tryd.prog 16 #[.iface 31 (.agg #[.iface t1 v1, .int .i64 n, .iface t2 v2, .iface t3 v3])] w fun e u => e = .returned (.bool false) ∧ Below w.heap.size w u) := panics_Box n t1 v1 t2 v2 t3 v3
    have hp := as_Box_Public (.agg #[.iface t1 v1, .int .i64 n, .iface t2 v2, .iface t3 v3])
    have hx := as_Box_Box (.agg #[.iface t1 v1, .int .i64 n, .iface t2 v2, .iface t3 v3])
    skip
    go_wp2_with fail
    refine (D1.out _).mono ?_
    rintro e u1 ⟨rfl, hb⟩
    replace HB : Hid (Below w.heap.size w u1) := HB.out.trans (hb.mono HB.out.size)
    clear hb D1 hcx
    have HS : Hid (Sd u1.heap.size 0 w (u1.alloc (.cells #[.int .i64 0] 23))) := ⟨Blk.new u1 _ [.int .i64 0], HB.out.trans ((bel1 _ _).mono HB.out.size)⟩
    clear HB
    go_upto_region 5 with fail
    obtain ⟨W1, hW1⟩ : ∃ z, z = u1.alloc (.cells #[.int .i64 0] 23) := ⟨_, rfl⟩
    obtain ⟨q, hq⟩ : ∃ z, z = u1.heap.size := ⟨_, rfl⟩
    rw [← hW1, ← hq] at HS
    rw [← hW1, ← hq]
    clear hW1 hq hp
    go_wp2_with fail
    refine (D2.out _).mono ?_
    rintro e u2 ⟨rfl, hb⟩
    replace HS : Hid (Sd q 0 w u2) := HS.out.later hb
    clear hb D2
    go_wp2_with fail
    refine (D3.out _).mono ?_
    rintro e u3 ⟨rfl, hb⟩
    replace HS : Hid (Sd q 0 w u3) := HS.out.later hb
    clear hb D3
    go_wp2_with fail
    refine (KN.out _ (HG.out.later HS.out.bel)).mono ?_
    rintro e u4 ⟨rfl, hb⟩
    replace HS : Hid (Sd q 0 w u4) := HS.out.later hb
    clear hb KN
    go_wp2_with fail
    refine (SM.out _ (HG.out.later HS.out.bel)).mono ?_
    rintro e u5 ⟨rfl, hb⟩
    replace HS : Hid (Sd q 0 w u5) := HS.out.later hb
    clear hb SM
    replace HS : Hid (Sd q 0 w (u5.alloc (.cells #[.iface t1 v1, .int .i64 n, .iface t2 v2, .iface t3 v3] 31))) := HS.out.alloc _
    go_upto_region 10 with fail
    obtain ⟨W2, hW2⟩ : ∃ z, z = u5.alloc (.cells #[.iface t1 v1, .int .i64 n, .iface t2 v2, .iface t3 v3] 31) := ⟨_, rfl⟩
    rw [← hW2] at HS
    rw [← hW2]
    clear hW2 hx
    go_wp2_with fail
    refine (PA.out _).mono ?_
    rintro e u6 ⟨rfl, hb⟩
    replace HS : Hid (Sd q 0 w u6) := HS.out.later hb
    clear hb PA
    go_wp2
    go_ret
    exact ⟨rfl, HS.out.bel⟩
  · have D1 : Hid (∀ w, Calls Tryd.prog 8 #[.int .i64 s, .iface tx vx] w fun e u => e = .returned (.tuple #[.nilIface, .bool false]) ∧ Below w.heap.size w u) := dh_no s _ kp
    have PA : Hid (∀ w, Calls Tryd.prog 16 #[.iface tx vx] w fun e u => e = .returned (.bool true) ∧ Below w.heap.size w u) := panics_of _ _ _ _ kx
    have hp := kp
    have hx := kb
    clear kp kb kx
    go_wp2_with fail
    refine (D1.out _).mono ?_
    rintro e u1 ⟨rfl, hb⟩
    replace HB : Hid (Below w.heap.size w u1) := HB.out.trans (hb.mono HB.out.size)
    clear hb D1 hcx
    have HS : Hid (Sd u1.heap.size 0 w (u1.alloc (.cells #[.int .i64 0] 23))) := ⟨Blk.new u1 _ [.int .i64 0], HB.out.trans ((bel1 _ _).mono HB.out.size)⟩
    clear HB
    go_upto_region 5 with fail
    obtain ⟨W1, hW1⟩ : ∃ z, z = u1.alloc (.cells #[.int .i64 0] 23) := ⟨_, rfl⟩
    obtain ⟨q, hq⟩ : ∃ z, z = u1.heap.size := ⟨_, rfl⟩
    rw [← hW1, ← hq] at HS
    rw [← hW1, ← hq]
    clear hW1 hq hp
    go_wp2_with fail
    refine (D2.out _).mono ?_
    rintro e u2 ⟨rfl, hb⟩
    replace HS : Hid (Sd q 0 w u2) := HS.out.later hb
    clear hb D2
    go_wp2_with fail
    refine (D3.out _).mono ?_
    rintro e u3 ⟨rfl, hb⟩
    replace HS : Hid (Sd q 0 w u3) := HS.out.later hb
    clear hb D3
    go_wp2_with fail
    refine (KN.out _ (HG.out.later HS.out.bel)).mono ?_
    rintro e u4 ⟨rfl, hb⟩
    replace HS : Hid (Sd q 0 w u4) := HS.out.later hb
    clear hb KN
    go_wp2_with fail
    refine (SM.out _ (HG.out.later HS.out.bel)).mono ?_
    rintro e u5 ⟨rfl, hb⟩
    replace HS : Hid (Sd q 0 w u5) := HS.out.later hb
    clear hb SM
    replace HS : Hid (Sd q 0 w (u5.alloc (.cells #[.nilIface, .int .i64 0, .nilIface, .nilIface] 31))) := HS.out.alloc _
    go_upto_region 10 with fail
    obtain ⟨W2, hW2⟩ : ∃ z, z = u5.alloc (.cells #[.nilIface, .int .i64 0, .nilIface, .nilIface] 31) := ⟨_, rfl⟩
    rw [← hW2] at HS
    rw [← hW2]
    clear hW2 hx
    go_wp2_with fail
    refine (PA.out _).mono ?_
    rintro e u6 ⟨rfl, hb⟩
    replace HS : Hid (Sd q 0 w u6) := HS.out.later hb
    clear hb PA
    go_wp2
    go_ret
    exact ⟨rfl, HS.out.bel⟩
end Go.Proofs.YtifcdmiopanedaaDoor
