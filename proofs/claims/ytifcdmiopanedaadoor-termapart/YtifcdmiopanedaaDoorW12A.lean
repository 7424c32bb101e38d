/-
  TermApart's walk. No statement of the seat is proved here.
-/
import Derived.Test.YtifcdmiopanedaaDoorW12B
namespace Go.Proofs.YtifcdmiopanedaaDoor
open Go.RowKit
set_option linter.unusedVariables false
set_option linter.unusedSimpArgs false

structure Sa (q1 q2 q3 q4 : Nat) (tx : TypeId) (vx : Value) (ty : TypeId) (vy : Value) (k : Int) (w u : World) : Prop where
  c : Blk q1 33 [.int .i64 (1 + k), .iface tx vx, .iface ty vy] u
  d : Blk q2 39 [.iface tx vx, .iface ty vy] u
  e : Blk q3 31 [.iface tx vx, .int .i64 k, .iface ty vy, .iface tx vx] u
  f : Blk q4 31 [.iface tx vx, .int .i64 k, .iface tx vx, .iface ty vy] u
  bel : Below w.heap.size w u
theorem Sa.later {q1 q2 q3 q4 : Nat} {tx : TypeId} {vx : Value} {ty : TypeId} {vy : Value} {k : Int} {w u v : World} (h : Sa q1 q2 q3 q4 tx vx ty vy k w u) (hb : Below u.heap.size u v) : Sa q1 q2 q3 q4 tx vx ty vy k w v := ⟨h.c.lat hb, h.d.lat hb, h.e.lat hb, h.f.lat hb, h.bel.trans (hb.mono h.bel.size)⟩
theorem Sa.drew {q1 q2 q3 q4 : Nat} {tx : TypeId} {vx : Value} {ty : TypeId} {vy : Value} {k : Int} {w u : World} (h : Sa q1 q2 q3 q4 tx vx ty vy k w u) : Sa q1 q2 q3 q4 tx vx ty vy k w u.drew := h.later ⟨rfl, rfl, rfl, Nat.le_refl _, fun _ _ => rfl⟩
theorem sa_new {tx : TypeId} {vx : Value} {ty : TypeId} {vy : Value} {k : Int} (w U : World) (hb : Below w.heap.size w U) : Sa U.heap.size (U.heap.size + 1) (U.heap.size + 1 + 1) (U.heap.size + 1 + 1 + 1) tx vx ty vy k w ((((U.alloc (.cells #[.int .i64 (1 + k), .iface tx vx, .iface ty vy] 33)).alloc (.cells #[.iface tx vx, .iface ty vy] 39)).alloc (.cells #[.iface tx vx, .int .i64 k, .iface ty vy, .iface tx vx] 31)).alloc (.cells #[.iface tx vx, .int .i64 k, .iface tx vx, .iface ty vy] 31)) := by
  obtain ⟨h1, h2, h3, h4⟩ := four_heap U (.cells #[.int .i64 (1 + k), .iface tx vx, .iface ty vy] 33) (.cells #[.iface tx vx, .iface ty vy] 39) (.cells #[.iface tx vx, .int .i64 k, .iface ty vy, .iface tx vx] 31) (.cells #[.iface tx vx, .int .i64 k, .iface tx vx, .iface ty vy] 31)
  refine ⟨h1, h2, h3, h4, hb.trans ?_⟩
  have e := hb.size
  exact ((bel2 U _ _).trans ((bel2 _ _ _).mono (by simp; omega))).mono e
set_option maxRecDepth 8000 in
set_option maxHeartbeats 4000000 in
theorem termApart_walk (a : Option Addr) (len cap : Nat) (a1 a2 n : Int) (ha1 : -9223372036854775808 ≤ a1 ∧ a1 ≤ 9223372036854775807) (ha2 : -9223372036854775808 ≤ a2 ∧ a2 ≤ 9223372036854775807) (hn : -9223372036854775808 ≤ n ∧ n ≤ 9223372036854775807) (w : World) (hr : RdR w a len) (hg : Gt w) : Calls Tryd.prog 6 #[.slice a len cap, .int .i64 a1, .int .i64 a2, .int .i64 n] w fun e u => e = .returned (.bool true) ∧ Below w.heap.size w u := by
  have HG : Hid (Gt w) := hg
  clear hg
  go_enter Tryd.func6, Tryd.ntmps6
  go_wp2_with fail
  refine (terms_c a len cap w hr).mono ?_
  rintro e U ⟨g, m, c, rfl, HT, hb⟩
  have HB : Hid (Below w.heap.size w U) := hb
  have hm0 : 1 ≤ m := HT.out.1
  have hm1 : m ≤ 41 := HT.out.2.1
  clear hb hr
  go_wp2_with fail
  refine (pick_any a1 m ha1 (by omega) _).mono ?_
  rintro e U2 ⟨kx, rfl, kx0, kx1, hw2⟩
  obtain rfl := hw2.symm
  obtain ⟨jx, rfl⟩ : ∃ j : Nat, kx = j := ⟨kx.toNat, by omega⟩
  have hjx : jx < m := by omega
  obtain ⟨tx, vx, lx, sx, hcx, px, hsx⟩ := HT.out.2.2 jx hjx
  have Px : Hid (Tm tx vx lx sx) := px
  have Sx : Hid (sx ≤ 60) := hsx
  clear px hsx
  go_wp2_with fail
  refine (pick_any a2 m ha2 (by omega) _).mono ?_
  rintro e U2 ⟨ky, rfl, ky0, ky1, hw2⟩
  obtain rfl := hw2.symm
  obtain ⟨jy, rfl⟩ : ∃ j : Nat, ky = j := ⟨ky.toNat, by omega⟩
  have hjy : jy < m := by omega
  obtain ⟨ty, vy, ly, sy, hcy, py, hsy⟩ := HT.out.2.2 jy hjy
  have Py : Hid (Tm ty vy ly sy) := py
  have Sy : Hid (sy ≤ 60) := hsy
  clear py hsy
  go_wp2_with fail
  refine (pick_any n 100 hn (by omega) _).mono ?_
  rintro e U2 ⟨k, rfl, k0, k1, hw2⟩
  obtain rfl := hw2.symm
  have w1 : IntKind.i64.wrap (1 + k) = 1 + k := by rw [IntKind.wrap_i64]; omega
  have w2 : IntKind.i64.wrap (2 + k) = 2 + k := by rw [IntKind.wrap_i64]; omega
  have w3 : IntKind.i64.wrap (k + 1) = k + 1 := by rw [IntKind.wrap_i64]; omega
  obtain ⟨bb, hbb⟩ : ∃ z, (lx == ly) = z := ⟨_, rfl⟩
  have lex := Sx.out
  have ley := Sy.out
  have NX := Px.out.isName
  have NY := Py.out.isName
  have TC := Tm.chain (1 + k) (by omega) (by omega) Px.out Py.out
  have TD := Tm.digest Px.out Py.out
  have TE := Tm.box k (by omega) (by omega) Px.out Py.out Px.out
  have TF := Tm.box k (by omega) (by omega) Px.out Px.out Py.out
  have S0 := same_t Px.out Py.out (by omega) (by omega) bb hbb
  have S1 := same_t TC TD (by omega) (by omega) false (ne_of_apart (apart_cd _ _ _ _ _))
  have S2 := same_t TD TE (by omega) (by omega) false (ne_of_apart (apart_db _ _ _ _ _ _))
  have S3 := same_t TC (Tm.chain (2 + k) (by omega) (by omega) Px.out Py.out) (by omega) (by omega) false (ne_of_apart (apart_ch _ _ _ _ _ _ (by omega)))
  have S4 := same_t TE TF (by omega) (by omega) bb ((beq_of_iff (box_swap k NX NY)).trans hbb)
  have S5 := same_t TD (Tm.digest Py.out Px.out) (by omega) (by omega) bb ((beq_of_iff (digest_swap NX NY)).trans hbb)
  have S6 := same_t TE (Tm.box (k + 1) (by omega) (by omega) Px.out Py.out Px.out) (by omega) (by omega) false (ne_of_apart (apart_bx _ _ _ _ _ _ _ _ (by omega)))
  have S7 := same_t TC Px.out (by omega) (by omega) false (ne_of_apart (apart_in_ch _ _ _))
  have S8 := same_t TD Py.out (by omega) (by omega) false (ne_of_apart (apart_in_dg _ _))
  have KN : Hid (∀ w, Gt w → Calls Tryd.prog 9 #[] w fun e u => e = .returned (.bool true) ∧ Below w.heap.size w u) := known_c
  clear NX NY TC TD TE TF lex ley
  have HS : Hid (Sa U.heap.size (U.heap.size + 1) (U.heap.size + 1 + 1) (U.heap.size + 1 + 1 + 1) tx vx ty vy k w ((((U.alloc (.cells #[.int .i64 (1 + k), .iface tx vx, .iface ty vy] 33)).alloc (.cells #[.iface tx vx, .iface ty vy] 39)).alloc (.cells #[.iface tx vx, .int .i64 k, .iface ty vy, .iface tx vx] 31)).alloc (.cells #[.iface tx vx, .int .i64 k, .iface tx vx, .iface ty vy] 31))) := sa_new w U HB.out
  clear HB HT hcx hcy k0 k1
  go_upto_region 9 with fail
  obtain ⟨W0, hW0⟩ : ∃ z, z = ((((U.alloc (.cells #[.int .i64 (1 + k), .iface tx vx, .iface ty vy] 33)).alloc (.cells #[.iface tx vx, .iface ty vy] 39)).alloc (.cells #[.iface tx vx, .int .i64 k, .iface ty vy, .iface tx vx] 31)).alloc (.cells #[.iface tx vx, .int .i64 k, .iface tx vx, .iface ty vy] 31)) := ⟨_, rfl⟩
  obtain ⟨q4, hq4⟩ : ∃ z, z = U.heap.size + 1 + 1 + 1 := ⟨_, rfl⟩
  obtain ⟨q3, hq3⟩ : ∃ z, z = U.heap.size + 1 + 1 := ⟨_, rfl⟩
  obtain ⟨q2, hq2⟩ : ∃ z, z = U.heap.size + 1 := ⟨_, rfl⟩
  obtain ⟨q1, hq1⟩ : ∃ z, z = U.heap.size := ⟨_, rfl⟩
  rw [← hW0, ← hq4, ← hq3, ← hq2, ← hq1] at HS
  rw [← hW0, ← hq4, ← hq3, ← hq2, ← hq1]
  clear hW0 hq1 hq2 hq3 hq4
  go_wp2_with fail
  refine (S0.out _ (HG.out.later HS.out.bel)).mono ?_
  rintro e u0 ⟨rfl, hb⟩
  replace HS : Hid (Sa q1 q2 q3 q4 tx vx ty vy k w u0) := HS.out.later hb
  clear hb S0 w1
  go_wp2_with fail
  refine (KN.out _ (HG.out.later HS.out.bel)).mono ?_
  rintro e u1 ⟨rfl, hb⟩
  replace HS : Hid (Sa q1 q2 q3 q4 tx vx ty vy k w u1) := HS.out.later hb
  clear hb KN
  have lC0 := HS.out.c.cell (o := 0) rfl
  have lC1 := HS.out.c.cell (o := 1) rfl
  have lC2 := HS.out.c.cell (o := 2) rfl
  have lD0 := HS.out.d.cell (o := 0) rfl
  have lD1 := HS.out.d.cell (o := 1) rfl
  go_wp2_with fail
  refine (S1.out _ (HG.out.later HS.out.bel)).mono ?_
  rintro e u2 ⟨rfl, hb⟩
  replace HS : Hid (Sa q1 q2 q3 q4 tx vx ty vy k w u2) := HS.out.later hb
  clear hb S1 lC0 lC1 lC2 lD0 lD1
  have lD0 := HS.out.d.cell (o := 0) rfl
  have lD1 := HS.out.d.cell (o := 1) rfl
  have lE0 := HS.out.e.cell (o := 0) rfl
  have lE1 := HS.out.e.cell (o := 1) rfl
  have lE2 := HS.out.e.cell (o := 2) rfl
  have lE3 := HS.out.e.cell (o := 3) rfl
  go_wp2_with fail
  refine (S2.out _ (HG.out.later HS.out.bel)).mono ?_
  rintro e u3 ⟨rfl, hb⟩
  replace HS : Hid (Sa q1 q2 q3 q4 tx vx ty vy k w u3) := HS.out.later hb
  clear hb S2 lD0 lD1 lE0 lE1 lE2 lE3
  have lC0 := HS.out.c.cell (o := 0) rfl
  have lC1 := HS.out.c.cell (o := 1) rfl
  have lC2 := HS.out.c.cell (o := 2) rfl
  go_wp2_with fail
  refine (S3.out _ (HG.out.later HS.out.bel)).mono ?_
  rintro e u4 ⟨rfl, hb⟩
  replace HS : Hid (Sa q1 q2 q3 q4 tx vx ty vy k w u4) := HS.out.later hb
  clear hb S3 lC0 lC1 lC2
  have lE0 := HS.out.e.cell (o := 0) rfl
  have lE1 := HS.out.e.cell (o := 1) rfl
  have lE2 := HS.out.e.cell (o := 2) rfl
  have lE3 := HS.out.e.cell (o := 3) rfl
  have lF0 := HS.out.f.cell (o := 0) rfl
  have lF1 := HS.out.f.cell (o := 1) rfl
  have lF2 := HS.out.f.cell (o := 2) rfl
  have lF3 := HS.out.f.cell (o := 3) rfl
  go_wp2_with fail
  refine (S4.out _ (HG.out.later HS.out.bel)).mono ?_
  rintro e u5 ⟨rfl, hb⟩
  replace HS : Hid (Sa q1 q2 q3 q4 tx vx ty vy k w u5) := HS.out.later hb
  clear hb S4 lE0 lE1 lE2 lE3 lF0 lF1 lF2 lF3
  have lD0 := HS.out.d.cell (o := 0) rfl
  have lD1 := HS.out.d.cell (o := 1) rfl
  go_wp2_with fail
  refine (S5.out _ (HG.out.later HS.out.bel)).mono ?_
  rintro e u6 ⟨rfl, hb⟩
  replace HS : Hid (Sa q1 q2 q3 q4 tx vx ty vy k w u6) := HS.out.later hb
  clear hb S5 lD0 lD1
  have lE0 := HS.out.e.cell (o := 0) rfl
  have lE1 := HS.out.e.cell (o := 1) rfl
  have lE2 := HS.out.e.cell (o := 2) rfl
  have lE3 := HS.out.e.cell (o := 3) rfl
  go_wp2_with fail
  refine (S6.out _ (HG.out.later HS.out.bel)).mono ?_
  rintro e u7 ⟨rfl, hb⟩
  replace HS : Hid (Sa q1 q2 q3 q4 tx vx ty vy k w u7) := HS.out.later hb
  clear hb S6 lE0 lE1 lE2 lE3
  have lC0 := HS.out.c.cell (o := 0) rfl
  have lC1 := HS.out.c.cell (o := 1) rfl
  have lC2 := HS.out.c.cell (o := 2) rfl
  go_wp2_with fail
  refine (S7.out _ (HG.out.later HS.out.bel)).mono ?_
  rintro e u8 ⟨rfl, hb⟩
  replace HS : Hid (Sa q1 q2 q3 q4 tx vx ty vy k w u8) := HS.out.later hb
  clear hb S7 lC0 lC1 lC2
  have lD0 := HS.out.d.cell (o := 0) rfl
  have lD1 := HS.out.d.cell (o := 1) rfl
  go_wp2_with fail
  refine (S8.out _ (HG.out.later HS.out.bel)).mono ?_
  rintro e u9 ⟨rfl, hb⟩
  replace HS : Hid (Sa q1 q2 q3 q4 tx vx ty vy k w u9) := HS.out.later hb
  clear hb S8 lD0 lD1
  have eb : (bb == bb) = true := by simp
  go_wp2
  go_ret
  exact ⟨by simp, HS.out.bel⟩
end Go.Proofs.YtifcdmiopanedaaDoor
