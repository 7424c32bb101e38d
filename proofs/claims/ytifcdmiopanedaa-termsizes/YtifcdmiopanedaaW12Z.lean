/-
  TermSizes' walk. No statement of the seat is proved here.
-/
import Derived.Test.YtifcdmiopanedaaTSm
import Derived.Test.YtifcdmiopanedaaTSz
import Derived.Test.YtifcdmiopanedaaTTs
namespace Go.Proofs.Ytifcdmiopanedaa
open Go.RowKit
set_option linter.unusedVariables false
set_option linter.unusedSimpArgs false

set_option maxRecDepth 8000 in
set_option maxHeartbeats 4000000 in
theorem termSizes_walk (a : Option Addr) (len cap : Nat) (a1 a2 a3 : Int) (ha1 : -9223372036854775808 ≤ a1 ∧ a1 ≤ 9223372036854775807) (ha2 : -9223372036854775808 ≤ a2 ∧ a2 ≤ 9223372036854775807) (ha3 : -9223372036854775808 ≤ a3 ∧ a3 ≤ 9223372036854775807) (w : World) (hr : RdR w a len) : Calls Try.prog 3 #[.slice a len cap, .int .i64 a1, .int .i64 a2, .int .i64 a3] w fun e u => e = .returned (.bool true) ∧ Below w.heap.size w u := by
  go_enter Try.func3, Try.ntmps3
  go_wp2_with fail
  refine (terms_c a len cap w hr).mono ?_
  rintro e U ⟨g, m, c, rfl, HT, hb⟩
  have HB : Hid (Below w.heap.size w U) := hb
  have hm0 : 1 ≤ m := HT.out.1
  have hm1 : m ≤ 41 := HT.out.2.1
  clear hb hr
  go_wp2_with fail
  refine (pick_any a1 m ha1 (by omega) _).mono ?_
  rintro e U2 ⟨kx, rfl, kx0, kx1, hw2⟩
  obtain rfl := hw2.symm
  obtain ⟨jx, rfl⟩ : ∃ j : Nat, kx = j := ⟨kx.toNat, by omega⟩
  have hjx : jx < m := by omega
  obtain ⟨tx, vx, lx, sx, hcx, px, hsx⟩ := HT.out.2.2 jx hjx
  have Px : Hid (Tm tx vx lx sx) := px
  have Sx : Hid (sx ≤ 60) := hsx
  clear px hsx
  go_wp2_with fail
  refine (pick_any a2 m ha2 (by omega) _).mono ?_
  rintro e U2 ⟨ky, rfl, ky0, ky1, hw2⟩
  obtain rfl := hw2.symm
  obtain ⟨jy, rfl⟩ : ∃ j : Nat, ky = j := ⟨ky.toNat, by omega⟩
  have hjy : jy < m := by omega
  obtain ⟨ty, vy, ly, sy, hcy, py, hsy⟩ := HT.out.2.2 jy hjy
  have Py : Hid (Tm ty vy ly sy) := py
  have Sy : Hid (sy ≤ 60) := hsy
  clear py hsy
  go_wp2_with fail
  refine (pick_any a3 m ha3 (by omega) _).mono ?_
  rintro e U2 ⟨kz, rfl, kz0, kz1, hw2⟩
  obtain rfl := hw2.symm
  obtain ⟨jz, rfl⟩ : ∃ j : Nat, kz = j := ⟨kz.toNat, by omega⟩
  have hjz : jz < m := by omega
  obtain ⟨tz, vz, lz, sz, hcz, pz, hsz⟩ := HT.out.2.2 jz hjz
  have Pz : Hid (Tm tz vz lz sz) := pz
  have Sz : Hid (sz ≤ 60) := hsz
  clear pz hsz
  have ZX : Hid (∀ w, Calls Try.prog 7 #[.iface tx vx] w fun e u => e = .returned (.int .i64 (sx : Int)) ∧ Below w.heap.size w u) := fun w => by have h := size_c (Px.out.cs) (by have := Sx.out; have := Sy.out; have := Sz.out; omega) w; exact h
  have ZY : Hid (∀ w, Calls Try.prog 7 #[.iface ty vy] w fun e u => e = .returned (.int .i64 (sy : Int)) ∧ Below w.heap.size w u) := fun w => by have h := size_c (Py.out.cs) (by have := Sx.out; have := Sy.out; have := Sz.out; omega) w; exact h
  have ZZ : Hid (∀ w, Calls Try.prog 7 #[.iface tz vz] w fun e u => e = .returned (.int .i64 (sz : Int)) ∧ Below w.heap.size w u) := fun w => by have h := size_c (Pz.out.cs) (by have := Sx.out; have := Sy.out; have := Sz.out; omega) w; exact h
  have ZC : Hid (∀ w, Calls Try.prog 7 #[.iface 31 (.agg #[.int .i64 0, .iface tx vx, .iface ty vy])] w fun e u => e = .returned (.int .i64 ((sx : Int) + sy + 1)) ∧ Below w.heap.size w u) := fun w => by have h := size_c (cs_chain 0 Px.out.cs Py.out.cs) (by have := Sx.out; have := Sy.out; have := Sz.out; omega) w; have e : ((sx + sy + 1 : Nat) : Int) = ((sx : Int) + sy + 1) := (by omega); rw [e] at h; exact h
  have ZD : Hid (∀ w, Calls Try.prog 7 #[.iface 33 (.agg #[.iface tx vx, .iface ty vy])] w fun e u => e = .returned (.int .i64 ((sx : Int) + sy + 1)) ∧ Below w.heap.size w u) := fun w => by have h := size_c (cs_digest Px.out.cs Py.out.cs) (by have := Sx.out; have := Sy.out; have := Sz.out; omega) w; have e : ((sx + sy + 1 : Nat) : Int) = ((sx : Int) + sy + 1) := (by omega); rw [e] at h; exact h
  have ZB : Hid (∀ w, Calls Try.prog 7 #[.iface 35 (.agg #[.iface tx vx, .int .i64 0, .iface ty vy, .iface tz vz])] w fun e u => e = .returned (.int .i64 ((sx : Int) + sy + sz + 1)) ∧ Below w.heap.size w u) := fun w => by have h := size_c (cs_box 0 Px.out.cs Py.out.cs Pz.out.cs) (by have := Sx.out; have := Sy.out; have := Sz.out; omega) w; have e : ((sx + sy + sz + 1 : Nat) : Int) = ((sx : Int) + sy + sz + 1) := (by omega); rw [e] at h; exact h
  have KN : Hid (∀ w, Calls Try.prog 6 #[] w fun e u => e = .returned (.bool true) ∧ Below w.heap.size w u) := known_s
  have lx := Sx.out
  have ly := Sy.out
  have lz := Sz.out
  have hw1 : IntKind.i64.wrap ((sx : Int) + sy) = sx + sy := by rw [IntKind.wrap_i64]; omega
  have hw2 : IntKind.i64.wrap ((sx : Int) + sy + 1) = sx + sy + 1 := by rw [IntKind.wrap_i64]; omega
  have hw3 : IntKind.i64.wrap ((sx : Int) + sy + sz) = sx + sy + sz := by rw [IntKind.wrap_i64]; omega
  have hw4 : IntKind.i64.wrap ((sx : Int) + sy + sz + 1) = sx + sy + sz + 1 := by rw [IntKind.wrap_i64]; omega
  clear lx ly lz HT Px Py Pz
  go_wp2_with fail
  refine (KN.out _).mono ?_
  rintro e u0 ⟨rfl, hb⟩
  replace HB : Hid (Below w.heap.size w u0) := HB.out.trans (hb.mono HB.out.size)
  clear hb hcx hcy hcz
  go_wp2_with fail
  refine (ZC.out _).mono ?_
  rintro e u1 ⟨rfl, hb⟩
  replace HB : Hid (Below w.heap.size w u1) := HB.out.trans (hb.mono HB.out.size)
  clear hb
  go_wp2_with fail
  refine (ZX.out _).mono ?_
  rintro e u2 ⟨rfl, hb⟩
  replace HB : Hid (Below w.heap.size w u2) := HB.out.trans (hb.mono HB.out.size)
  clear hb
  go_wp2_with fail
  refine (ZY.out _).mono ?_
  rintro e u3 ⟨rfl, hb⟩
  replace HB : Hid (Below w.heap.size w u3) := HB.out.trans (hb.mono HB.out.size)
  clear hb
  go_wp2_with fail
  refine (ZD.out _).mono ?_
  rintro e u4 ⟨rfl, hb⟩
  replace HB : Hid (Below w.heap.size w u4) := HB.out.trans (hb.mono HB.out.size)
  clear hb
  go_wp2_with fail
  refine (ZX.out _).mono ?_
  rintro e u5 ⟨rfl, hb⟩
  replace HB : Hid (Below w.heap.size w u5) := HB.out.trans (hb.mono HB.out.size)
  clear hb
  go_wp2_with fail
  refine (ZY.out _).mono ?_
  rintro e u6 ⟨rfl, hb⟩
  replace HB : Hid (Below w.heap.size w u6) := HB.out.trans (hb.mono HB.out.size)
  clear hb
  go_wp2_with fail
  refine (ZB.out _).mono ?_
  rintro e u7 ⟨rfl, hb⟩
  replace HB : Hid (Below w.heap.size w u7) := HB.out.trans (hb.mono HB.out.size)
  clear hb
  go_wp2_with fail
  refine (ZX.out _).mono ?_
  rintro e u8 ⟨rfl, hb⟩
  replace HB : Hid (Below w.heap.size w u8) := HB.out.trans (hb.mono HB.out.size)
  clear hb
  go_wp2_with fail
  refine (ZY.out _).mono ?_
  rintro e u9 ⟨rfl, hb⟩
  replace HB : Hid (Below w.heap.size w u9) := HB.out.trans (hb.mono HB.out.size)
  clear hb
  go_wp2_with fail
  refine (ZZ.out _).mono ?_
  rintro e u10 ⟨rfl, hb⟩
  replace HB : Hid (Below w.heap.size w u10) := HB.out.trans (hb.mono HB.out.size)
  clear hb
  go_wp2
  go_ret
  exact ⟨by simp, HB.out⟩
end Go.Proofs.Ytifcdmiopanedaa
