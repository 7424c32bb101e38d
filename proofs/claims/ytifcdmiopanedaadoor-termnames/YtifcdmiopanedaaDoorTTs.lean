/-
  What portholehand's Terms makes. No statement of the seat is proved here.
-/
import Derived.Test.YtifcdmiopanedaaDoorTTl
import Derived.Deep.LoopGhost
import Derived.Deep.CutRange
import Derived.Deep.CutBlock
namespace Go.Proofs.YtifcdmiopanedaaDoor
open Go.RowKit
set_option linter.unusedVariables false
set_option linter.unusedSimpArgs false

/-- Raw ones that came in. -/
def RdR (w : World) (a : Option Addr) (len : Nat) : Prop := ∀ i, i < len → ∃ (b o : Nat) (kd n A B C : Int), a = some ⟨b, o, none⟩ ∧ w.rangeAt b (o + i * 5) [.int .i64 kd, .int .i64 n, .int .i64 A, .int .i64 B, .int .i64 C] ∧ (-9223372036854775808 ≤ kd ∧ kd ≤ 9223372036854775807) ∧ (-9223372036854775808 ≤ n ∧ n ≤ 9223372036854775807) ∧ (-9223372036854775808 ≤ A ∧ A ≤ 9223372036854775807) ∧ (-9223372036854775808 ≤ B ∧ B ≤ 9223372036854775807) ∧ (-9223372036854775808 ≤ C ∧ C ≤ 9223372036854775807)
theorem four_heap (w : World) (o1 o2 o3 o4 : Obj) : let u := (((w.alloc o1).alloc o2).alloc o3).alloc o4; u.heap[w.heap.size]? = some o1 ∧ u.heap[w.heap.size + 1]? = some o2 ∧ u.heap[w.heap.size + 2]? = some o3 ∧ u.heap[w.heap.size + 3]? = some o4 := by
  have s1 : (w.alloc o1).heap.size = w.heap.size + 1 := by simp
  have s2 : ((w.alloc o1).alloc o2).heap.size = w.heap.size + 2 := by simp
  have s3 : (((w.alloc o1).alloc o2).alloc o3).heap.size = w.heap.size + 3 := by simp
  refine ⟨?_, ?_, ?_, ?_⟩
  · rw [Below.heap_alloc _ _ _ (by omega), Below.heap_alloc _ _ _ (by omega), Below.heap_alloc _ _ _ (by omega)]; exact heap_alloc_new w o1
  · rw [Below.heap_alloc _ _ _ (by omega), Below.heap_alloc _ _ _ (by omega)]; have h := heap_alloc_new (w.alloc o1) o2; rw [s1] at h; exact h
  · rw [Below.heap_alloc _ _ _ (by omega)]; have h := heap_alloc_new ((w.alloc o1).alloc o2) o3; rw [s2] at h; exact h
  · have h := heap_alloc_new (((w.alloc o1).alloc o2).alloc o3) o4; rw [s3] at h; exact h
theorem row_one {u : World} {B g : Nat} {e : TypeId} {x : Value} (hB : B ≤ g) (hh : u.heap[g]? = some (.cells #[x] e (0, 0))) : u.ownsRow B e 1 (.slice (some ⟨g, 0, none⟩) 1 1) 1 [x] :=
  ⟨by simp, .inr ⟨g, 1, #[x], rfl, hB, hh, Nat.le_refl _, by unfold maxLen; omega, by simp, by simp⟩⟩
theorem froz_row {u : World} {g o : Nat} {e : TypeId} {cs : Array Value} (hh : u.heap[g]? = some (.cells cs e (0, 0))) : u.frozen? ⟨g, o, none⟩ = false := by
  unfold World.frozen?
  rw [hh]; simp
/-- A Raw one in a variable. -/
structure Rw (q : Nat) (kd n A B C : Int) (u : World) : Prop where
  c0 : u.cell? ⟨q, 0, none⟩ = some (.int .i64 kd)
  c1 : u.cell? ⟨q, 1, none⟩ = some (.int .i64 n)
  c2 : u.cell? ⟨q, 2, none⟩ = some (.int .i64 A)
  c3 : u.cell? ⟨q, 3, none⟩ = some (.int .i64 B)
  c4 : u.cell? ⟨q, 4, none⟩ = some (.int .i64 C)
theorem Rw.new (u : World) (kd n A B C : Int) : Rw u.heap.size kd n A B C (u.alloc (.cells #[.int .i64 kd, .int .i64 n, .int .i64 A, .int .i64 B, .int .i64 C] 66)) := by
  refine ⟨?_, ?_, ?_, ?_, ?_⟩ <;> (rw [cell_of_row _ _ _ _ _ _ (heap_alloc_new u _)]; rfl)
theorem Rw.later {q : Nat} {kd n A B C : Int} {u v : World} (h : Rw q kd n A B C u) (hb : Below u.heap.size u v) : Rw q kd n A B C v := ⟨cell_later hb h.c0, cell_later hb h.c1, cell_later hb h.c2, cell_later hb h.c3, cell_later hb h.c4⟩
theorem tq_start (w : World) : Tq w.heap.size (w.heap.size + 1) (w.heap.size + 3) w ((((w.alloc (.cells #[(.iface 25 (.agg #[]))] 29)).alloc (.cells #[.slice (some ⟨w.heap.size, 0, none⟩) 1 1] 45)).alloc (.cells #[.int .i64 1] 3)).alloc (.cells #[.slice (some ⟨w.heap.size + 2, 0, none⟩) 1 1] 63)) w.heap.size 1 1 [(.iface 25 (.agg #[]))] (w.heap.size + 2) 1 1 [.int .i64 1] := by
  obtain ⟨h1, h2, h3, h4⟩ := four_heap w (.cells #[(.iface 25 (.agg #[]))] 29) (.cells #[.slice (some ⟨w.heap.size, 0, none⟩) 1 1] 45) (.cells #[.int .i64 1] 3) (.cells #[.slice (some ⟨w.heap.size + 2, 0, none⟩) 1 1] 63)
  have hb : Below w.heap.size w ((((w.alloc (.cells #[(.iface 25 (.agg #[]))] 29)).alloc (.cells #[.slice (some ⟨w.heap.size, 0, none⟩) 1 1] 45)).alloc (.cells #[.int .i64 1] 3)).alloc (.cells #[.slice (some ⟨w.heap.size + 2, 0, none⟩) 1 1] 63)) := (bel3 w _ _ _).trans ((bel1 _ _).mono (bel3 w _ _ _).size)
  exact { k3 := by rw [cell_of_row _ _ _ _ _ _ h2]; rfl, z3 := froz_row h2, k4 := by rw [cell_of_row _ _ _ _ _ _ h4]; rfl, z4 := froz_row h4, o3 := row_one (Nat.le_refl _) h1, o4 := row_one (by omega) h3, b33 := by omega, b34 := by omega, b43 := by omega, b44 := by omega, bg := by omega, ne := by omega, bel := hb, l3 := by omega, l4 := by omega }
theorem tms_start : Tms 1 [(.iface 25 (.agg #[]))] [.int .i64 1] := by
  intro j hj
  obtain rfl : j = 0 := by omega
  exact ⟨_, _, _, 1, rfl, Tm.empty, by omega, rfl⟩
/-- The row that Terms gives. -/
def Tr (u : World) (g n c : Nat) : Prop := 1 ≤ n ∧ n ≤ 41 ∧ ∀ j, j < n → ∃ t v l s, u.cell? ⟨g, j, none⟩ = some (.iface t v) ∧ Tm t v l s ∧ s ≤ 60
theorem Tr.later {u v : World} {g n c : Nat} (h : Tr u g n c) (hb : Below u.heap.size u v) : Tr v g n c := ⟨h.1, h.2.1, fun j hj => by
  obtain ⟨t, x, l, s, h1, h2⟩ := h.2.2 j hj
  exact ⟨t, x, l, s, cell_later hb h1, h2⟩⟩
set_option maxRecDepth 8000 in
set_option maxHeartbeats 4000000 in
theorem terms_c (a : Option Addr) (len cap : Nat) (w : World) (hr : RdR w a len) : Calls Tryd.prog 17 #[.slice a len cap] w fun e u => ∃ g n c, e = .returned (.slice (some ⟨g, 0, none⟩) n c) ∧ Hid (Tr u g n c) ∧ Below w.heap.size w u := by
  have hmf : ∀ (fn : Fn) (first cap : Array Value) (w : World), (Instr.makeFunc fn first cap).run Tryd.prog w = .ok (.func fn first cap) w := fun _ _ _ _ => rfl
  have HR : Hid (RdR w a len) := hr
  have H0 : Hid (Tq w.heap.size (w.heap.size + 1) (w.heap.size + 1 + 1 + 1) w ((((w.alloc (.cells #[(.iface 25 (.agg #[]))] 29)).alloc (.cells #[.slice (some ⟨w.heap.size, 0, none⟩) 1 1] 45)).alloc (.cells #[.int .i64 1] 3)).alloc (.cells #[.slice (some ⟨w.heap.size + 2, 0, none⟩) 1 1] 63)) w.heap.size 1 1 [(.iface 25 (.agg #[]))] (w.heap.size + 2) 1 1 [.int .i64 1]) := tq_start w
  clear hr
  go_enter Tryd.func17, Tryd.ntmps17
  go_upto_region 4 with fail
  obtain ⟨W0, hW0⟩ : ∃ z, z = ((((w.alloc (.cells #[(.iface 25 (.agg #[]))] 29)).alloc (.cells #[.slice (some ⟨w.heap.size, 0, none⟩) 1 1] 45)).alloc (.cells #[.int .i64 1] 3)).alloc (.cells #[.slice (some ⟨w.heap.size + 2, 0, none⟩) 1 1] 63)) := ⟨_, rfl⟩
  obtain ⟨p3, hp3⟩ : ∃ z, z = w.heap.size + 1 := ⟨_, rfl⟩
  obtain ⟨p4, hp4⟩ : ∃ z, z = w.heap.size + 1 + 1 + 1 := ⟨_, rfl⟩
  rw [← hW0, ← hp4, ← hp3] at H0
  rw [← hW0, ← hp4, ← hp3]
  clear hW0 hp3 hp4
  obtain ⟨N, hN⟩ : ∃ z, z = min len 40 := ⟨_, rfl⟩
  go_wp2
  go_loopg [6] N (fun gk i wr => ∃ (k : Nat) (g3 c3 : Nat) (xs : List Value) (g4 c4 : Nat) (ys : List Value), gk + k = N ∧ i = .int .i64 k ∧ Hid (Tq w.heap.size p3 p4 w wr g3 c3 (k + 1) xs g4 c4 (k + 1) ys) ∧ Hid (Tms (k + 1) xs ys))
  case atStart => exact ⟨0, _, _, _, _, _, _, by omega, rfl, H0, tms_start⟩
  case round =>
    clear H0
    obtain ⟨k, g3, c3, xs, g4, c4, ys, hk, rfl, HQ, HT⟩ := hrel
    by_cases hlt : k < N
    · have c1 : (k : Int) < len := by omega
      have c2 : (k : Int) < 40 := by omega
      obtain ⟨b, o, kd, n, A, B, C, rfl, hx, hkd, hn, hA, hB, hC⟩ := HR.out k (by omega)
      have x0 : wr.cell? ⟨b, o + k * 5, none⟩ = some (.int .i64 kd) := cell_later HQ.out.bel (hx 0 _ rfl)
      have x1 : wr.cell? ⟨b, o + k * 5 + 1, none⟩ = some (.int .i64 n) := cell_later HQ.out.bel (hx 1 _ rfl)
      have x2 : wr.cell? ⟨b, o + k * 5 + 2, none⟩ = some (.int .i64 A) := cell_later HQ.out.bel (hx 2 _ rfl)
      have x3 : wr.cell? ⟨b, o + k * 5 + 3, none⟩ = some (.int .i64 B) := cell_later HQ.out.bel (hx 3 _ rfl)
      have x4 : wr.cell? ⟨b, o + k * 5 + 4, none⟩ = some (.int .i64 C) := cell_later HQ.out.bel (hx 4 _ rfl)
      clear hx
      go_upto_region 8 with fail
      obtain ⟨V0, hV0⟩ : ∃ z, z = wr.alloc (.cells #[.int .i64 kd, .int .i64 n, .int .i64 A, .int .i64 B, .int .i64 C] 66) := ⟨_, rfl⟩
      obtain ⟨q7, hq7⟩ : ∃ z, z = wr.heap.size := ⟨_, rfl⟩
      have YB : Hid (Rw q7 kd n A B C V0) := by rw [hV0, hq7]; exact Rw.new wr kd n A B C
      replace HQ : Hid (Tq w.heap.size p3 p4 w V0 g3 c3 (k + 1) xs g4 c4 (k + 1) ys) := by rw [hV0]; exact HQ.out.later (bel1 _ _)
      rw [← hV0, ← hq7]
      clear hV0 hq7 x0 x1 x2 x3 x4
      have y0 := YB.out.c0
      have y1 := YB.out.c1
      have y2 := YB.out.c2
      have y3 := YB.out.c3
      have y4 := YB.out.c4
      go_wp2_with fail
      refine (at_c HQ.out HT.out (by omega) A hA).mono ?_
      rintro e V1 ⟨tx, vx, nx, sx, rfl, Px, Bx, hb⟩
      replace HQ : Hid (Tq w.heap.size p3 p4 w V1 g3 c3 (k + 1) xs g4 c4 (k + 1) ys) := HQ.out.later hb
      replace YB : Hid (Rw q7 kd n A B C V1) := YB.out.later hb
      clear hb
      clear y0 y1 y2 y3 y4
      have y0 := YB.out.c0
      have y1 := YB.out.c1
      have y2 := YB.out.c2
      have y3 := YB.out.c3
      have y4 := YB.out.c4
      go_wp2_with fail
      refine (at_c HQ.out HT.out (by omega) B hB).mono ?_
      rintro e V2 ⟨ty, vy, ny, sy, rfl, Py, By, hb⟩
      replace HQ : Hid (Tq w.heap.size p3 p4 w V2 g3 c3 (k + 1) xs g4 c4 (k + 1) ys) := HQ.out.later hb
      replace YB : Hid (Rw q7 kd n A B C V2) := YB.out.later hb
      clear hb
      clear y0 y1 y2 y3 y4
      have y0 := YB.out.c0
      have y1 := YB.out.c1
      have y2 := YB.out.c2
      have y3 := YB.out.c3
      have y4 := YB.out.c4
      go_wp2_with fail
      refine (at_c HQ.out HT.out (by omega) C hC).mono ?_
      rintro e V3 ⟨tz, vz, nz, sz, rfl, Pz, Bz, hb⟩
      replace HQ : Hid (Tq w.heap.size p3 p4 w V3 g3 c3 (k + 1) xs g4 c4 (k + 1) ys) := HQ.out.later hb
      replace YB : Hid (Rw q7 kd n A B C V3) := YB.out.later hb
      clear hb
      clear y0 y1 y2 y3 y4
      have y0 := YB.out.c0
      have y1 := YB.out.c1
      have y2 := YB.out.c2
      have y3 := YB.out.c3
      have y4 := YB.out.c4
      go_wp2_with fail
      refine (pick_any n 7 hn (by omega) _).mono ?_
      rintro e V4 ⟨k1, rfl, k10, k11, e4⟩
      obtain rfl := e4.symm
      have hw1 : IntKind.i64.wrap (k1 + 1) = k1 + 1 := by rw [IntKind.wrap_i64]; omega
      go_wp2_with fail
      refine (pick_any kd 8 hkd (by omega) _).mono ?_
      rintro e V4 ⟨kk, rfl, kk0, kk1, e4⟩
      obtain rfl := e4.symm
      have hkk : kk = 0 ∨ kk = 1 ∨ kk = 2 ∨ kk = 3 ∨ kk = 4 ∨ kk = 5 ∨ kk = 6 ∨ kk = 7 := by omega
      clear kk0 kk1
      go_upto_block 2 with fail
      go_cut [15, 16] from 22 to 137 (fun tv sv wx => ∃ (t : TypeId) (v : Value) (l : List UInt8) (s : Nat), tv = .iface t v ∧ sv = .int .i64 s ∧ Hid (Tm t v l s) ∧ s ≤ 1000 ∧ wx = V3)
      case first =>
        rcases hkk with rfl | rfl | rfl | rfl | rfl | rfl | rfl | rfl
        · go_wp2_with fail
          refine (pick_any n 9 hn (by omega) _).mono ?_
          rintro e V4 ⟨k2, rfl, k20, k21, e4⟩
          obtain rfl := e4.symm
          have hw2 : IntKind.i64.wrap (k2 - 4) = k2 - 4 := by rw [IntKind.wrap_i64]; omega
          go_wp2_with fail
          go_meet
          exact ⟨_, _, _, 1, rfl, by go_num, Tm.atom (k2 - 4) (by omega) (by omega), by omega, rfl⟩
        · go_wp2_with fail
          go_meet
          exact ⟨_, _, _, 1, rfl, by go_num, Tm.pub (k1 + 1) (by omega) (by omega), by omega, rfl⟩
        · go_wp2_with fail
          go_meet
          exact ⟨_, _, _, 1, rfl, by go_num, Tm.pub (k1 + 1) (by omega) (by omega), by omega, rfl⟩
        · go_wp2_with fail
          refine (pick_any A 3 hA (by omega) _).mono ?_
          rintro e V4 ⟨k2, rfl, k20, k21, e4⟩
          obtain rfl := e4.symm
          have hw2 : IntKind.i64.wrap (k1 + 1 + k2) = k1 + 1 + k2 := by rw [IntKind.wrap_i64]; omega
          go_wp2_with fail
          go_meet
          exact ⟨_, _, _, 1, rfl, by go_num, Tm.shared (k1 + 1) (k1 + 1 + k2) (by omega) (by omega) (by omega) (by omega), by omega, rfl⟩
        · go_wp2_with fail
          refine (pick_any n 3 hn (by omega) _).mono ?_
          rintro e V4 ⟨k2, rfl, k20, k21, e4⟩
          obtain rfl := e4.symm
          have hw2 : IntKind.i64.wrap (k2 + 1) = k2 + 1 := by rw [IntKind.wrap_i64]; omega
          have hwx : IntKind.i64.wrap (1 + (sx : Int)) = 1 + (sx : Int) := by rw [IntKind.wrap_i64]; omega
          have hwy : IntKind.i64.wrap (1 + (sx : Int) + (sy : Int)) = 1 + (sx : Int) + (sy : Int) := by rw [IntKind.wrap_i64]; omega
          go_wp2_with fail
          go_meet
          exact ⟨_, _, _, (sx + sy + 1), rfl, by go_num, Tm.chain (k2 + 1) (by omega) (by omega) Px.out Py.out, by omega, rfl⟩
        · have hwx : IntKind.i64.wrap (1 + (sx : Int)) = 1 + (sx : Int) := by rw [IntKind.wrap_i64]; omega
          have hwy : IntKind.i64.wrap (1 + (sx : Int) + (sy : Int)) = 1 + (sx : Int) + (sy : Int) := by rw [IntKind.wrap_i64]; omega
          go_wp2_with fail
          go_meet
          exact ⟨_, _, _, (sx + sy + 1), rfl, by go_num, Tm.digest Px.out Py.out, by omega, rfl⟩
        · go_wp2_with fail
          refine (pick_any n 3 hn (by omega) _).mono ?_
          rintro e V4 ⟨k2, rfl, k20, k21, e4⟩
          obtain rfl := e4.symm
          have hwx : IntKind.i64.wrap (1 + (sx : Int)) = 1 + (sx : Int) := by rw [IntKind.wrap_i64]; omega
          have hwy : IntKind.i64.wrap (1 + (sx : Int) + (sy : Int)) = 1 + (sx : Int) + (sy : Int) := by rw [IntKind.wrap_i64]; omega
          have hwz : IntKind.i64.wrap (1 + (sx : Int) + (sy : Int) + (sz : Int)) = 1 + (sx : Int) + (sy : Int) + (sz : Int) := by rw [IntKind.wrap_i64]; omega
          go_wp2_with fail
          go_meet
          exact ⟨_, _, _, (sx + sy + sz + 1), rfl, by go_num, Tm.box k2 (by omega) (by omega) Px.out Py.out Pz.out, by omega, rfl⟩
        · go_wp2_with fail
          refine (pick_any n 3 hn (by omega) _).mono ?_
          rintro e V4 ⟨k2, rfl, k20, k21, e4⟩
          obtain rfl := e4.symm
          have hwx : IntKind.i64.wrap (1 + (sx : Int)) = 1 + (sx : Int) := by rw [IntKind.wrap_i64]; omega
          have hwy : IntKind.i64.wrap (1 + (sx : Int) + (sy : Int)) = 1 + (sx : Int) + (sy : Int) := by rw [IntKind.wrap_i64]; omega
          have hwz : IntKind.i64.wrap (1 + (sx : Int) + (sy : Int) + (sz : Int)) = 1 + (sx : Int) + (sy : Int) + (sz : Int) := by rw [IntKind.wrap_i64]; omega
          go_wp2_with fail
          go_meet
          exact ⟨_, _, _, (sx + sy + sz + 1), rfl, by go_num, Tm.box k2 (by omega) (by omega) Px.out Py.out Pz.out, by omega, rfl⟩
      case rest =>
        obtain ⟨tx2, vx2, lx2, s, hv1, hv2, HM, hs, rfl⟩ := hcut
        clear Px Py Pz y0 y1 y2 y3 y4
        rw [hv1, hv2]
        clear hv1 hv2
        have hq3 := HQ.out.k3
        by_cases hbig : (s : Int) ≤ 60
        · have hbg : ¬ 60 < (s : Int) := by omega
          go_upto_region 34 with (at_builtin; refine wpList_ap3 w.heap.size g3 c3 (k + 1) xs tx2 vx2 _ HQ.out.o3 HQ.out.le (by omega) (by rfl) _ _ (by rfl) (by rfl) (by rfl) ?_; intro g5 c5 u5 K1 K2 K3; refine Hid.out ?_)
          refine Lib.hid ?_
          have HC := (HQ.out.later (bel1 wc (.cells #[.iface tx2 vx2] 29))).can3 K2
          have hc := HC.1
          have hz := HC.2
          have HQ5 : Hid (Tq w.heap.size p3 p4 w (u5.setCell ⟨p3, 0, none⟩ (.slice (some ⟨g5, 0, none⟩) (k + 1 + 1) c5)) g5 c5 (k + 1 + 1) (xs ++ [.iface tx2 vx2]) g4 c4 (k + 1) ys) := (HQ.out.later (bel1 wc _)).app3 K1 K2 K3
          have HX : Hid (xs.length = k + 1) := by have := HQ.out.o3.1; unfold Hid; omega
          have HY : Hid (ys.length = k + 1) := by have := HQ.out.o4.1; unfold Hid; omega
          clear K1 K2 K3 HC hq3
          go_upto_region 34 with fail
          obtain ⟨W5, hW5⟩ : ∃ z, z = u5.setCell ⟨p3, 0, none⟩ (.slice (some ⟨g5, 0, none⟩) (k + 1 + 1) c5) := ⟨_, rfl⟩
          rw [← hW5] at HQ5
          rw [← hW5]
          clear hW5 hc hz
          have q4 := HQ5.out.k4
          go_wp2_with (at_builtin; refine wpList_ap4 w.heap.size g4 c4 (k + 1) ys (s : Nat) _ HQ5.out.o4 HQ5.out.le (by omega) (by rfl) _ _ (by rfl) (by rfl) (by rfl) ?_; intro g6 c6 u6 K1 K2 K3; refine Hid.out ?_)
          refine Lib.hid ?_
          have HC := (HQ5.out.later (bel1 _ (.cells #[.int .i64 (s : Nat)] 3))).can4 K2
          have hc4 := HC.1
          have hz4 := HC.2
          have HQ6 : Hid (Tq w.heap.size p3 p4 w (u6.setCell ⟨p4, 0, none⟩ (.slice (some ⟨g6, 0, none⟩) (k + 1 + 1) c6)) g5 c5 (k + 1 + 1) (xs ++ [.iface tx2 vx2]) g6 c6 (k + 1 + 1) (ys ++ [.int .i64 (s : Nat)])) := (HQ5.out.later (bel1 _ _)).app4 K1 K2 K3
          clear K1 K2 K3 HC q4
          go_wp2
          go_roundg (gk - 1)
          case measure => omega
          case rel => exact ⟨k + 1, _, _, _, _, _, _, by omega, by go_num, HQ6, HT.out.snoc HX.out HY.out HM.out (by omega)⟩
        · have hbg : 60 < (s : Int) := by omega
          go_upto_region 34 with (at_builtin; refine wpList_ap3 w.heap.size g3 c3 (k + 1) xs 25 (.agg #[]) _ HQ.out.o3 HQ.out.le (by omega) (by rfl) _ _ (by rfl) (by rfl) (by rfl) ?_; intro g5 c5 u5 K1 K2 K3; refine Hid.out ?_)
          refine Lib.hid ?_
          have HC := (HQ.out.later (bel1 wc (.cells #[.iface 25 (.agg #[])] 29))).can3 K2
          have hc := HC.1
          have hz := HC.2
          have HQ5 : Hid (Tq w.heap.size p3 p4 w (u5.setCell ⟨p3, 0, none⟩ (.slice (some ⟨g5, 0, none⟩) (k + 1 + 1) c5)) g5 c5 (k + 1 + 1) (xs ++ [.iface 25 (.agg #[])]) g4 c4 (k + 1) ys) := (HQ.out.later (bel1 wc _)).app3 K1 K2 K3
          have HX : Hid (xs.length = k + 1) := by have := HQ.out.o3.1; unfold Hid; omega
          have HY : Hid (ys.length = k + 1) := by have := HQ.out.o4.1; unfold Hid; omega
          clear K1 K2 K3 HC hq3
          go_upto_region 34 with fail
          obtain ⟨W5, hW5⟩ : ∃ z, z = u5.setCell ⟨p3, 0, none⟩ (.slice (some ⟨g5, 0, none⟩) (k + 1 + 1) c5) := ⟨_, rfl⟩
          rw [← hW5] at HQ5
          rw [← hW5]
          clear hW5 hc hz
          have q4 := HQ5.out.k4
          go_wp2_with (at_builtin; refine wpList_ap4 w.heap.size g4 c4 (k + 1) ys (1 : Nat) _ HQ5.out.o4 HQ5.out.le (by omega) (by rfl) _ _ (by rfl) (by rfl) (by rfl) ?_; intro g6 c6 u6 K1 K2 K3; refine Hid.out ?_)
          refine Lib.hid ?_
          have HC := (HQ5.out.later (bel1 _ (.cells #[.int .i64 (1 : Nat)] 3))).can4 K2
          have hc4 := HC.1
          have hz4 := HC.2
          have HQ6 : Hid (Tq w.heap.size p3 p4 w (u6.setCell ⟨p4, 0, none⟩ (.slice (some ⟨g6, 0, none⟩) (k + 1 + 1) c6)) g5 c5 (k + 1 + 1) (xs ++ [.iface 25 (.agg #[])]) g6 c6 (k + 1 + 1) (ys ++ [.int .i64 (1 : Nat)])) := (HQ5.out.later (bel1 _ _)).app4 K1 K2 K3
          clear K1 K2 K3 HC q4
          go_wp2
          go_roundg (gk - 1)
          case measure => omega
          case rel => exact ⟨k + 1, _, _, _, _, _, _, by omega, by go_num, HQ6, HT.out.snoc HX.out HY.out Tm.empty (by omega)⟩
    · have hk2 : k = N := by omega
      have q3 := HQ.out.k3
      have hfin : Hid (Tr wr g3 (k + 1) c3) := by
        refine ⟨by omega, by omega, ?_⟩
        intro j hj
        obtain ⟨t, v, l, s, h1, h2, h3, _⟩ := HT.out j hj
        exact ⟨t, v, l, s, own_cell HQ.out.o3 hj h1, h2, h3⟩
      by_cases hl : (k : Int) < len
      · have c2 : ¬ (k : Int) < 40 := by omega
        go_wp2
        go_ret
        exact ⟨_, _, _, rfl, by simpa only [hk2, hN] using hfin, HQ.out.bel⟩
      · go_wp2
        go_ret
        exact ⟨_, _, _, rfl, by simpa only [hk2, hN] using hfin, HQ.out.bel⟩
end Go.Proofs.YtifcdmiopanedaaDoor
