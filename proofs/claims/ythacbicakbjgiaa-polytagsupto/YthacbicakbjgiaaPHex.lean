/-
  What the law's own 'hex' does. No statement of the seat is proved here.
-/
import Derived.Test.YthacbicakbjgiaaKHex
import Derived.Test.YthacbicakbjgiaaKGen
namespace Go.Proofs.Ythacbicakbjgiaa
open Go.RowKit

theorem one_news (w : World) (x : Value) (t : TypeId) : ∀ (j : Nat) (u : Value), [x][j]? = some u → (w.alloc (.cells #[x] t)).cell? ((⟨w.heap.size, 0, none⟩ : Addr).add j) = some u := by
  intro j u hu
  have hj : j = 0 := by
    have := (List.getElem?_eq_some_iff.1 hu).1
    simpa using this
  subst hj
  rw [Addr.add_lit, Nat.add_zero, cell_of_row _ _ _ _ _ _ (heap_alloc_new w _)]
  simpa using hu
set_option maxRecDepth 8000 in
set_option maxHeartbeats 4000000 in
theorem hex5_c (s : ByteArray) (n : Nat) (hsz : s.size = 2 * n) (hn : n ≤ 100000) (hok : (sd s).all okd = true) (w : World) :
    Calls Try.prog 24 #[.string s] w fun e w' => ∃ v, e = .returned v ∧ Hid (w'.ownsRow w.heap.size 5 1 v n (List.map (Value.int .u8) (hxl (sd s) n))) ∧ Below w.heap.size w w' := by
  obtain ⟨i0, hi, hz0, hz1, hz2⟩ := info_parts info5
  have HOK : Hid ((sd s).all okd = true) := hok
  have HSL : Hid ((sd s).length = 2 * n) := by unfold Hid sd; rw [List.length_map, Array.length_toList]; exact hsz
  have HIX : Hid (∀ j : Nat, j < 2 * n → ∀ u, Sem.run Try.prog (Instr.index 9 (.string s) (.int .i64 (j : Int))) u = .ok (.int .u8 (sd s)[j]!) u) := fun j hj u => idx_str s j (by omega) u
  have hsi : (s.size : Int) = 2 * (n : Int) := by omega
  clear hok hsz
  go_enter Try.func24, Try.ntmps24
  go_wp2
  go_loopw [4, 3] (fun i b wr => ∃ (k : Nat) (v : Value), k ≤ n ∧ i = .int .i64 (2 * (k : Int)) ∧ b = v ∧ Hid (wr.ownsRow w.heap.size 5 1 v k (List.map (Value.int .u8) (hxl (sd s) k))) ∧ Hid (Below w.heap.size w wr)) (fun i _ _ => 2 * n - (intOf i).toNat)
  case atStart => exact ⟨0, _, Nat.zero_le _, rfl, rfl, World.ownsRow_nil _ _ _ _, Below.refl _ _⟩
  case round =>
    obtain ⟨k, v, hk, rfl, rfl, HO, HB⟩ := hrel
    by_cases hlt : k < n
    · have g1 : 2 * (k : Int) + 1 < 2 * (n : Int) := by omega
      have e0 : ∀ u, Sem.run Try.prog (Instr.index 9 (.string s) (.int .i64 (2 * (k : Int)))) u = .ok (.int .u8 (sd s)[2 * k]!) u := fun u => by
        have := HIX.out (2 * k) (by omega) u
        rwa [show ((2 * k : Nat) : Int) = 2 * (k : Int) by omega] at this
      have e1 : ∀ u, Sem.run Try.prog (Instr.index 9 (.string s) (.int .i64 (2 * (k : Int) + 1))) u = .ok (.int .u8 (sd s)[2 * k + 1]!) u := fun u => by
        have := HIX.out (2 * k + 1) (by omega) u
        rwa [show ((2 * k + 1 : Nat) : Int) = 2 * (k : Int) + 1 by omega] at this
      have o0 := okd_dv (okd_at HOK.out (j := 2 * k) (by rw [HSL.out]; omega))
      have o1 := okd_dv (okd_at HOK.out (j := 2 * k + 1) (by rw [HSL.out]; omega))
      obtain ⟨c0, hc0⟩ : ∃ c, c = (sd s)[2 * k]! := ⟨_, rfl⟩
      obtain ⟨c1, hc1⟩ : ∃ c, c = (sd s)[2 * k + 1]! := ⟨_, rfl⟩
      rw [← hc0] at e0 o0
      rw [← hc1] at e1 o1
      have HNX : Hid (hxl (sd s) (k + 1) = hxl (sd s) k ++ [16 * dv c0 + dv c1]) := by unfold Hid; rw [hxl, ← hc0, ← hc1]
      clear hc0 hc1
      obtain ⟨o00, o01, o02, o03, o04, o05⟩ := o0
      obtain ⟨o10, o11, o12, o13, o14, o15⟩ := o1
      generalize hdv0 : dv c0 = v0 at o00 o01 o04 o05 HNX
      generalize hdv1 : dv c1 = v1 at o10 o11 o14 o15 HNX
      clear hdv0 hdv1
      by_cases a0 : 97 ≤ c0
      · by_cases a1 : 97 ≤ c1
        · have q0 : c0 - 97 + 10 = v0 := by have := o04 a0; omega
          have q1 : c1 - 97 + 10 = v1 := by have := o14 a1; omega
          clear o04 o05 o14 o15
          go_wp2_with fail
          refine wp_loop_rounds 3 ?_
          rw [rounds_succ]; go_wp2_with fail
          rw [rounds_succ]; go_wp2_with fail
          rw [rounds_succ]
          go_wp2_with (at_builtin; refine wpList_append_own _ rfl (.tmp 36) (.tmp 38) 25 rfl w.heap.size 5 i0 (.int .u8 0) 1 1 Try.underlying25 hi hz0 hz1 hz2 rfl (by decide) _ k (List.map (Value.int .u8) (hxl (sd s) k)) rfl (HO.out.alloc _) ⟨wr.heap.size, 0, none⟩ 1 1 [.int .u8 (16 * v0 + v1)] rfl rfl (fun j u hu => one_news wr _ _ j u hu) (by intro u hu; simp at hu; rw [hu]; rfl) (by unfold maxLen; omega) (by omega) (by have := HB.out.size; simp; omega) ?_)
          intro v' w1 hown hg _
          have HO' : Hid (w1.ownsRow w.heap.size 5 1 v' (k + 1) (List.map (Value.int .u8) (hxl (sd s) (k + 1)))) := by unfold Hid; rw [HNX.out, List.map_append]; exact hown
          have HB' : Hid (Below w.heap.size w w1) := (HB.out.alloc HB.out.size _).grown hg (by have := HB.out.size; simp; omega) (fun j hj => ((HO.out.lt j hj).1))
          clear hown hg HO HB
          go_wp2
          go_roundw
          case rel => exact ⟨k + 1, v', by omega, by go_num, rfl, HO', HB'⟩
          case measure => simp [intOf]; omega
        · have q0 : c0 - 97 + 10 = v0 := by have := o04 a0; omega
          have q1 : c1 - 48 = v1 := by have := o15 a1; omega
          clear o04 o05 o14 o15
          go_wp2_with fail
          refine wp_loop_rounds 3 ?_
          rw [rounds_succ]; go_wp2_with fail
          rw [rounds_succ]; go_wp2_with fail
          rw [rounds_succ]
          go_wp2_with (at_builtin; refine wpList_append_own _ rfl (.tmp 36) (.tmp 38) 25 rfl w.heap.size 5 i0 (.int .u8 0) 1 1 Try.underlying25 hi hz0 hz1 hz2 rfl (by decide) _ k (List.map (Value.int .u8) (hxl (sd s) k)) rfl (HO.out.alloc _) ⟨wr.heap.size, 0, none⟩ 1 1 [.int .u8 (16 * v0 + v1)] rfl rfl (fun j u hu => one_news wr _ _ j u hu) (by intro u hu; simp at hu; rw [hu]; rfl) (by unfold maxLen; omega) (by omega) (by have := HB.out.size; simp; omega) ?_)
          intro v' w1 hown hg _
          have HO' : Hid (w1.ownsRow w.heap.size 5 1 v' (k + 1) (List.map (Value.int .u8) (hxl (sd s) (k + 1)))) := by unfold Hid; rw [HNX.out, List.map_append]; exact hown
          have HB' : Hid (Below w.heap.size w w1) := (HB.out.alloc HB.out.size _).grown hg (by have := HB.out.size; simp; omega) (fun j hj => ((HO.out.lt j hj).1))
          clear hown hg HO HB
          go_wp2
          go_roundw
          case rel => exact ⟨k + 1, v', by omega, by go_num, rfl, HO', HB'⟩
          case measure => simp [intOf]; omega
      · by_cases a1 : 97 ≤ c1
        · have q0 : c0 - 48 = v0 := by have := o05 a0; omega
          have q1 : c1 - 97 + 10 = v1 := by have := o14 a1; omega
          clear o04 o05 o14 o15
          go_wp2_with fail
          refine wp_loop_rounds 3 ?_
          rw [rounds_succ]; go_wp2_with fail
          rw [rounds_succ]; go_wp2_with fail
          rw [rounds_succ]
          go_wp2_with (at_builtin; refine wpList_append_own _ rfl (.tmp 36) (.tmp 38) 25 rfl w.heap.size 5 i0 (.int .u8 0) 1 1 Try.underlying25 hi hz0 hz1 hz2 rfl (by decide) _ k (List.map (Value.int .u8) (hxl (sd s) k)) rfl (HO.out.alloc _) ⟨wr.heap.size, 0, none⟩ 1 1 [.int .u8 (16 * v0 + v1)] rfl rfl (fun j u hu => one_news wr _ _ j u hu) (by intro u hu; simp at hu; rw [hu]; rfl) (by unfold maxLen; omega) (by omega) (by have := HB.out.size; simp; omega) ?_)
          intro v' w1 hown hg _
          have HO' : Hid (w1.ownsRow w.heap.size 5 1 v' (k + 1) (List.map (Value.int .u8) (hxl (sd s) (k + 1)))) := by unfold Hid; rw [HNX.out, List.map_append]; exact hown
          have HB' : Hid (Below w.heap.size w w1) := (HB.out.alloc HB.out.size _).grown hg (by have := HB.out.size; simp; omega) (fun j hj => ((HO.out.lt j hj).1))
          clear hown hg HO HB
          go_wp2
          go_roundw
          case rel => exact ⟨k + 1, v', by omega, by go_num, rfl, HO', HB'⟩
          case measure => simp [intOf]; omega
        · have q0 : c0 - 48 = v0 := by have := o05 a0; omega
          have q1 : c1 - 48 = v1 := by have := o15 a1; omega
          clear o04 o05 o14 o15
          go_wp2_with fail
          refine wp_loop_rounds 3 ?_
          rw [rounds_succ]; go_wp2_with fail
          rw [rounds_succ]; go_wp2_with fail
          rw [rounds_succ]
          go_wp2_with (at_builtin; refine wpList_append_own _ rfl (.tmp 36) (.tmp 38) 25 rfl w.heap.size 5 i0 (.int .u8 0) 1 1 Try.underlying25 hi hz0 hz1 hz2 rfl (by decide) _ k (List.map (Value.int .u8) (hxl (sd s) k)) rfl (HO.out.alloc _) ⟨wr.heap.size, 0, none⟩ 1 1 [.int .u8 (16 * v0 + v1)] rfl rfl (fun j u hu => one_news wr _ _ j u hu) (by intro u hu; simp at hu; rw [hu]; rfl) (by unfold maxLen; omega) (by omega) (by have := HB.out.size; simp; omega) ?_)
          intro v' w1 hown hg _
          have HO' : Hid (w1.ownsRow w.heap.size 5 1 v' (k + 1) (List.map (Value.int .u8) (hxl (sd s) (k + 1)))) := by unfold Hid; rw [HNX.out, List.map_append]; exact hown
          have HB' : Hid (Below w.heap.size w w1) := (HB.out.alloc HB.out.size _).grown hg (by have := HB.out.size; simp; omega) (fun j hj => ((HO.out.lt j hj).1))
          clear hown hg HO HB
          go_wp2
          go_roundw
          case rel => exact ⟨k + 1, v', by omega, by go_num, rfl, HO', HB'⟩
          case measure => simp [intOf]; omega
    · have e : k = n := by omega
      subst e
      go_wp2
      go_ret
      exact ⟨_, rfl, HO, HB.out⟩
end Go.Proofs.Ythacbicakbjgiaa
