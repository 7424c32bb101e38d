/-
  Chapter 12's example; numbers below 100 are written without a table. No statement of the seat is proved here.
-/
import Derived.Test.YtifcdmiopanedaaTI
import Derived.Test.YtifcdmiopanedaaTAs
import Derived.Test.YtifcdmiopanedaaTName
import Derived.Test.YtifcdmiopanedaaTDh
import Derived.Deep.RegionHeld3
namespace Go.Proofs.Ytifcdmiopanedaa
open Go.RowKit
set_option linter.unusedVariables false
set_option linter.unusedSimpArgs false

set_option maxRecDepth 100000 in
set_option maxHeartbeats 4000000 in
theorem inner_s (B : Nat) (i : Int) (s0 : 0 ≤ i) (s1 : i < 100) (sv : Value) (l : List UInt8) (w : World) (hown : Nm B w sv l) (hB : B ≤ w.heap.size) (hlim : l.length + 21 ≤ 140737488355328) :
    Calls Try.prog 32 #[sv, .int .i64 i, .int .i64 10] w fun e u => ∃ v', e = .returned v' ∧ Nm B u v' (l ++ Lib.itoa i) ∧ Fr B w u := by
  obtain ⟨u, rfl⟩ : ∃ u : Nat, i = u := ⟨i.toNat, by omega⟩
  have hc : Hid (∀ w', w' = w → Calls Try.prog 33 #[sv, .int .u64 u, .int .i64 10] w' fun e x => ∃ v', e = .returned v' ∧ Nm B x v' (l ++ Lib.itoa u) ∧ Fr B w x) := by
    rintro w' rfl
    refine (Any.internal_strconv_AppendUint_10_small (P := Try.prog) { lays176 with } B l.length u (by omega) sv (Lib.byteCells l) w' hown hB (by omega)).mono ?_
    rintro e x ⟨v', rfl, k1, k2, k3⟩
    refine ⟨v', rfl, ?_, k2, k3⟩
    unfold Nm
    rw [Lib.itoa_nonneg, List.length_append, show Lib.byteCells (l ++ Lib.decDigits u) = Lib.byteCells l ++ Lib.byteCells (Lib.decDigits u) by simp [Lib.byteCells]]
    exact k1
  clear hown
  have hw : IntKind.u64.wrap (u : Int) = u := by rw [IntKind.wrap_u64]; omega
  have hn : ¬ (u : Int) < 0 := by omega
  go_enter Try.func32, Try.ntmps32
  go_wp2_with fail
  refine (hc.out _ rfl).mono ?_
  rintro e x ⟨v', rfl, k1, k2⟩
  have K1 : Hid (Nm B x v' (l ++ Lib.itoa u)) := k1
  have K2 : Hid (Fr B w x) := k2
  clear k1 k2 hc
  go_wp2
  first | go_ret | go_ret2
  exact ⟨v', rfl, K1.out, K2.out⟩
set_option maxRecDepth 100000 in
set_option maxHeartbeats 4000000 in
theorem outer_s (B : Nat) (i : Int) (s0 : 0 ≤ i) (s1 : i < 100) (sv : Value) (l : List UInt8) (w : World) (hown : Nm B w sv l) (hB : B ≤ w.heap.size) (hlim : l.length + 21 ≤ 140737488355328) :
    Calls Try.prog 31 #[sv, .int .i64 i, .int .i64 10] w fun e u => ∃ v', e = .returned v' ∧ Nm B u v' (l ++ Lib.itoa i) ∧ Fr B w u := by
  have hc : Hid (∀ w', w' = w → Calls Try.prog 32 #[sv, .int .i64 i, .int .i64 10] w' fun e u => ∃ v', e = .returned v' ∧ Nm B u v' (l ++ Lib.itoa i) ∧ Fr B w u) := by
    rintro w' rfl
    exact inner_s B i s0 s1 sv l w' hown hB hlim
  have hw : IntKind.i64.wrap i = i := by rw [IntKind.wrap_i64]; omega
  clear hown
  go_enter Try.func31, Try.ntmps31
  go_wp2_with fail
  refine (hc.out _ rfl).mono ?_
  rintro e u ⟨v', rfl, k1, k2⟩
  have K1 : Hid (Nm B u v' (l ++ Lib.itoa i)) := k1
  have K2 : Hid (Fr B w u) := k2
  clear k1 k2 hc
  go_wp2
  go_ret
  exact ⟨v', rfl, K1.out, K2.out⟩
set_option maxRecDepth 100000 in
set_option maxHeartbeats 4000000 in
theorem number_s (B : Nat) (i : Int) (s0 : 0 ≤ i) (s1 : i < 100) (sv : Value) (l : List UInt8) (w : World) (hown : Nm B w sv l) (hB : B ≤ w.heap.size) (hlim : l.length + 21 ≤ 140737488355328) :
    Calls Try.prog 29 #[sv, .int .i64 i] w fun e u => ∃ v', e = .returned v' ∧ Nm B u v' (l ++ Lib.itoa i) ∧ Fr B w u := by
  have hc : Hid (∀ w', w' = w → Calls Try.prog 31 #[sv, .int .i64 i, .int .i64 10] w' fun e u => ∃ v', e = .returned v' ∧ Nm B u v' (l ++ Lib.itoa i) ∧ Fr B w u) := by
    rintro w' rfl
    exact outer_s B i s0 s1 sv l w' hown hB hlim
  have hw : IntKind.i64.wrap i = i := by rw [IntKind.wrap_i64]; omega
  clear hown
  go_enter Try.func29, Try.ntmps29
  go_wp2_with fail
  refine (hc.out _ rfl).mono ?_
  rintro e u ⟨v', rfl, k1, k2⟩
  have K1 : Hid (Nm B u v' (l ++ Lib.itoa i)) := k1
  have K2 : Hid (Fr B w u) := k2
  clear k1 k2 hc
  go_wp2
  go_ret
  exact ⟨v', rfl, K1.out, K2.out⟩
def WroteS (v : Value) (l : List UInt8) : Prop := ∀ (B : Nat) (sv : Value) (xs : List UInt8) (w : World), Nm B w sv xs → B ≤ w.heap.size → xs.length + l.length + 64 ≤ 140737488355328 → Calls Try.prog 28 #[sv, v] w fun e u => ∃ v', e = .returned v' ∧ Nm B u v' (xs ++ l) ∧ Fr B w u
set_option maxRecDepth 8000 in
set_option maxHeartbeats 4000000 in
theorem wroteS_Shared (n m : Int) (s0 : 0 ≤ n) (s1 : n < 100) (r0 : 0 ≤ m) (r1 : m < 100) (n0 : -9223372036854775808 ≤ n) (n1 : n ≤ 9223372036854775807) (m0 : -9223372036854775808 ≤ m) (m1 : m ≤ 9223372036854775807) : WroteS (.iface 49 (.agg #[.int .i64 n, .int .i64 m])) (shN n m) := by
  intro B sv xs w hown hB hlim
  have fEmpty := as_Shared_Empty (.agg #[.int .i64 n, .int .i64 m])
  have fAtom := as_Shared_Atom (.agg #[.int .i64 n, .int .i64 m])
  have fPublic := as_Shared_Public (.agg #[.int .i64 n, .int .i64 m])
  have fShared := as_Shared_Shared (.agg #[.int .i64 n, .int .i64 m])
  have HM : Hid (xs.length + (shN n m).length + 64 ≤ 140737488355328) := hlim
  have HS : Hid (B ≤ w.heap.size) := hB
  have HN : Hid (Nm B w sv xs) := hown
  clear hown hlim hB
  have HQ0 : Hid (Blk w.heap.size 49 [.int .i64 n, .int .i64 m] (w.alloc (.cells #[.int .i64 n, .int .i64 m] 49))) := Blk.new w 49 [.int .i64 n, .int .i64 m]
  replace HN : Hid (Nm B (w.alloc (.cells #[.int .i64 n, .int .i64 m] 49)) sv xs) := HN.out.alloc _
  have HF : Hid (Fr B w (w.alloc (.cells #[.int .i64 n, .int .i64 m] 49))) := (Fr.refl B w).alloc HS.out _
  go_enter Try.func28, Try.ntmps28
  go_upto_region 16 with fail
  obtain ⟨W0, hW0⟩ : ∃ z, z = (w.alloc (.cells #[.int .i64 n, .int .i64 m] 49)) := ⟨_, rfl⟩
  obtain ⟨q, hq⟩ : ∃ z, z = w.heap.size := ⟨_, rfl⟩
  rw [← hW0, ← hq] at HQ0
  rw [← hW0] at HN HF
  rw [← hW0, ← hq]
  clear hW0 hq
  clear fEmpty fAtom fPublic fShared
  refine wp_region_noPanic ?_
  refine wp_region_held_drew (S := Blk q 49 [.int .i64 n, .int .i64 m]) (by kernel_rfl) HQ0.out.drew (fun hH => ?_)
  change wpAnyH _ _ _ _ _ _ #[false, false, false, false, false, false, false] _ _
  refine wpAnyH_take (i := 0) (oi := ?o0s0) (v := ?v0s0) ?h0s0 (by kernel_rfl) ?f0s0 ?r0s0 (fun _ _ _ h => h) (Or.inl ⟨?w0s0, ?y0s0⟩) (by assumption) ?t0s0
  case h0s0 => simp only [List.getElem?_toArray]; rfl
  case f0s0 => kernel_rfl
  case r0s0 => kernel_rfl
  case w0s0 => rfl
  case y0s0 => (intro u hu; (go_simp) <;> with_reducible rfl)
  try simp only [Act.put, List.setIfInBounds_toArray, List.set_cons_zero, List.set_cons_succ]
  refine wpAnyH_take (i := 3) (oi := ?o3s0) (v := ?v3s0) ?h3s0 (by kernel_rfl) ?f3s0 ?r3s0 (fun _ _ _ h => h) (Or.inl ⟨?w3s0, ?y3s0⟩) (by assumption) ?t3s0
  case h3s0 => simp only [List.getElem?_toArray]; rfl
  case f3s0 => kernel_rfl
  case r3s0 => kernel_rfl
  case w3s0 => rfl
  case y3s0 => (intro u hu; (go_simp) <;> with_reducible rfl)
  try simp only [Act.put, List.setIfInBounds_toArray, List.set_cons_zero, List.set_cons_succ]
  refine wpAnyH_take (i := 4) (oi := ?o4s0) (v := ?v4s0) ?h4s0 (by kernel_rfl) ?f4s0 ?r4s0 (fun _ _ _ h => h) (Or.inl ⟨?w4s0, ?y4s0⟩) (by assumption) ?t4s0
  case h4s0 => simp only [List.getElem?_toArray]; rfl
  case f4s0 => kernel_rfl
  case r4s0 => kernel_rfl
  case w4s0 => rfl
  case y4s0 => (intro u hu; (have hx := hu.cell (o := 0) rfl; go_simp) <;> with_reducible rfl)
  try simp only [Act.put, List.setIfInBounds_toArray, List.set_cons_zero, List.set_cons_succ]
  refine wpAnyH_ready (rs := [1]) (by kernel_rfl) (by simp) ?_
  refine AllReadyH.cons (o := ?o1s0) ?h1s0 (fun K hK => ?_) AllReadyH.nil
  case h1s0 => simp only [List.getElem?_toArray]; rfl
  go_simp
  refine hK.out _ _ (hH.alloc _) (fun hH' => ?_)
  clear hK K hH
  have hH := hH'
  clear hH'
  try simp only [List.setIfInBounds_toArray, List.set]
  have hN : Nm B (W0.drew.alloc (.cells #[.int .u8 (115 : UInt8).toNat] 5)) sv xs := HN.out.drew.alloc _
  have hF : Fr B w (W0.drew.alloc (.cells #[.int .u8 (115 : UInt8).toNat] 5)) := HF.out.drew.alloc HS.out _
  have hC := (Blk.new W0.drew 5 [.int .u8 (115 : UInt8).toNat]).cell (o := 0) rfl
  refine wpAnyH_ready (rs := [2]) (by kernel_rfl) (by simp) ?_
  refine AllReadyH.cons (o := ?o2s0) ?h2s0 (fun K hK => ?_) AllReadyH.nil
  case h2s0 => simp only [List.getElem?_toArray]; rfl
  refine step_ab B _ _ 115 _ _ hN (hF.le HS.out) (by have h_ := HM.out; have i1_ := Lib.itoa_length_le 0 (by decide) (by decide); simp only [shN, chN, dgN, bxN, List.length_append, List.length_cons, List.length_nil] at h_ ⊢; omega) hC (by rfl) _ _ (by rfl) (by rfl) (by rfl) ?_
  intro v0a u0a K1 K2
  have hF1 : Fr B w u0a := hF.trans K2
  refine hK.out _ _ (hH.fr (by decide) K2) (fun hH' => ?_)
  clear hK K hH
  have hH := hH'
  clear hH'
  try simp only [List.setIfInBounds_toArray, List.set]
  clear hN hF hC K2
  refine wpAnyH_ready (rs := [5]) (by kernel_rfl) (by simp) ?_
  refine AllReadyH.cons (o := ?o5s0) ?h5s0 (fun K hK => ?_) AllReadyH.nil
  case h5s0 => simp only [List.getElem?_toArray]; rfl
  go_simp
  refine (number_s B n s0 s1 _ _ _ K1 (hF1.le HS.out) (by have h_ := HM.out; have i1_ := Lib.itoa_length_le 0 (by decide) (by decide); simp only [shN, chN, dgN, bxN, List.length_append, List.length_cons, List.length_nil] at h_ ⊢; have it0 := Lib.itoa_length_le n n0 n1; have it1 := Lib.itoa_length_le m m0 m1; omega)).mono ?_
  rintro e u0b ⟨v0b, rfl, K3, K4⟩
  have hF2 : Fr B w u0b := hF1.trans K4
  refine hK.out _ _ (hH.fr (by decide) K4) (fun hH' => ?_)
  clear hK K hH
  have hH := hH'
  clear hH'
  try simp only [List.setIfInBounds_toArray, List.set]
  clear hF1 K1 K4
  refine wpAnyH_take (i := 6) (oi := ?o6s0) (v := ?v6s0) ?h6s0 (by kernel_rfl) ?f6s0 ?r6s0 (fun _ _ _ h => h) (Or.inl ⟨?w6s0, ?y6s0⟩) (by assumption) ?t6s0
  case h6s0 => simp only [List.getElem?_toArray]; rfl
  case f6s0 => kernel_rfl
  case r6s0 => kernel_rfl
  case w6s0 => rfl
  case y6s0 => (intro u hu; (go_simp) <;> with_reducible rfl)
  try simp only [Act.put, List.setIfInBounds_toArray, List.set_cons_zero, List.set_cons_succ]
  refine wpAnyH_done (by kernel_rfl) ?_ _
  refine NoPanic.normal ?_
  have HQ1 : Hid (Blk q 49 [.int .i64 n, .int .i64 m] u0b) := hH
  have HN : Hid (Nm B u0b v0b (xs ++ [115] ++ Lib.itoa n)) := K3
  have HF : Hid (Fr B w u0b) := hF2
  clear K3 hF2 hH
  go_upto_region 17 with fail
  refine wp_region_noPanic ?_
  refine wp_region_held_drew (S := Blk q 49 [.int .i64 n, .int .i64 m]) (by kernel_rfl) HQ1.out.drew (fun hH => ?_)
  change wpAnyH _ _ _ _ _ _ #[false, false, false, false, false, false, false] _ _
  refine wpAnyH_take (i := 0) (oi := ?o0s1) (v := ?v0s1) ?h0s1 (by kernel_rfl) ?f0s1 ?r0s1 (fun _ _ _ h => h) (Or.inl ⟨?w0s1, ?y0s1⟩) (by assumption) ?t0s1
  case h0s1 => simp only [List.getElem?_toArray]; rfl
  case f0s1 => kernel_rfl
  case r0s1 => kernel_rfl
  case w0s1 => rfl
  case y0s1 => (intro u hu; (go_simp) <;> with_reducible rfl)
  try simp only [Act.put, List.setIfInBounds_toArray, List.set_cons_zero, List.set_cons_succ]
  refine wpAnyH_take (i := 3) (oi := ?o3s1) (v := ?v3s1) ?h3s1 (by kernel_rfl) ?f3s1 ?r3s1 (fun _ _ _ h => h) (Or.inl ⟨?w3s1, ?y3s1⟩) (by assumption) ?t3s1
  case h3s1 => simp only [List.getElem?_toArray]; rfl
  case f3s1 => kernel_rfl
  case r3s1 => kernel_rfl
  case w3s1 => rfl
  case y3s1 => (intro u hu; (go_simp) <;> with_reducible rfl)
  try simp only [Act.put, List.setIfInBounds_toArray, List.set_cons_zero, List.set_cons_succ]
  refine wpAnyH_take (i := 4) (oi := ?o4s1) (v := ?v4s1) ?h4s1 (by kernel_rfl) ?f4s1 ?r4s1 (fun _ _ _ h => h) (Or.inl ⟨?w4s1, ?y4s1⟩) (by assumption) ?t4s1
  case h4s1 => simp only [List.getElem?_toArray]; rfl
  case f4s1 => kernel_rfl
  case r4s1 => kernel_rfl
  case w4s1 => rfl
  case y4s1 => (intro u hu; (have hx := hu.cell (o := 1) rfl; go_simp) <;> with_reducible rfl)
  try simp only [Act.put, List.setIfInBounds_toArray, List.set_cons_zero, List.set_cons_succ]
  refine wpAnyH_ready (rs := [1]) (by kernel_rfl) (by simp) ?_
  refine AllReadyH.cons (o := ?o1s1) ?h1s1 (fun K hK => ?_) AllReadyH.nil
  case h1s1 => simp only [List.getElem?_toArray]; rfl
  go_simp
  refine hK.out _ _ (hH.alloc _) (fun hH' => ?_)
  clear hK K hH
  have hH := hH'
  clear hH'
  try simp only [List.setIfInBounds_toArray, List.set]
  have hN : Nm B (u0b.drew.alloc (.cells #[.int .u8 (46 : UInt8).toNat] 5)) v0b (xs ++ [115] ++ Lib.itoa n) := HN.out.drew.alloc _
  have hF : Fr B w (u0b.drew.alloc (.cells #[.int .u8 (46 : UInt8).toNat] 5)) := HF.out.drew.alloc HS.out _
  have hC := (Blk.new u0b.drew 5 [.int .u8 (46 : UInt8).toNat]).cell (o := 0) rfl
  refine wpAnyH_ready (rs := [2]) (by kernel_rfl) (by simp) ?_
  refine AllReadyH.cons (o := ?o2s1) ?h2s1 (fun K hK => ?_) AllReadyH.nil
  case h2s1 => simp only [List.getElem?_toArray]; rfl
  refine step_ab B _ _ 46 _ _ hN (hF.le HS.out) (by have h_ := HM.out; have i1_ := Lib.itoa_length_le 0 (by decide) (by decide); simp only [shN, chN, dgN, bxN, List.length_append, List.length_cons, List.length_nil] at h_ ⊢; omega) hC (by rfl) _ _ (by rfl) (by rfl) (by rfl) ?_
  intro v1a u1a K1 K2
  have hF1 : Fr B w u1a := hF.trans K2
  refine hK.out _ _ (hH.fr (by decide) K2) (fun hH' => ?_)
  clear hK K hH
  have hH := hH'
  clear hH'
  try simp only [List.setIfInBounds_toArray, List.set]
  clear hN hF hC K2
  refine wpAnyH_ready (rs := [5]) (by kernel_rfl) (by simp) ?_
  refine AllReadyH.cons (o := ?o5s1) ?h5s1 (fun K hK => ?_) AllReadyH.nil
  case h5s1 => simp only [List.getElem?_toArray]; rfl
  go_simp
  refine (number_s B m r0 r1 _ _ _ K1 (hF1.le HS.out) (by have h_ := HM.out; have i1_ := Lib.itoa_length_le 0 (by decide) (by decide); simp only [shN, chN, dgN, bxN, List.length_append, List.length_cons, List.length_nil] at h_ ⊢; have it0 := Lib.itoa_length_le n n0 n1; have it1 := Lib.itoa_length_le m m0 m1; omega)).mono ?_
  rintro e u1b ⟨v1b, rfl, K3, K4⟩
  have hF2 : Fr B w u1b := hF1.trans K4
  refine hK.out _ _ (hH.fr (by decide) K4) (fun hH' => ?_)
  clear hK K hH
  have hH := hH'
  clear hH'
  try simp only [List.setIfInBounds_toArray, List.set]
  clear hF1 K1 K4
  refine wpAnyH_take (i := 6) (oi := ?o6s1) (v := ?v6s1) ?h6s1 (by kernel_rfl) ?f6s1 ?r6s1 (fun _ _ _ h => h) (Or.inl ⟨?w6s1, ?y6s1⟩) (by assumption) ?t6s1
  case h6s1 => simp only [List.getElem?_toArray]; rfl
  case f6s1 => kernel_rfl
  case r6s1 => kernel_rfl
  case w6s1 => rfl
  case y6s1 => (intro u hu; (go_simp) <;> with_reducible rfl)
  try simp only [Act.put, List.setIfInBounds_toArray, List.set_cons_zero, List.set_cons_succ]
  refine wpAnyH_done (by kernel_rfl) ?_ _
  refine NoPanic.normal ?_
  have HQ2 : Hid (Blk q 49 [.int .i64 n, .int .i64 m] u1b) := hH
  have HN : Hid (Nm B u1b v1b ((xs ++ [115] ++ Lib.itoa n) ++ [46] ++ Lib.itoa m)) := K3
  have HF : Hid (Fr B w u1b) := hF2
  clear K3 hF2 hH
  go_wp2
  go_ret
  refine ⟨v1b, rfl, ?_, HF.out⟩
  have e_ : xs ++ (shN n m) = ((xs ++ [115] ++ Lib.itoa n) ++ [46] ++ Lib.itoa m) := by simp [shN, chN, dgN, bxN]
  rw [e_]
  exact HN.out
set_option maxRecDepth 8000 in
set_option maxHeartbeats 4000000 in
theorem named_s {v : Value} {l : List UInt8} (h : WroteS v l) (hp : 0 < l.length) (hl : l.length + 64 ≤ 140737488355328) (w : World) :
    Calls Try.prog 27 #[v] w fun e u => e = .returned (.string ⟨l.toArray⟩) ∧ Below w.heap.size w u := by
  have HC : Hid (∀ w', w' = w → Calls Try.prog 28 #[.slice none 0 0, v] w' fun e u => ∃ v', e = .returned v' ∧ Nm w.heap.size u v' l ∧ Below w.heap.size w u) := by
    rintro w' rfl
    refine (h w'.heap.size (.slice none 0 0) [] w' (World.ownsRow_nil _ _ _ _) (Nat.le_refl _) (by simpa using hl)).mono ?_
    rintro e u ⟨v', rfl, k1, k2⟩
    exact ⟨v', rfl, by simpa using k1, k2.bel⟩
  have HP : Hid (0 < l.length) := hp
  clear h hp hl
  go_enter Try.func27, Try.ntmps27
  go_wp2_with fail
  refine (HC.out _ rfl).mono ?_
  rintro e u ⟨v', rfl, k1, k2⟩
  have HB : Hid (Below w.heap.size w u) := k2
  clear k2 HC
  rcases k1.2 with ⟨-, h0⟩ | ⟨g, cap, cur, rfl, -, -, -, -, -, -⟩
  · have := HP.out; omega
  · have hcv := run_convert_bytes_back (P := Try.prog) u 72 9 5 ⟨g, 0, none⟩ cap l Try.underlying72 Try.underlying5 Try.underlying9 (fun j hj => k1.cells (g := g) rfl j _ (by simp [Lib.byteCells, hj]))
    clear k1
    go_wp2
    go_ret
    exact ⟨rfl, HB.out⟩
set_option maxRecDepth 8000 in
set_option maxHeartbeats 4000000 in
theorem nameS_Shared (n m : Int) (s0 : 0 ≤ n) (s1 : n < 100) (r0 : 0 ≤ m) (r1 : m < 100) (n0 : -9223372036854775808 ≤ n) (n1 : n ≤ 9223372036854775807) (m0 : -9223372036854775808 ≤ m) (m1 : m ≤ 9223372036854775807) (hl : (shN n m).length + 64 ≤ 140737488355328) (w : World) : Calls Try.prog 50 #[(.agg #[.int .i64 n, .int .i64 m])] w fun e u => e = .returned (.string ⟨(shN n m).toArray⟩) ∧ Below w.heap.size w u := by
  have H1 : Hid (∀ w, Calls Try.prog 27 #[.iface 49 (.agg #[.int .i64 n, .int .i64 m])] w fun e u => e = .returned (.string ⟨(shN n m).toArray⟩) ∧ Below w.heap.size w u) := fun w => named_s (wroteS_Shared n m s0 s1 r0 r1 n0 n1 m0 m1) (by simp [shN, chN, dgN, bxN]) hl w
  have HB0 : Hid (Below w.heap.size w (w.alloc (.cells #[.int .i64 n, .int .i64 m] 49))) := bel1 w _
  have hR : (w.alloc (.cells #[.int .i64 n, .int .i64 m] 49)).rangeAt w.heap.size 0 [.int .i64 n, .int .i64 m] := fun j v hv => by
    rw [Nat.zero_add, cell_of_row _ _ _ _ _ _ (heap_alloc_new w _)]
    simpa using hv
  have hld := run_loadVar_mid (P := Try.prog) _ _ 0 49 _ _ hR Try.underlying49 rfl (by kernel_rfl)
  clear hl hR
  go_enter Try.func50, Try.ntmps50
  go_wp2_with fail
  refine (H1.out _).mono ?_
  rintro e u ⟨rfl, hb⟩
  have HB : Hid (Below w.heap.size w u) := HB0.out.trans (hb.mono HB0.out.size)
  clear hb HB0 H1 hld
  go_wp2
  go_ret
  exact ⟨rfl, HB.out⟩
theorem dh_53 (w : World) : Calls Try.prog 9 #[.int .i64 5, .iface 47 (.agg #[.int .i64 3])] w fun e u => e = .returned (.tuple #[.iface 49 (.agg #[.int .i64 3, .int .i64 5]), .bool true]) ∧ Below w.heap.size w u := by
  have h := dh_yes 5 3 w
  have e1 : min (5 : Int) 3 = 3 := by decide
  have e2 : max (5 : Int) 3 = 5 := by decide
  rw [e1, e2] at h
  exact h
theorem sh35 : (⟨(shN 3 5).toArray⟩ : ByteArray) = ⟨#[115, 51, 46, 53]⟩ := by kernel_rfl
set_option maxRecDepth 8000 in
set_option maxHeartbeats 4000000 in
theorem known_s (w : World) : Calls Try.prog 6 #[] w fun e u => e = .returned (.bool true) ∧ Below w.heap.size w u := by
  have HD : Hid (∀ w, Calls Try.prog 9 #[.int .i64 5, .iface 47 (.agg #[.int .i64 3])] w fun e u => e = .returned (.tuple #[.iface 49 (.agg #[.int .i64 3, .int .i64 5]), .bool true]) ∧ Below w.heap.size w u) := dh_53
  have HM : Hid (∀ w, Calls Try.prog 50 #[.agg #[.int .i64 3, .int .i64 5]] w fun e u => e = .returned (.string ⟨#[115, 51, 46, 53]⟩) ∧ Below w.heap.size w u) := fun w => by have h := nameS_Shared 3 5 (by omega) (by omega) (by omega) (by omega) (by omega) (by omega) (by omega) (by omega) (by have h1 := Lib.itoa_length_le 3 (by omega) (by omega); have h2 := Lib.itoa_length_le 5 (by omega) (by omega); unfold shN; simp only [List.length_append, List.length_cons]; omega) w; rw [sh35] at h; exact h
  have hm : ∀ w, (method 196 49 (.agg #[.int .i64 3, .int .i64 5]) "Name").run Try.prog w = .ok (50, .agg #[.int .i64 3, .int .i64 5]) w := fun _ => by kernel_rfl
  have hs := as_Shared_Shared (.agg #[.int .i64 3, .int .i64 5])
  go_enter Try.func6, Try.ntmps6
  go_wp2_with fail
  refine (HD.out _).mono ?_
  rintro e u ⟨rfl, hb⟩
  have HB1 : Hid (Below w.heap.size w u) := hb
  have HB2 : Hid (Below w.heap.size w (u.alloc (.cells #[.int .i64 3, .int .i64 5] 49))) := hb.trans ((bel1 u _).mono hb.size)
  have k0 : (u.alloc (.cells #[.int .i64 3, .int .i64 5] 49)).cell? ⟨u.heap.size, 0, none⟩ = some (.int .i64 3) := by rw [cell_of_row _ _ _ _ _ _ (heap_alloc_new u _)]; rfl
  have k1 : (u.alloc (.cells #[.int .i64 3, .int .i64 5] 49)).cell? ⟨u.heap.size, 1, none⟩ = some (.int .i64 5) := by rw [cell_of_row _ _ _ _ _ _ (heap_alloc_new u _)]; rfl
  clear hb HD
  go_wp2_with fail
  refine (HM.out _).mono ?_
  rintro e u2 ⟨rfl, hb⟩
  have HB3 : Hid (Below w.heap.size w u2) := HB2.out.trans (hb.mono HB2.out.size)
  clear hb HB1 HB2 HM
  go_wp2
  go_ret
  exact ⟨rfl, HB3.out⟩
end Go.Proofs.Ytifcdmiopanedaa
