/-
  The reference's terms in memory, and what portholeref12's Name does. No statement of the seat is proved here.
-/
import Derived.Test.YtifcdmiopanedaaDoorTDig
namespace Go.Proofs.YtifcdmiopanedaaDoor
open Go.RowKit

/-- The cells of a reference's term with a name. -/
def Rt (u : World) (base : Nat) (cs : List Value) (l : List UInt8) : Prop := ∀ P : List Value → List UInt8 → Prop,
  (∀ n m, P [.int .i64 0, .int .i64 n, .int .i64 m, .slice none 0 0] [63]) →
  (∀ n m, P [.int .i64 1, .int .i64 n, .int .i64 m, .slice none 0 0] [95]) →
  (∀ n m, -9223372036854775808 ≤ n → n ≤ 9223372036854775807 → P [.int .i64 2, .int .i64 n, .int .i64 m, .slice none 0 0] (97 :: Lib.itoa n)) →
  (∀ n m, -9223372036854775808 ≤ n → n ≤ 9223372036854775807 → P [.int .i64 3, .int .i64 n, .int .i64 m, .slice none 0 0] (112 :: Lib.itoa n)) →
  (∀ n m, -9223372036854775808 ≤ n → n ≤ 9223372036854775807 → -9223372036854775808 ≤ m → m ≤ 9223372036854775807 → P [.int .i64 4, .int .i64 n, .int .i64 m, .slice none 0 0] (shN n m)) →
  (∀ n m g o c x y a b, -9223372036854775808 ≤ n → n ≤ 9223372036854775807 → base ≤ g → x.length = 4 → y.length = 4 → u.rangeAt g o (x ++ y) → P x a → P y b → P [.int .i64 5, .int .i64 n, .int .i64 m, (.slice (some ⟨g, o, none⟩) 2 c)] (chN n a b)) →
  (∀ n m g o c x y a b, base ≤ g → x.length = 4 → y.length = 4 → u.rangeAt g o (x ++ y) → P x a → P y b → P [.int .i64 6, .int .i64 n, .int .i64 m, (.slice (some ⟨g, o, none⟩) 2 c)] (dgN a b)) →
  (∀ n m g o c x y z a b d, -9223372036854775808 ≤ n → n ≤ 9223372036854775807 → base ≤ g → x.length = 4 → y.length = 4 → z.length = 4 → u.rangeAt g o (x ++ (y ++ z)) → P x a → P y b → P z d → P [.int .i64 7, .int .i64 n, .int .i64 m, (.slice (some ⟨g, o, none⟩) 3 c)] (bxN n a b d)) → P cs l
theorem Rt.later {u u' : World} {base : Nat} {cs : List Value} {l : List UInt8} (h : Rt u base cs l) (hb : Below u.heap.size u u') : Rt u' base cs l := by
  intro P h0 h1 h2 h3 h4 h5 h6 h7
  exact h P h0 h1 h2 h3 h4 (fun n m g o c x y a b n0 n1 hg hx hy hr ha hb' => h5 n m g o c x y a b n0 n1 hg hx hy (range_later hb hr) ha hb')
    (fun n m g o c x y a b hg hx hy hr ha hb' => h6 n m g o c x y a b hg hx hy (range_later hb hr) ha hb')
    (fun n m g o c x y z a b d n0 n1 hg hx hy hz hr ha hb' hd => h7 n m g o c x y z a b d n0 n1 hg hx hy hz (range_later hb hr) ha hb' hd)
theorem Rt.mono {u : World} {base base' : Nat} {cs : List Value} {l : List UInt8} (h : Rt u base cs l) (hle : base' ≤ base) : Rt u base' cs l := by
  intro P h0 h1 h2 h3 h4 h5 h6 h7
  exact h P h0 h1 h2 h3 h4 (fun n m g o c x y a b n0 n1 hg hx hy hr ha hb' => h5 n m g o c x y a b n0 n1 (Nat.le_trans hle hg) hx hy hr ha hb')
    (fun n m g o c x y a b hg hx hy hr ha hb' => h6 n m g o c x y a b (Nat.le_trans hle hg) hx hy hr ha hb')
    (fun n m g o c x y z a b d n0 n1 hg hx hy hz hr ha hb' hd => h7 n m g o c x y z a b d n0 n1 (Nat.le_trans hle hg) hx hy hz hr ha hb' hd)
theorem Rt.extb {u u' : World} {base q : Nat} {cs : List Value} {l : List UInt8} (h : Rt u base cs l) (hb : ExtB q u u') (hq : q < base) : Rt u' base cs l := by
  intro P h0 h1 h2 h3 h4 h5 h6 h7
  exact h P h0 h1 h2 h3 h4 (fun n m g o c x y a b n0 n1 hg hx hy hr ha hb' => h5 n m g o c x y a b n0 n1 hg hx hy (fun j v hv => hb.cell (by omega) (hr j v hv)) ha hb')
    (fun n m g o c x y a b hg hx hy hr ha hb' => h6 n m g o c x y a b hg hx hy (fun j v hv => hb.cell (by omega) (hr j v hv)) ha hb')
    (fun n m g o c x y z a b d n0 n1 hg hx hy hz hr ha hb' hd => h7 n m g o c x y z a b d n0 n1 hg hx hy hz (fun j v hv => hb.cell (by omega) (hr j v hv)) ha hb' hd)
theorem Rt.chain {u : World} {base : Nat} (n : Int) {m : Int} {g o c : Nat} {x y : List Value} {a b : List UInt8} (n0 : -9223372036854775808 ≤ n) (n1 : n ≤ 9223372036854775807) (hg : base ≤ g) (hx : x.length = 4) (hy : y.length = 4) (hr : u.rangeAt g o (x ++ y)) (ha : Rt u base x a) (hb : Rt u base y b) : Rt u base [.int .i64 5, .int .i64 n, .int .i64 m, .slice (some ⟨g, o, none⟩) 2 c] (chN n a b) :=
  fun P h0 h1 h2 h3 h4 h5 h6 h7 => h5 n m g o c x y a b n0 n1 hg hx hy hr (ha P h0 h1 h2 h3 h4 h5 h6 h7) (hb P h0 h1 h2 h3 h4 h5 h6 h7)
theorem Rt.digest {u : World} {base : Nat} {n m : Int} {g o c : Nat} {x y : List Value} {a b : List UInt8} (hg : base ≤ g) (hx : x.length = 4) (hy : y.length = 4) (hr : u.rangeAt g o (x ++ y)) (ha : Rt u base x a) (hb : Rt u base y b) : Rt u base [.int .i64 6, .int .i64 n, .int .i64 m, .slice (some ⟨g, o, none⟩) 2 c] (dgN a b) :=
  fun P h0 h1 h2 h3 h4 h5 h6 h7 => h6 n m g o c x y a b hg hx hy hr (ha P h0 h1 h2 h3 h4 h5 h6 h7) (hb P h0 h1 h2 h3 h4 h5 h6 h7)
theorem Rt.box {u : World} {base : Nat} (n : Int) {m : Int} {g o c : Nat} {x y z : List Value} {a b d : List UInt8} (n0 : -9223372036854775808 ≤ n) (n1 : n ≤ 9223372036854775807) (hg : base ≤ g) (hx : x.length = 4) (hy : y.length = 4) (hz : z.length = 4) (hr : u.rangeAt g o (x ++ (y ++ z))) (ha : Rt u base x a) (hb : Rt u base y b) (hd : Rt u base z d) : Rt u base [.int .i64 7, .int .i64 n, .int .i64 m, .slice (some ⟨g, o, none⟩) 3 c] (bxN n a b d) :=
  fun P h0 h1 h2 h3 h4 h5 h6 h7 => h7 n m g o c x y z a b d n0 n1 hg hx hy hz hr (ha P h0 h1 h2 h3 h4 h5 h6 h7) (hb P h0 h1 h2 h3 h4 h5 h6 h7) (hd P h0 h1 h2 h3 h4 h5 h6 h7)
theorem itoa_small {n : Int} (h0 : -9223372036854775808 ≤ n) (h1 : n ≤ 9223372036854775807) : (Lib.itoa n).length ≤ 21 := by
  unfold Lib.itoa
  split
  · rw [List.length_cons, Lib.decDigits_length]
    have := Lib.nDigits_le20 n.natAbs (by omega)
    omega
  · rw [Lib.decDigits_length]
    have := Lib.nDigits_le20 n.toNat (by omega)
    omega
theorem size_of (l : List UInt8) : (⟨l.toArray⟩ : ByteArray).size = l.length := by
  show l.toArray.size = _
  rw [List.size_toArray]
theorem text_app (a b : List UInt8) : (⟨a.toArray⟩ : ByteArray) ++ ⟨b.toArray⟩ = ⟨(a ++ b).toArray⟩ := by
  apply ByteArray.ext
  simp
/-- What is claimed of a term's cells. -/
def Named (u : World) (cs : List Value) (l : List UInt8) : Prop := l.length ≤ 4611686018427387904 → ∀ w, Below u.heap.size u w → Calls Tryd.prog 26 #[.agg cs.toArray] w fun e w' => e = .returned (.string ⟨l.toArray⟩) ∧ Below w.heap.size w w'
set_option maxRecDepth 8000 in
set_option maxHeartbeats 4000000 in
theorem named_none (u : World) (n m : Int) (x : Value) : Named u [.int .i64 0, .int .i64 n, .int .i64 m, x] [63] := by
  intro _ w hb
  go_enter Tryd.func26, Tryd.ntmps26
  go_wp2
  go_ret
  exact ⟨rfl, bel1 _ _⟩
set_option maxRecDepth 8000 in
set_option maxHeartbeats 4000000 in
theorem named_empty (u : World) (n m : Int) (x : Value) : Named u [.int .i64 1, .int .i64 n, .int .i64 m, x] [95] := by
  intro _ w hb
  go_enter Tryd.func26, Tryd.ntmps26
  go_wp2
  go_ret
  exact ⟨rfl, bel1 _ _⟩
set_option maxRecDepth 8000 in
set_option maxHeartbeats 4000000 in
theorem named_atom (u : World) (n m : Int) (x : Value) (n0 : -9223372036854775808 ≤ n) (n1 : n ≤ 9223372036854775807) : Named u [.int .i64 2, .int .i64 n, .int .i64 m, x] (97 :: Lib.itoa n) := by
  intro _ w hb
  go_enter Tryd.func26, Tryd.ntmps26
  go_wp2_with fail
  refine (digits_c n ⟨n0, n1⟩ _).mono ?_
  rintro e V ⟨rfl, hb1⟩
  have hsz := itoa_small n0 n1
  obtain ⟨sD, hsD⟩ : ∃ z, z = (⟨(Lib.itoa n).toArray⟩ : ByteArray) := ⟨_, rfl⟩
  have hap : (⟨#[97]⟩ : ByteArray) ++ sD = ⟨(97 :: Lib.itoa n).toArray⟩ := by rw [hsD]; exact text_app [97] _
  have h20 : sD.size ≤ 21 := by rw [hsD, size_of]; exact hsz
  have q9 : ¬ 9223372036854775807 < (⟨#[97]⟩ : ByteArray).size + sD.size := by
    have : (⟨#[97]⟩ : ByteArray).size = 1 := rfl
    omega
  have q8 : ¬ 9223372036854775807 < 1 + sD.size := by omega
  rw [← hsD]
  clear hsD hsz
  have hb2 := (bel1 w _).trans (hb1.mono (bel1 w (.cells #[.int .i64 2, .int .i64 n, .int .i64 m, x] 52)).size)
  go_wp2
  go_ret
  exact ⟨rfl, hb2⟩
set_option maxRecDepth 8000 in
set_option maxHeartbeats 4000000 in
theorem named_pub (u : World) (n m : Int) (x : Value) (n0 : -9223372036854775808 ≤ n) (n1 : n ≤ 9223372036854775807) : Named u [.int .i64 3, .int .i64 n, .int .i64 m, x] (112 :: Lib.itoa n) := by
  intro _ w hb
  go_enter Tryd.func26, Tryd.ntmps26
  go_wp2_with fail
  refine (digits_c n ⟨n0, n1⟩ _).mono ?_
  rintro e V ⟨rfl, hb1⟩
  have hsz := itoa_small n0 n1
  obtain ⟨sD, hsD⟩ : ∃ z, z = (⟨(Lib.itoa n).toArray⟩ : ByteArray) := ⟨_, rfl⟩
  have hap : (⟨#[112]⟩ : ByteArray) ++ sD = ⟨(112 :: Lib.itoa n).toArray⟩ := by rw [hsD]; exact text_app [112] _
  have h20 : sD.size ≤ 21 := by rw [hsD, size_of]; exact hsz
  have q9 : ¬ 9223372036854775807 < (⟨#[112]⟩ : ByteArray).size + sD.size := by
    have : (⟨#[112]⟩ : ByteArray).size = 1 := rfl
    omega
  have q8 : ¬ 9223372036854775807 < 1 + sD.size := by omega
  rw [← hsD]
  clear hsD hsz
  have hb2 := (bel1 w _).trans (hb1.mono (bel1 w (.cells #[.int .i64 3, .int .i64 n, .int .i64 m, x] 52)).size)
  go_wp2
  go_ret
  exact ⟨rfl, hb2⟩
set_option maxRecDepth 8000 in
set_option maxHeartbeats 4000000 in
theorem named_shared (u : World) (n m : Int) (x : Value) (n0 : -9223372036854775808 ≤ n) (n1 : n ≤ 9223372036854775807) (m0 : -9223372036854775808 ≤ m) (m1 : m ≤ 9223372036854775807) : Named u [.int .i64 4, .int .i64 n, .int .i64 m, x] (shN n m) := by
  intro hl w hb
  have hb0 := bel1 w (.cells #[.int .i64 4, .int .i64 n, .int .i64 m, x] 52)
  have c1 : (w.alloc (.cells #[.int .i64 4, .int .i64 n, .int .i64 m, x] 52)).cell? ⟨w.heap.size, 1, none⟩ = some (.int .i64 n) := by rw [cell_of_row _ _ _ _ _ _ (heap_alloc_new w _)]; rfl
  have c2 : (w.alloc (.cells #[.int .i64 4, .int .i64 n, .int .i64 m, x] 52)).cell? ⟨w.heap.size, 2, none⟩ = some (.int .i64 m) := by rw [cell_of_row _ _ _ _ _ _ (heap_alloc_new w _)]; rfl
  have c3 : (w.alloc (.cells #[.int .i64 4, .int .i64 n, .int .i64 m, x] 52)).cell? ⟨w.heap.size, 3, none⟩ = some (x) := by rw [cell_of_row _ _ _ _ _ _ (heap_alloc_new w _)]; rfl
  go_enter Tryd.func26, Tryd.ntmps26
  go_upto_region 9 with fail
  obtain ⟨W1, hW1⟩ : ∃ W, W = w.alloc (.cells #[.int .i64 4, .int .i64 n, .int .i64 m, x] 52) := ⟨_, rfl⟩
  obtain ⟨q, hq⟩ : ∃ z, z = w.heap.size := ⟨_, rfl⟩
  rw [← hW1, ← hq] at c1 c2 c3
  rw [← hW1] at hb0
  rw [← hW1, ← hq]
  have HB : Hid (Below u.heap.size u W1) := hb.trans (hb0.mono hb.size)
  have HBW : Hid (Below w.heap.size w W1) := hb0
  clear hW1 hq hb hb0 
  have hll := hl
  simp only [shN, List.length_cons, List.length_append] at hll
  clear hl
  have hi1 := itoa_small n0 n1
  have hi2 := itoa_small m0 m1
  refine wp_region_noPanic ?_
  refine wp_region_held_drew (S := Ext W1) (by kernel_rfl) (Ext.refl _).drew (fun hH => ?_)
  change wpAnyH _ _ _ _ _ _ #[false, false, false, false, false, false, false, false, false, false] _ _
  refine wpAnyH_take (i := 0) (oi := ?o0s) (v := ?v0s) ?h0s (by kernel_rfl) ?f0s ?r0s (fun _ _ _ h => h) (Or.inl ⟨?w0s, ?y0s⟩) (by assumption) ?t0s
  case h0s => simp only [List.getElem?_toArray]; rfl
  case f0s => kernel_rfl
  case r0s => kernel_rfl
  case w0s => rfl
  case y0s => (intro u hu; (go_simp) <;> with_reducible rfl)
  try simp only [Act.put, List.setIfInBounds_toArray, List.set_cons_zero, List.set_cons_succ]
  refine wpAnyH_take (i := 1) (oi := ?o1s) (v := ?v1s) ?h1s (by kernel_rfl) ?f1s ?r1s (fun _ _ _ h => h) (Or.inl ⟨?w1s, ?y1s⟩) (by assumption) ?t1s
  case h1s => simp only [List.getElem?_toArray]; rfl
  case f1s => kernel_rfl
  case r1s => kernel_rfl
  case w1s => rfl
  case y1s => (intro u hu; (have hx := hu.cell c1; go_simp) <;> with_reducible rfl)
  try simp only [Act.put, List.setIfInBounds_toArray, List.set_cons_zero, List.set_cons_succ]
  refine wpAnyH_take (i := 5) (oi := ?o5s) (v := ?v5s) ?h5s (by kernel_rfl) ?f5s ?r5s (fun _ _ _ h => h) (Or.inl ⟨?w5s, ?y5s⟩) (by assumption) ?t5s
  case h5s => simp only [List.getElem?_toArray]; rfl
  case f5s => kernel_rfl
  case r5s => kernel_rfl
  case w5s => rfl
  case y5s => (intro u hu; (go_simp) <;> with_reducible rfl)
  try simp only [Act.put, List.setIfInBounds_toArray, List.set_cons_zero, List.set_cons_succ]
  refine wpAnyH_take (i := 6) (oi := ?o6s) (v := ?v6s) ?h6s (by kernel_rfl) ?f6s ?r6s (fun _ _ _ h => h) (Or.inl ⟨?w6s, ?y6s⟩) (by assumption) ?t6s
  case h6s => simp only [List.getElem?_toArray]; rfl
  case f6s => kernel_rfl
  case r6s => kernel_rfl
  case w6s => rfl
  case y6s => (intro u hu; (have hx := hu.cell c2; go_simp) <;> with_reducible rfl)
  try simp only [Act.put, List.setIfInBounds_toArray, List.set_cons_zero, List.set_cons_succ]
  refine wpAnyH_ready (rs := [2]) (by kernel_rfl) (by simp) ?_
  refine AllReadyH.cons (o := ?o2s) ?h2s (fun K hK => ?_) AllReadyH.nil
  case h2s => simp only [List.getElem?_toArray]; rfl
  go_simp
  refine (digits_c n ⟨n0, n1⟩ _).mono ?_
  rintro e V1 ⟨rfl, hb1⟩
  obtain ⟨d1, hd1⟩ : ∃ z, z = (⟨(Lib.itoa n).toArray⟩ : ByteArray) := ⟨_, rfl⟩
  have Hd1 : Hid (d1 = ⟨(Lib.itoa n).toArray⟩) := hd1
  rw [← hd1]
  have zd1 : d1.size ≤ 21 := by rw [hd1, size_of]; omega
  clear hd1
  refine hK.out _ _ (hH.trans hb1) (fun hH' => ?_)
  clear hK K hH
  have hH := hH'
  clear hH'
  try simp only [List.setIfInBounds_toArray, List.set]
  clear hb1
  obtain ⟨s2, hs2⟩ : ∃ z, z = (⟨#[115]⟩ : ByteArray) ++ d1 := ⟨_, rfl⟩
  have Hs2 : Hid (s2 = ⟨([115] ++ (Lib.itoa n)).toArray⟩) := by rw [hs2, Hd1.out]; exact text_app [115] _
  have hap := hs2.symm
  have zs2 : s2.size ≤ 4611686018427387904 := by rw [Hs2.out, size_of]; simp only [List.length_append, List.length_cons, List.length_nil]; omega
  have q9 : ¬ 9223372036854775807 < 1 + d1.size := by omega
  have q8 : ¬ 9223372036854775807 < (⟨#[115]⟩ : ByteArray).size + d1.size := by have : (⟨#[115]⟩ : ByteArray).size = 1 := rfl; omega
  clear hs2
  refine wpAnyH_take (i := 3) (oi := ?o3s) (v := ?v3s) ?h3s (by kernel_rfl) ?f3s ?r3s (fun _ _ _ h => h) (Or.inl ⟨?w3s, ?y3s⟩) (by assumption) ?t3s
  case h3s => simp only [List.getElem?_toArray]; rfl
  case f3s => kernel_rfl
  case r3s => kernel_rfl
  case w3s => rfl
  case y3s => (intro u hu; (go_simp) <;> with_reducible rfl)
  try simp only [Act.put, List.setIfInBounds_toArray, List.set_cons_zero, List.set_cons_succ]
  clear hap q9 q8
  obtain ⟨s3, hs3⟩ : ∃ z, z = s2 ++ (⟨#[46]⟩ : ByteArray) := ⟨_, rfl⟩
  have Hs3 : Hid (s3 = ⟨(([115] ++ (Lib.itoa n)) ++ [46]).toArray⟩) := by rw [hs3, Hs2.out]; exact text_app _ [46]
  have hap := hs3.symm
  have zs3 : s3.size ≤ 4611686018427387904 := by rw [Hs3.out, size_of]; simp only [List.length_append, List.length_cons, List.length_nil]; omega
  have q9 : ¬ 9223372036854775807 < s2.size + 1 := by omega
  have q8 : ¬ 9223372036854775807 < s2.size + (⟨#[46]⟩ : ByteArray).size := by have : (⟨#[46]⟩ : ByteArray).size = 1 := rfl; omega
  clear hs3
  refine wpAnyH_take (i := 4) (oi := ?o4s) (v := ?v4s) ?h4s (by kernel_rfl) ?f4s ?r4s (fun _ _ _ h => h) (Or.inl ⟨?w4s, ?y4s⟩) (by assumption) ?t4s
  case h4s => simp only [List.getElem?_toArray]; rfl
  case f4s => kernel_rfl
  case r4s => kernel_rfl
  case w4s => rfl
  case y4s => (intro u hu; (go_simp) <;> with_reducible rfl)
  try simp only [Act.put, List.setIfInBounds_toArray, List.set_cons_zero, List.set_cons_succ]
  clear hap q9 q8
  refine wpAnyH_ready (rs := [7]) (by kernel_rfl) (by simp) ?_
  refine AllReadyH.cons (o := ?o7s) ?h7s (fun K hK => ?_) AllReadyH.nil
  case h7s => simp only [List.getElem?_toArray]; rfl
  go_simp
  refine (digits_c m ⟨m0, m1⟩ _).mono ?_
  rintro e V2 ⟨rfl, hb1⟩
  obtain ⟨d4, hd4⟩ : ∃ z, z = (⟨(Lib.itoa m).toArray⟩ : ByteArray) := ⟨_, rfl⟩
  have Hd4 : Hid (d4 = ⟨(Lib.itoa m).toArray⟩) := hd4
  rw [← hd4]
  have zd4 : d4.size ≤ 21 := by rw [hd4, size_of]; omega
  clear hd4
  refine hK.out _ _ (hH.trans hb1) (fun hH' => ?_)
  clear hK K hH
  have hH := hH'
  clear hH'
  try simp only [List.setIfInBounds_toArray, List.set]
  clear hb1
  obtain ⟨s5, hs5⟩ : ∃ z, z = s3 ++ d4 := ⟨_, rfl⟩
  have Hs5 : Hid (s5 = ⟨((([115] ++ (Lib.itoa n)) ++ [46]) ++ (Lib.itoa m)).toArray⟩) := by rw [hs5, Hs3.out, Hd4.out]; exact text_app _ _
  have hap := hs5.symm
  have zs5 : s5.size ≤ 4611686018427387904 := by rw [Hs5.out, size_of]; simp only [List.length_append, List.length_cons, List.length_nil]; omega
  have q9 : ¬ 9223372036854775807 < s3.size + d4.size := by omega
  have q8 : ¬ 9223372036854775807 < s3.size + d4.size := by omega
  clear hs5
  refine wpAnyH_take (i := 8) (oi := ?o8s) (v := ?v8s) ?h8s (by kernel_rfl) ?f8s ?r8s (fun _ _ _ h => h) (Or.inl ⟨?w8s, ?y8s⟩) (by assumption) ?t8s
  case h8s => simp only [List.getElem?_toArray]; rfl
  case f8s => kernel_rfl
  case r8s => kernel_rfl
  case w8s => rfl
  case y8s => (intro u hu; (go_simp) <;> with_reducible rfl)
  try simp only [Act.put, List.setIfInBounds_toArray, List.set_cons_zero, List.set_cons_succ]
  clear hap q9 q8
  refine wpAnyH_take (i := 9) (oi := ?o9s) (v := ?v9s) ?h9s (by kernel_rfl) ?f9s ?r9s (fun _ _ _ h => h) (Or.inl ⟨?w9s, ?y9s⟩) (by assumption) ?t9s
  case h9s => simp only [List.getElem?_toArray]; rfl
  case f9s => kernel_rfl
  case r9s => kernel_rfl
  case w9s => rfl
  case y9s => (intro u hu; (go_simp) <;> with_reducible rfl)
  try simp only [Act.put, List.setIfInBounds_toArray, List.set_cons_zero, List.set_cons_succ]
  refine wpAnyH_done (by kernel_rfl) ?_ _
  refine NoPanic.normal ?_
  have hend : s5 = ⟨((shN n m)).toArray⟩ := by rw [Hs5.out]; simp [shN]
  have hb2 : Below w.heap.size w _ := HBW.out.trans (Below.mono hH HBW.out.size)
  rw [hend]
  go_wp2
  go_ret
  exact ⟨rfl, hb2⟩
theorem range_two {u : World} {g o : Nat} {x y : List Value} (hx : x.length = 4) (h : u.rangeAt g o (x ++ y)) : u.rangeAt g o x ∧ u.rangeAt g (o + 4) y := by
  refine ⟨fun j v hv => h j v (by rw [List.getElem?_append_left (List.getElem?_eq_some_iff.1 hv).1]; exact hv), fun j v hv => ?_⟩
  have := h (4 + j) v (by rw [List.getElem?_append_right (by omega), hx, Nat.add_sub_cancel_left]; exact hv)
  rwa [← Nat.add_assoc] at this
set_option maxRecDepth 8000 in
set_option maxHeartbeats 4000000 in
theorem named_chain (u : World) (n m : Int) (g o c : Nat) (x y : List Value) (a b : List UInt8) (n0 : -9223372036854775808 ≤ n) (n1 : n ≤ 9223372036854775807) (qx : x.length = 4) (qy : y.length = 4) (hr : u.rangeAt g o (x ++ y)) (px : Named u x a) (py : Named u y b) : Named u [.int .i64 5, .int .i64 n, .int .i64 m, (.slice (some ⟨g, o, none⟩) 2 c)] (chN n a b) := by
  intro hl w hb
  have hb0 := bel1 w (.cells #[.int .i64 5, .int .i64 n, .int .i64 m, (.slice (some ⟨g, o, none⟩) 2 c)] 52)
  have c1 : (w.alloc (.cells #[.int .i64 5, .int .i64 n, .int .i64 m, (.slice (some ⟨g, o, none⟩) 2 c)] 52)).cell? ⟨w.heap.size, 1, none⟩ = some (.int .i64 n) := by rw [cell_of_row _ _ _ _ _ _ (heap_alloc_new w _)]; rfl
  have c2 : (w.alloc (.cells #[.int .i64 5, .int .i64 n, .int .i64 m, (.slice (some ⟨g, o, none⟩) 2 c)] 52)).cell? ⟨w.heap.size, 2, none⟩ = some (.int .i64 m) := by rw [cell_of_row _ _ _ _ _ _ (heap_alloc_new w _)]; rfl
  have c3 : (w.alloc (.cells #[.int .i64 5, .int .i64 n, .int .i64 m, (.slice (some ⟨g, o, none⟩) 2 c)] 52)).cell? ⟨w.heap.size, 3, none⟩ = some ((.slice (some ⟨g, o, none⟩) 2 c)) := by rw [cell_of_row _ _ _ _ _ _ (heap_alloc_new w _)]; rfl
  go_enter Tryd.func26, Tryd.ntmps26
  go_upto_region 11 with fail
  obtain ⟨W1, hW1⟩ : ∃ W, W = w.alloc (.cells #[.int .i64 5, .int .i64 n, .int .i64 m, (.slice (some ⟨g, o, none⟩) 2 c)] 52) := ⟨_, rfl⟩
  obtain ⟨q, hq⟩ : ∃ z, z = w.heap.size := ⟨_, rfl⟩
  rw [← hW1, ← hq] at c1 c2 c3
  rw [← hW1] at hb0
  rw [← hW1, ← hq]
  have hrw := range_later hb hr
  obtain ⟨hr1, hr2⟩ := range_two qx hrw
  have rx : Hid (W1.rangeAt g o x) := range_later hb0 hr1
  have ry : Hid (W1.rangeAt g (o + 4) y) := range_later hb0 hr2
  have hxn : Hid (Named u x a) := px
  have lx : Hid (x.length = 4) := qx
  have hyn : Hid (Named u y b) := py
  have ly : Hid (y.length = 4) := qy
  have HB : Hid (Below u.heap.size u W1) := hb.trans (hb0.mono hb.size)
  have HBW : Hid (Below w.heap.size w W1) := hb0
  clear hW1 hq hb hb0 hr hrw hr1 hr2 px qx py qy
  have hll := hl
  simp only [chN, List.length_cons, List.length_append, List.length_nil] at hll
  clear hl
  have hi1 := itoa_small n0 n1
  refine wp_region_noPanic ?_
  refine wp_region_held_drew (S := Ext W1) (by kernel_rfl) (Ext.refl _).drew (fun hH => ?_)
  change wpAnyH _ _ _ _ _ _ #[false, false, false, false, false, false, false, false, false, false, false, false, false, false, false, false, false, false, false, false] _ _
  refine wpAnyH_take (i := 0) (oi := ?o0c) (v := ?v0c) ?h0c (by kernel_rfl) ?f0c ?r0c (fun _ _ _ h => h) (Or.inl ⟨?w0c, ?y0c⟩) (by assumption) ?t0c
  case h0c => simp only [List.getElem?_toArray]; rfl
  case f0c => kernel_rfl
  case r0c => kernel_rfl
  case w0c => rfl
  case y0c => (intro u hu; (go_simp) <;> with_reducible rfl)
  try simp only [Act.put, List.setIfInBounds_toArray, List.set_cons_zero, List.set_cons_succ]
  refine wpAnyH_take (i := 1) (oi := ?o1c) (v := ?v1c) ?h1c (by kernel_rfl) ?f1c ?r1c (fun _ _ _ h => h) (Or.inl ⟨?w1c, ?y1c⟩) (by assumption) ?t1c
  case h1c => simp only [List.getElem?_toArray]; rfl
  case f1c => kernel_rfl
  case r1c => kernel_rfl
  case w1c => rfl
  case y1c => (intro u hu; (have hx := hu.cell c1; go_simp) <;> with_reducible rfl)
  try simp only [Act.put, List.setIfInBounds_toArray, List.set_cons_zero, List.set_cons_succ]
  refine wpAnyH_take (i := 5) (oi := ?o5c) (v := ?v5c) ?h5c (by kernel_rfl) ?f5c ?r5c (fun _ _ _ h => h) (Or.inl ⟨?w5c, ?y5c⟩) (by assumption) ?t5c
  case h5c => simp only [List.getElem?_toArray]; rfl
  case f5c => kernel_rfl
  case r5c => kernel_rfl
  case w5c => rfl
  case y5c => (intro u hu; (go_simp) <;> with_reducible rfl)
  try simp only [Act.put, List.setIfInBounds_toArray, List.set_cons_zero, List.set_cons_succ]
  refine wpAnyH_take (i := 6) (oi := ?o6c) (v := ?v6c) ?h6c (by kernel_rfl) ?f6c ?r6c (fun _ _ _ h => h) (Or.inl ⟨?w6c, ?y6c⟩) (by assumption) ?t6c
  case h6c => simp only [List.getElem?_toArray]; rfl
  case f6c => kernel_rfl
  case r6c => kernel_rfl
  case w6c => rfl
  case y6c => (intro u hu; (have hx := hu.cell c3; go_simp) <;> with_reducible rfl)
  try simp only [Act.put, List.setIfInBounds_toArray, List.set_cons_zero, List.set_cons_succ]
  refine wpAnyH_take (i := 7) (oi := ?o7c) (v := ?v7c) ?h7c (by kernel_rfl) ?f7c ?r7c (fun _ _ _ h => h) (Or.inl ⟨?w7c, ?y7c⟩) (by assumption) ?t7c
  case h7c => simp only [List.getElem?_toArray]; rfl
  case f7c => kernel_rfl
  case r7c => kernel_rfl
  case w7c => rfl
  case y7c => (intro u hu; (go_simp) <;> with_reducible rfl)
  try simp only [Act.put, List.setIfInBounds_toArray, List.set_cons_zero, List.set_cons_succ]
  refine wpAnyH_take (i := 8) (oi := ?o8cl) (v := .agg x.toArray) ?h8cl (by kernel_rfl) ?f8cl ?r8cl (fun _ _ _ h => h) ?y8cl (by assumption) ?t8cl
  case h8cl => simp only [List.getElem?_toArray]; rfl
  case f8cl => kernel_rfl
  case r8cl => kernel_rfl
  case y8cl => exact yieldsIf_load_mid (by rfl) 52 (.tmp 39) rfl g o rfl x _ (fun u hu => range_later hu rx.out) Tryd.underlying52 rfl (by rw [lx.out]; kernel_rfl)
  try simp only [Act.put, List.setIfInBounds_toArray, List.set_cons_zero, List.set_cons_succ]
  refine wpAnyH_take (i := 12) (oi := ?o12c) (v := ?v12c) ?h12c (by kernel_rfl) ?f12c ?r12c (fun _ _ _ h => h) (Or.inl ⟨?w12c, ?y12c⟩) (by assumption) ?t12c
  case h12c => simp only [List.getElem?_toArray]; rfl
  case f12c => kernel_rfl
  case r12c => kernel_rfl
  case w12c => rfl
  case y12c => (intro u hu; (go_simp) <;> with_reducible rfl)
  try simp only [Act.put, List.setIfInBounds_toArray, List.set_cons_zero, List.set_cons_succ]
  refine wpAnyH_take (i := 13) (oi := ?o13c) (v := ?v13c) ?h13c (by kernel_rfl) ?f13c ?r13c (fun _ _ _ h => h) (Or.inl ⟨?w13c, ?y13c⟩) (by assumption) ?t13c
  case h13c => simp only [List.getElem?_toArray]; rfl
  case f13c => kernel_rfl
  case r13c => kernel_rfl
  case w13c => rfl
  case y13c => (intro u hu; (have hx := hu.cell c3; go_simp) <;> with_reducible rfl)
  try simp only [Act.put, List.setIfInBounds_toArray, List.set_cons_zero, List.set_cons_succ]
  refine wpAnyH_take (i := 14) (oi := ?o14c) (v := ?v14c) ?h14c (by kernel_rfl) ?f14c ?r14c (fun _ _ _ h => h) (Or.inl ⟨?w14c, ?y14c⟩) (by assumption) ?t14c
  case h14c => simp only [List.getElem?_toArray]; rfl
  case f14c => kernel_rfl
  case r14c => kernel_rfl
  case w14c => rfl
  case y14c => (intro u hu; (go_simp) <;> with_reducible rfl)
  try simp only [Act.put, List.setIfInBounds_toArray, List.set_cons_zero, List.set_cons_succ]
  refine wpAnyH_take (i := 15) (oi := ?o15cl) (v := .agg y.toArray) ?h15cl (by kernel_rfl) ?f15cl ?r15cl (fun _ _ _ h => h) ?y15cl (by assumption) ?t15cl
  case h15cl => simp only [List.getElem?_toArray]; rfl
  case f15cl => kernel_rfl
  case r15cl => kernel_rfl
  case y15cl => exact yieldsIf_load_mid (by rfl) 52 (.tmp 46) rfl g (o + 4) rfl y _ (fun u hu => range_later hu ry.out) Tryd.underlying52 rfl (by rw [ly.out]; kernel_rfl)
  try simp only [Act.put, List.setIfInBounds_toArray, List.set_cons_zero, List.set_cons_succ]
  refine wpAnyH_ready (rs := [2]) (by kernel_rfl) (by simp) ?_
  refine AllReadyH.cons (o := ?o2c) ?h2c (fun K hK => ?_) AllReadyH.nil
  case h2c => simp only [List.getElem?_toArray]; rfl
  go_simp
  refine (digits_c n ⟨n0, n1⟩ _).mono ?_
  rintro e V1 ⟨rfl, hb1⟩
  obtain ⟨d1, hd1⟩ : ∃ z, z = (⟨(Lib.itoa n).toArray⟩ : ByteArray) := ⟨_, rfl⟩
  have Hd1 : Hid (d1 = ⟨(Lib.itoa n).toArray⟩) := hd1
  rw [← hd1]
  have zd1 : d1.size ≤ 21 := by rw [hd1, size_of]; omega
  clear hd1
  refine hK.out _ _ (hH.trans hb1) (fun hH' => ?_)
  clear hK K hH
  have hH := hH'
  clear hH'
  try simp only [List.setIfInBounds_toArray, List.set]
  clear hb1
  obtain ⟨s2, hs2⟩ : ∃ z, z = (⟨#[99]⟩ : ByteArray) ++ d1 := ⟨_, rfl⟩
  have Hs2 : Hid (s2 = ⟨([99] ++ (Lib.itoa n)).toArray⟩) := by rw [hs2, Hd1.out]; exact text_app [99] _
  have hap := hs2.symm
  have zs2 : s2.size ≤ 4611686018427387904 := by rw [Hs2.out, size_of]; simp only [List.length_append, List.length_cons, List.length_nil]; omega
  have q9 : ¬ 9223372036854775807 < 1 + d1.size := by omega
  have q8 : ¬ 9223372036854775807 < (⟨#[99]⟩ : ByteArray).size + d1.size := by have : (⟨#[99]⟩ : ByteArray).size = 1 := rfl; omega
  clear hs2
  refine wpAnyH_take (i := 3) (oi := ?o3c) (v := ?v3c) ?h3c (by kernel_rfl) ?f3c ?r3c (fun _ _ _ h => h) (Or.inl ⟨?w3c, ?y3c⟩) (by assumption) ?t3c
  case h3c => simp only [List.getElem?_toArray]; rfl
  case f3c => kernel_rfl
  case r3c => kernel_rfl
  case w3c => rfl
  case y3c => (intro u hu; (go_simp) <;> with_reducible rfl)
  try simp only [Act.put, List.setIfInBounds_toArray, List.set_cons_zero, List.set_cons_succ]
  clear hap q9 q8
  obtain ⟨s3, hs3⟩ : ∃ z, z = s2 ++ (⟨#[40]⟩ : ByteArray) := ⟨_, rfl⟩
  have Hs3 : Hid (s3 = ⟨(([99] ++ (Lib.itoa n)) ++ [40]).toArray⟩) := by rw [hs3, Hs2.out]; exact text_app _ [40]
  have hap := hs3.symm
  have zs3 : s3.size ≤ 4611686018427387904 := by rw [Hs3.out, size_of]; simp only [List.length_append, List.length_cons, List.length_nil]; omega
  have q9 : ¬ 9223372036854775807 < s2.size + 1 := by omega
  have q8 : ¬ 9223372036854775807 < s2.size + (⟨#[40]⟩ : ByteArray).size := by have : (⟨#[40]⟩ : ByteArray).size = 1 := rfl; omega
  clear hs3
  refine wpAnyH_take (i := 4) (oi := ?o4c) (v := ?v4c) ?h4c (by kernel_rfl) ?f4c ?r4c (fun _ _ _ h => h) (Or.inl ⟨?w4c, ?y4c⟩) (by assumption) ?t4c
  case h4c => simp only [List.getElem?_toArray]; rfl
  case f4c => kernel_rfl
  case r4c => kernel_rfl
  case w4c => rfl
  case y4c => (intro u hu; (go_simp) <;> with_reducible rfl)
  try simp only [Act.put, List.setIfInBounds_toArray, List.set_cons_zero, List.set_cons_succ]
  clear hap q9 q8
  refine wpAnyH_ready (rs := [9]) (by kernel_rfl) (by simp) ?_
  refine AllReadyH.cons (o := ?o9c) ?h9c (fun K hK => ?_) AllReadyH.nil
  case h9c => simp only [List.getElem?_toArray]; rfl
  go_simp
  refine (hxn.out (by omega) _ (HB.out.trans (Below.mono hH HB.out.size))).mono ?_
  rintro e V2 ⟨rfl, hb1⟩
  obtain ⟨d4, hd4⟩ : ∃ z, z = (⟨a.toArray⟩ : ByteArray) := ⟨_, rfl⟩
  have Hd4 : Hid (d4 = ⟨a.toArray⟩) := hd4
  rw [← hd4]
  have zd4 : d4.size ≤ 4611686018427387900 := by rw [hd4, size_of]; omega
  clear hd4
  refine hK.out _ _ (hH.trans hb1) (fun hH' => ?_)
  clear hK K hH
  have hH := hH'
  clear hH'
  try simp only [List.setIfInBounds_toArray, List.set]
  clear hb1
  obtain ⟨s5, hs5⟩ : ∃ z, z = s3 ++ d4 := ⟨_, rfl⟩
  have Hs5 : Hid (s5 = ⟨((([99] ++ (Lib.itoa n)) ++ [40]) ++ a).toArray⟩) := by rw [hs5, Hs3.out, Hd4.out]; exact text_app _ _
  have hap := hs5.symm
  have zs5 : s5.size ≤ 4611686018427387904 := by rw [Hs5.out, size_of]; simp only [List.length_append, List.length_cons, List.length_nil]; omega
  have q9 : ¬ 9223372036854775807 < s3.size + d4.size := by omega
  have q8 : ¬ 9223372036854775807 < s3.size + d4.size := by omega
  clear hs5
  refine wpAnyH_take (i := 10) (oi := ?o10c) (v := ?v10c) ?h10c (by kernel_rfl) ?f10c ?r10c (fun _ _ _ h => h) (Or.inl ⟨?w10c, ?y10c⟩) (by assumption) ?t10c
  case h10c => simp only [List.getElem?_toArray]; rfl
  case f10c => kernel_rfl
  case r10c => kernel_rfl
  case w10c => rfl
  case y10c => (intro u hu; (go_simp) <;> with_reducible rfl)
  try simp only [Act.put, List.setIfInBounds_toArray, List.set_cons_zero, List.set_cons_succ]
  clear hap q9 q8
  obtain ⟨s6, hs6⟩ : ∃ z, z = s5 ++ (⟨#[44]⟩ : ByteArray) := ⟨_, rfl⟩
  have Hs6 : Hid (s6 = ⟨(((([99] ++ (Lib.itoa n)) ++ [40]) ++ a) ++ [44]).toArray⟩) := by rw [hs6, Hs5.out]; exact text_app _ [44]
  have hap := hs6.symm
  have zs6 : s6.size ≤ 4611686018427387904 := by rw [Hs6.out, size_of]; simp only [List.length_append, List.length_cons, List.length_nil]; omega
  have q9 : ¬ 9223372036854775807 < s5.size + 1 := by omega
  have q8 : ¬ 9223372036854775807 < s5.size + (⟨#[44]⟩ : ByteArray).size := by have : (⟨#[44]⟩ : ByteArray).size = 1 := rfl; omega
  clear hs6
  refine wpAnyH_take (i := 11) (oi := ?o11c) (v := ?v11c) ?h11c (by kernel_rfl) ?f11c ?r11c (fun _ _ _ h => h) (Or.inl ⟨?w11c, ?y11c⟩) (by assumption) ?t11c
  case h11c => simp only [List.getElem?_toArray]; rfl
  case f11c => kernel_rfl
  case r11c => kernel_rfl
  case w11c => rfl
  case y11c => (intro u hu; (go_simp) <;> with_reducible rfl)
  try simp only [Act.put, List.setIfInBounds_toArray, List.set_cons_zero, List.set_cons_succ]
  clear hap q9 q8
  refine wpAnyH_ready (rs := [16]) (by kernel_rfl) (by simp) ?_
  refine AllReadyH.cons (o := ?o16c) ?h16c (fun K hK => ?_) AllReadyH.nil
  case h16c => simp only [List.getElem?_toArray]; rfl
  go_simp
  refine (hyn.out (by omega) _ (HB.out.trans (Below.mono hH HB.out.size))).mono ?_
  rintro e V3 ⟨rfl, hb1⟩
  obtain ⟨d7, hd7⟩ : ∃ z, z = (⟨b.toArray⟩ : ByteArray) := ⟨_, rfl⟩
  have Hd7 : Hid (d7 = ⟨b.toArray⟩) := hd7
  rw [← hd7]
  have zd7 : d7.size ≤ 4611686018427387900 := by rw [hd7, size_of]; omega
  clear hd7
  refine hK.out _ _ (hH.trans hb1) (fun hH' => ?_)
  clear hK K hH
  have hH := hH'
  clear hH'
  try simp only [List.setIfInBounds_toArray, List.set]
  clear hb1
  obtain ⟨s8, hs8⟩ : ∃ z, z = s6 ++ d7 := ⟨_, rfl⟩
  have Hs8 : Hid (s8 = ⟨((((([99] ++ (Lib.itoa n)) ++ [40]) ++ a) ++ [44]) ++ b).toArray⟩) := by rw [hs8, Hs6.out, Hd7.out]; exact text_app _ _
  have hap := hs8.symm
  have zs8 : s8.size ≤ 4611686018427387904 := by rw [Hs8.out, size_of]; simp only [List.length_append, List.length_cons, List.length_nil]; omega
  have q9 : ¬ 9223372036854775807 < s6.size + d7.size := by omega
  have q8 : ¬ 9223372036854775807 < s6.size + d7.size := by omega
  clear hs8
  refine wpAnyH_take (i := 17) (oi := ?o17c) (v := ?v17c) ?h17c (by kernel_rfl) ?f17c ?r17c (fun _ _ _ h => h) (Or.inl ⟨?w17c, ?y17c⟩) (by assumption) ?t17c
  case h17c => simp only [List.getElem?_toArray]; rfl
  case f17c => kernel_rfl
  case r17c => kernel_rfl
  case w17c => rfl
  case y17c => (intro u hu; (go_simp) <;> with_reducible rfl)
  try simp only [Act.put, List.setIfInBounds_toArray, List.set_cons_zero, List.set_cons_succ]
  clear hap q9 q8
  obtain ⟨s9, hs9⟩ : ∃ z, z = s8 ++ (⟨#[41]⟩ : ByteArray) := ⟨_, rfl⟩
  have Hs9 : Hid (s9 = ⟨(((((([99] ++ (Lib.itoa n)) ++ [40]) ++ a) ++ [44]) ++ b) ++ [41]).toArray⟩) := by rw [hs9, Hs8.out]; exact text_app _ [41]
  have hap := hs9.symm
  have zs9 : s9.size ≤ 4611686018427387904 := by rw [Hs9.out, size_of]; simp only [List.length_append, List.length_cons, List.length_nil]; omega
  have q9 : ¬ 9223372036854775807 < s8.size + 1 := by omega
  have q8 : ¬ 9223372036854775807 < s8.size + (⟨#[41]⟩ : ByteArray).size := by have : (⟨#[41]⟩ : ByteArray).size = 1 := rfl; omega
  clear hs9
  refine wpAnyH_take (i := 18) (oi := ?o18c) (v := ?v18c) ?h18c (by kernel_rfl) ?f18c ?r18c (fun _ _ _ h => h) (Or.inl ⟨?w18c, ?y18c⟩) (by assumption) ?t18c
  case h18c => simp only [List.getElem?_toArray]; rfl
  case f18c => kernel_rfl
  case r18c => kernel_rfl
  case w18c => rfl
  case y18c => (intro u hu; (go_simp) <;> with_reducible rfl)
  try simp only [Act.put, List.setIfInBounds_toArray, List.set_cons_zero, List.set_cons_succ]
  clear hap q9 q8
  refine wpAnyH_take (i := 19) (oi := ?o19c) (v := ?v19c) ?h19c (by kernel_rfl) ?f19c ?r19c (fun _ _ _ h => h) (Or.inl ⟨?w19c, ?y19c⟩) (by assumption) ?t19c
  case h19c => simp only [List.getElem?_toArray]; rfl
  case f19c => kernel_rfl
  case r19c => kernel_rfl
  case w19c => rfl
  case y19c => (intro u hu; (go_simp) <;> with_reducible rfl)
  try simp only [Act.put, List.setIfInBounds_toArray, List.set_cons_zero, List.set_cons_succ]
  refine wpAnyH_done (by kernel_rfl) ?_ _
  refine NoPanic.normal ?_
  have hend : s9 = ⟨((chN n a b)).toArray⟩ := by rw [Hs9.out]; simp [chN]
  have hb2 : Below w.heap.size w _ := HBW.out.trans (Below.mono hH HBW.out.size)
  rw [hend]
  go_wp2
  go_ret
  exact ⟨rfl, hb2⟩
set_option maxRecDepth 8000 in
set_option maxHeartbeats 4000000 in
theorem named_digest (u : World) (n m : Int) (g o c : Nat) (x y : List Value) (a b : List UInt8) (qx : x.length = 4) (qy : y.length = 4) (hr : u.rangeAt g o (x ++ y)) (px : Named u x a) (py : Named u y b) : Named u [.int .i64 6, .int .i64 n, .int .i64 m, (.slice (some ⟨g, o, none⟩) 2 c)] (dgN a b) := by
  intro hl w hb
  have hb0 := bel1 w (.cells #[.int .i64 6, .int .i64 n, .int .i64 m, (.slice (some ⟨g, o, none⟩) 2 c)] 52)
  have c1 : (w.alloc (.cells #[.int .i64 6, .int .i64 n, .int .i64 m, (.slice (some ⟨g, o, none⟩) 2 c)] 52)).cell? ⟨w.heap.size, 1, none⟩ = some (.int .i64 n) := by rw [cell_of_row _ _ _ _ _ _ (heap_alloc_new w _)]; rfl
  have c2 : (w.alloc (.cells #[.int .i64 6, .int .i64 n, .int .i64 m, (.slice (some ⟨g, o, none⟩) 2 c)] 52)).cell? ⟨w.heap.size, 2, none⟩ = some (.int .i64 m) := by rw [cell_of_row _ _ _ _ _ _ (heap_alloc_new w _)]; rfl
  have c3 : (w.alloc (.cells #[.int .i64 6, .int .i64 n, .int .i64 m, (.slice (some ⟨g, o, none⟩) 2 c)] 52)).cell? ⟨w.heap.size, 3, none⟩ = some ((.slice (some ⟨g, o, none⟩) 2 c)) := by rw [cell_of_row _ _ _ _ _ _ (heap_alloc_new w _)]; rfl
  go_enter Tryd.func26, Tryd.ntmps26
  go_upto_region 13 with fail
  obtain ⟨W1, hW1⟩ : ∃ W, W = w.alloc (.cells #[.int .i64 6, .int .i64 n, .int .i64 m, (.slice (some ⟨g, o, none⟩) 2 c)] 52) := ⟨_, rfl⟩
  obtain ⟨q, hq⟩ : ∃ z, z = w.heap.size := ⟨_, rfl⟩
  rw [← hW1, ← hq] at c1 c2 c3
  rw [← hW1] at hb0
  rw [← hW1, ← hq]
  have hrw := range_later hb hr
  obtain ⟨hr1, hr2⟩ := range_two qx hrw
  have rx : Hid (W1.rangeAt g o x) := range_later hb0 hr1
  have ry : Hid (W1.rangeAt g (o + 4) y) := range_later hb0 hr2
  have hxn : Hid (Named u x a) := px
  have lx : Hid (x.length = 4) := qx
  have hyn : Hid (Named u y b) := py
  have ly : Hid (y.length = 4) := qy
  have HB : Hid (Below u.heap.size u W1) := hb.trans (hb0.mono hb.size)
  have HBW : Hid (Below w.heap.size w W1) := hb0
  clear hW1 hq hb hb0 hr hrw hr1 hr2 px qx py qy
  have hll := hl
  simp only [dgN, List.length_cons, List.length_append, List.length_nil] at hll
  clear hl
  refine wp_region_noPanic ?_
  refine wp_region_held_drew (S := Ext W1) (by kernel_rfl) (Ext.refl _).drew (fun hH => ?_)
  change wpAnyH _ _ _ _ _ _ #[false, false, false, false, false, false, false, false, false, false, false, false, false, false, false] _ _
  refine wpAnyH_take (i := 0) (oi := ?o0d) (v := ?v0d) ?h0d (by kernel_rfl) ?f0d ?r0d (fun _ _ _ h => h) (Or.inl ⟨?w0d, ?y0d⟩) (by assumption) ?t0d
  case h0d => simp only [List.getElem?_toArray]; rfl
  case f0d => kernel_rfl
  case r0d => kernel_rfl
  case w0d => rfl
  case y0d => (intro u hu; (go_simp) <;> with_reducible rfl)
  try simp only [Act.put, List.setIfInBounds_toArray, List.set_cons_zero, List.set_cons_succ]
  refine wpAnyH_take (i := 1) (oi := ?o1d) (v := ?v1d) ?h1d (by kernel_rfl) ?f1d ?r1d (fun _ _ _ h => h) (Or.inl ⟨?w1d, ?y1d⟩) (by assumption) ?t1d
  case h1d => simp only [List.getElem?_toArray]; rfl
  case f1d => kernel_rfl
  case r1d => kernel_rfl
  case w1d => rfl
  case y1d => (intro u hu; (have hx := hu.cell c3; go_simp) <;> with_reducible rfl)
  try simp only [Act.put, List.setIfInBounds_toArray, List.set_cons_zero, List.set_cons_succ]
  refine wpAnyH_take (i := 2) (oi := ?o2d) (v := ?v2d) ?h2d (by kernel_rfl) ?f2d ?r2d (fun _ _ _ h => h) (Or.inl ⟨?w2d, ?y2d⟩) (by assumption) ?t2d
  case h2d => simp only [List.getElem?_toArray]; rfl
  case f2d => kernel_rfl
  case r2d => kernel_rfl
  case w2d => rfl
  case y2d => (intro u hu; (go_simp) <;> with_reducible rfl)
  try simp only [Act.put, List.setIfInBounds_toArray, List.set_cons_zero, List.set_cons_succ]
  refine wpAnyH_take (i := 3) (oi := ?o3dl) (v := .agg x.toArray) ?h3dl (by kernel_rfl) ?f3dl ?r3dl (fun _ _ _ h => h) ?y3dl (by assumption) ?t3dl
  case h3dl => simp only [List.getElem?_toArray]; rfl
  case f3dl => kernel_rfl
  case r3dl => kernel_rfl
  case y3dl => exact yieldsIf_load_mid (by rfl) 52 (.tmp 55) rfl g o rfl x _ (fun u hu => range_later hu rx.out) Tryd.underlying52 rfl (by rw [lx.out]; kernel_rfl)
  try simp only [Act.put, List.setIfInBounds_toArray, List.set_cons_zero, List.set_cons_succ]
  refine wpAnyH_take (i := 7) (oi := ?o7d) (v := ?v7d) ?h7d (by kernel_rfl) ?f7d ?r7d (fun _ _ _ h => h) (Or.inl ⟨?w7d, ?y7d⟩) (by assumption) ?t7d
  case h7d => simp only [List.getElem?_toArray]; rfl
  case f7d => kernel_rfl
  case r7d => kernel_rfl
  case w7d => rfl
  case y7d => (intro u hu; (go_simp) <;> with_reducible rfl)
  try simp only [Act.put, List.setIfInBounds_toArray, List.set_cons_zero, List.set_cons_succ]
  refine wpAnyH_take (i := 8) (oi := ?o8d) (v := ?v8d) ?h8d (by kernel_rfl) ?f8d ?r8d (fun _ _ _ h => h) (Or.inl ⟨?w8d, ?y8d⟩) (by assumption) ?t8d
  case h8d => simp only [List.getElem?_toArray]; rfl
  case f8d => kernel_rfl
  case r8d => kernel_rfl
  case w8d => rfl
  case y8d => (intro u hu; (have hx := hu.cell c3; go_simp) <;> with_reducible rfl)
  try simp only [Act.put, List.setIfInBounds_toArray, List.set_cons_zero, List.set_cons_succ]
  refine wpAnyH_take (i := 9) (oi := ?o9d) (v := ?v9d) ?h9d (by kernel_rfl) ?f9d ?r9d (fun _ _ _ h => h) (Or.inl ⟨?w9d, ?y9d⟩) (by assumption) ?t9d
  case h9d => simp only [List.getElem?_toArray]; rfl
  case f9d => kernel_rfl
  case r9d => kernel_rfl
  case w9d => rfl
  case y9d => (intro u hu; (go_simp) <;> with_reducible rfl)
  try simp only [Act.put, List.setIfInBounds_toArray, List.set_cons_zero, List.set_cons_succ]
  refine wpAnyH_take (i := 10) (oi := ?o10dl) (v := .agg y.toArray) ?h10dl (by kernel_rfl) ?f10dl ?r10dl (fun _ _ _ h => h) ?y10dl (by assumption) ?t10dl
  case h10dl => simp only [List.getElem?_toArray]; rfl
  case f10dl => kernel_rfl
  case r10dl => kernel_rfl
  case y10dl => exact yieldsIf_load_mid (by rfl) 52 (.tmp 62) rfl g (o + 4) rfl y _ (fun u hu => range_later hu ry.out) Tryd.underlying52 rfl (by rw [ly.out]; kernel_rfl)
  try simp only [Act.put, List.setIfInBounds_toArray, List.set_cons_zero, List.set_cons_succ]
  refine wpAnyH_ready (rs := [4]) (by kernel_rfl) (by simp) ?_
  refine AllReadyH.cons (o := ?o4d) ?h4d (fun K hK => ?_) AllReadyH.nil
  case h4d => simp only [List.getElem?_toArray]; rfl
  go_simp
  refine (hxn.out (by omega) _ (HB.out.trans (Below.mono hH HB.out.size))).mono ?_
  rintro e V2 ⟨rfl, hb1⟩
  obtain ⟨d1, hd1⟩ : ∃ z, z = (⟨a.toArray⟩ : ByteArray) := ⟨_, rfl⟩
  have Hd1 : Hid (d1 = ⟨a.toArray⟩) := hd1
  rw [← hd1]
  have zd1 : d1.size ≤ 4611686018427387900 := by rw [hd1, size_of]; omega
  clear hd1
  refine hK.out _ _ (hH.trans hb1) (fun hH' => ?_)
  clear hK K hH
  have hH := hH'
  clear hH'
  try simp only [List.setIfInBounds_toArray, List.set]
  clear hb1
  obtain ⟨s2, hs2⟩ : ∃ z, z = (⟨#[104, 40]⟩ : ByteArray) ++ d1 := ⟨_, rfl⟩
  have Hs2 : Hid (s2 = ⟨([104, 40] ++ a).toArray⟩) := by rw [hs2, Hd1.out]; exact text_app [104, 40] _
  have hap := hs2.symm
  have zs2 : s2.size ≤ 4611686018427387904 := by rw [Hs2.out, size_of]; simp only [List.length_append, List.length_cons, List.length_nil]; omega
  have q9 : ¬ 9223372036854775807 < 2 + d1.size := by omega
  have q8 : ¬ 9223372036854775807 < (⟨#[104, 40]⟩ : ByteArray).size + d1.size := by have : (⟨#[104, 40]⟩ : ByteArray).size = 2 := rfl; omega
  clear hs2
  refine wpAnyH_take (i := 5) (oi := ?o5d) (v := ?v5d) ?h5d (by kernel_rfl) ?f5d ?r5d (fun _ _ _ h => h) (Or.inl ⟨?w5d, ?y5d⟩) (by assumption) ?t5d
  case h5d => simp only [List.getElem?_toArray]; rfl
  case f5d => kernel_rfl
  case r5d => kernel_rfl
  case w5d => rfl
  case y5d => (intro u hu; (go_simp) <;> with_reducible rfl)
  try simp only [Act.put, List.setIfInBounds_toArray, List.set_cons_zero, List.set_cons_succ]
  clear hap q9 q8
  obtain ⟨s3, hs3⟩ : ∃ z, z = s2 ++ (⟨#[44]⟩ : ByteArray) := ⟨_, rfl⟩
  have Hs3 : Hid (s3 = ⟨(([104, 40] ++ a) ++ [44]).toArray⟩) := by rw [hs3, Hs2.out]; exact text_app _ [44]
  have hap := hs3.symm
  have zs3 : s3.size ≤ 4611686018427387904 := by rw [Hs3.out, size_of]; simp only [List.length_append, List.length_cons, List.length_nil]; omega
  have q9 : ¬ 9223372036854775807 < s2.size + 1 := by omega
  have q8 : ¬ 9223372036854775807 < s2.size + (⟨#[44]⟩ : ByteArray).size := by have : (⟨#[44]⟩ : ByteArray).size = 1 := rfl; omega
  clear hs3
  refine wpAnyH_take (i := 6) (oi := ?o6d) (v := ?v6d) ?h6d (by kernel_rfl) ?f6d ?r6d (fun _ _ _ h => h) (Or.inl ⟨?w6d, ?y6d⟩) (by assumption) ?t6d
  case h6d => simp only [List.getElem?_toArray]; rfl
  case f6d => kernel_rfl
  case r6d => kernel_rfl
  case w6d => rfl
  case y6d => (intro u hu; (go_simp) <;> with_reducible rfl)
  try simp only [Act.put, List.setIfInBounds_toArray, List.set_cons_zero, List.set_cons_succ]
  clear hap q9 q8
  refine wpAnyH_ready (rs := [11]) (by kernel_rfl) (by simp) ?_
  refine AllReadyH.cons (o := ?o11d) ?h11d (fun K hK => ?_) AllReadyH.nil
  case h11d => simp only [List.getElem?_toArray]; rfl
  go_simp
  refine (hyn.out (by omega) _ (HB.out.trans (Below.mono hH HB.out.size))).mono ?_
  rintro e V3 ⟨rfl, hb1⟩
  obtain ⟨d4, hd4⟩ : ∃ z, z = (⟨b.toArray⟩ : ByteArray) := ⟨_, rfl⟩
  have Hd4 : Hid (d4 = ⟨b.toArray⟩) := hd4
  rw [← hd4]
  have zd4 : d4.size ≤ 4611686018427387900 := by rw [hd4, size_of]; omega
  clear hd4
  refine hK.out _ _ (hH.trans hb1) (fun hH' => ?_)
  clear hK K hH
  have hH := hH'
  clear hH'
  try simp only [List.setIfInBounds_toArray, List.set]
  clear hb1
  obtain ⟨s5, hs5⟩ : ∃ z, z = s3 ++ d4 := ⟨_, rfl⟩
  have Hs5 : Hid (s5 = ⟨((([104, 40] ++ a) ++ [44]) ++ b).toArray⟩) := by rw [hs5, Hs3.out, Hd4.out]; exact text_app _ _
  have hap := hs5.symm
  have zs5 : s5.size ≤ 4611686018427387904 := by rw [Hs5.out, size_of]; simp only [List.length_append, List.length_cons, List.length_nil]; omega
  have q9 : ¬ 9223372036854775807 < s3.size + d4.size := by omega
  have q8 : ¬ 9223372036854775807 < s3.size + d4.size := by omega
  clear hs5
  refine wpAnyH_take (i := 12) (oi := ?o12d) (v := ?v12d) ?h12d (by kernel_rfl) ?f12d ?r12d (fun _ _ _ h => h) (Or.inl ⟨?w12d, ?y12d⟩) (by assumption) ?t12d
  case h12d => simp only [List.getElem?_toArray]; rfl
  case f12d => kernel_rfl
  case r12d => kernel_rfl
  case w12d => rfl
  case y12d => (intro u hu; (go_simp) <;> with_reducible rfl)
  try simp only [Act.put, List.setIfInBounds_toArray, List.set_cons_zero, List.set_cons_succ]
  clear hap q9 q8
  obtain ⟨s6, hs6⟩ : ∃ z, z = s5 ++ (⟨#[41]⟩ : ByteArray) := ⟨_, rfl⟩
  have Hs6 : Hid (s6 = ⟨(((([104, 40] ++ a) ++ [44]) ++ b) ++ [41]).toArray⟩) := by rw [hs6, Hs5.out]; exact text_app _ [41]
  have hap := hs6.symm
  have zs6 : s6.size ≤ 4611686018427387904 := by rw [Hs6.out, size_of]; simp only [List.length_append, List.length_cons, List.length_nil]; omega
  have q9 : ¬ 9223372036854775807 < s5.size + 1 := by omega
  have q8 : ¬ 9223372036854775807 < s5.size + (⟨#[41]⟩ : ByteArray).size := by have : (⟨#[41]⟩ : ByteArray).size = 1 := rfl; omega
  clear hs6
  refine wpAnyH_take (i := 13) (oi := ?o13d) (v := ?v13d) ?h13d (by kernel_rfl) ?f13d ?r13d (fun _ _ _ h => h) (Or.inl ⟨?w13d, ?y13d⟩) (by assumption) ?t13d
  case h13d => simp only [List.getElem?_toArray]; rfl
  case f13d => kernel_rfl
  case r13d => kernel_rfl
  case w13d => rfl
  case y13d => (intro u hu; (go_simp) <;> with_reducible rfl)
  try simp only [Act.put, List.setIfInBounds_toArray, List.set_cons_zero, List.set_cons_succ]
  clear hap q9 q8
  refine wpAnyH_take (i := 14) (oi := ?o14d) (v := ?v14d) ?h14d (by kernel_rfl) ?f14d ?r14d (fun _ _ _ h => h) (Or.inl ⟨?w14d, ?y14d⟩) (by assumption) ?t14d
  case h14d => simp only [List.getElem?_toArray]; rfl
  case f14d => kernel_rfl
  case r14d => kernel_rfl
  case w14d => rfl
  case y14d => (intro u hu; (go_simp) <;> with_reducible rfl)
  try simp only [Act.put, List.setIfInBounds_toArray, List.set_cons_zero, List.set_cons_succ]
  refine wpAnyH_done (by kernel_rfl) ?_ _
  refine NoPanic.normal ?_
  have hend : s6 = ⟨((dgN a b)).toArray⟩ := by rw [Hs6.out]; simp [dgN]
  have hb2 : Below w.heap.size w _ := HBW.out.trans (Below.mono hH HBW.out.size)
  rw [hend]
  go_wp2
  go_ret
  exact ⟨rfl, hb2⟩
set_option maxRecDepth 8000 in
set_option maxHeartbeats 4000000 in
theorem named_box (u : World) (n m : Int) (g o c : Nat) (x y z : List Value) (a b d : List UInt8) (n0 : -9223372036854775808 ≤ n) (n1 : n ≤ 9223372036854775807) (qx : x.length = 4) (qy : y.length = 4) (qz : z.length = 4) (hr : u.rangeAt g o (x ++ (y ++ z))) (px : Named u x a) (py : Named u y b) (pz : Named u z d) : Named u [.int .i64 7, .int .i64 n, .int .i64 m, (.slice (some ⟨g, o, none⟩) 3 c)] (bxN n a b d) := by
  intro hl w hb
  have hb0 := bel1 w (.cells #[.int .i64 7, .int .i64 n, .int .i64 m, (.slice (some ⟨g, o, none⟩) 3 c)] 52)
  have c1 : (w.alloc (.cells #[.int .i64 7, .int .i64 n, .int .i64 m, (.slice (some ⟨g, o, none⟩) 3 c)] 52)).cell? ⟨w.heap.size, 1, none⟩ = some (.int .i64 n) := by rw [cell_of_row _ _ _ _ _ _ (heap_alloc_new w _)]; rfl
  have c2 : (w.alloc (.cells #[.int .i64 7, .int .i64 n, .int .i64 m, (.slice (some ⟨g, o, none⟩) 3 c)] 52)).cell? ⟨w.heap.size, 2, none⟩ = some (.int .i64 m) := by rw [cell_of_row _ _ _ _ _ _ (heap_alloc_new w _)]; rfl
  have c3 : (w.alloc (.cells #[.int .i64 7, .int .i64 n, .int .i64 m, (.slice (some ⟨g, o, none⟩) 3 c)] 52)).cell? ⟨w.heap.size, 3, none⟩ = some ((.slice (some ⟨g, o, none⟩) 3 c)) := by rw [cell_of_row _ _ _ _ _ _ (heap_alloc_new w _)]; rfl
  go_enter Tryd.func26, Tryd.ntmps26
  go_upto_region 15 with fail
  obtain ⟨W1, hW1⟩ : ∃ W, W = w.alloc (.cells #[.int .i64 7, .int .i64 n, .int .i64 m, (.slice (some ⟨g, o, none⟩) 3 c)] 52) := ⟨_, rfl⟩
  obtain ⟨q, hq⟩ : ∃ z, z = w.heap.size := ⟨_, rfl⟩
  rw [← hW1, ← hq] at c1 c2 c3
  rw [← hW1] at hb0
  rw [← hW1, ← hq]
  have hrw := range_later hb hr
  obtain ⟨hr1, hr23⟩ := range_two qx hrw
  obtain ⟨hr2, hr3⟩ := range_two qy hr23
  have rx : Hid (W1.rangeAt g o x) := range_later hb0 hr1
  have ry : Hid (W1.rangeAt g (o + 4) y) := range_later hb0 hr2
  have rz : Hid (W1.rangeAt g (o + 4 + 4) z) := range_later hb0 hr3
  have hxn : Hid (Named u x a) := px
  have lx : Hid (x.length = 4) := qx
  have hyn : Hid (Named u y b) := py
  have ly : Hid (y.length = 4) := qy
  have hzn : Hid (Named u z d) := pz
  have lz : Hid (z.length = 4) := qz
  have HB : Hid (Below u.heap.size u W1) := hb.trans (hb0.mono hb.size)
  have HBW : Hid (Below w.heap.size w W1) := hb0
  clear hW1 hq hb hb0 hr hrw hr1 hr2 hr23 hr3 px qx py qy pz qz
  have hll := hl
  simp only [bxN, List.length_cons, List.length_append, List.length_nil] at hll
  clear hl
  have hi1 := itoa_small n0 n1
  refine wp_region_noPanic ?_
  refine wp_region_held_drew (S := Ext W1) (by kernel_rfl) (Ext.refl _).drew (fun hH => ?_)
  change wpAnyH _ _ _ _ _ _ #[false, false, false, false, false, false, false, false, false, false, false, false, false, false, false, false, false, false, false, false, false, false, false, false, false, false, false] _ _
  refine wpAnyH_take (i := 0) (oi := ?o0b) (v := ?v0b) ?h0b (by kernel_rfl) ?f0b ?r0b (fun _ _ _ h => h) (Or.inl ⟨?w0b, ?y0b⟩) (by assumption) ?t0b
  case h0b => simp only [List.getElem?_toArray]; rfl
  case f0b => kernel_rfl
  case r0b => kernel_rfl
  case w0b => rfl
  case y0b => (intro u hu; (go_simp) <;> with_reducible rfl)
  try simp only [Act.put, List.setIfInBounds_toArray, List.set_cons_zero, List.set_cons_succ]
  refine wpAnyH_take (i := 1) (oi := ?o1b) (v := ?v1b) ?h1b (by kernel_rfl) ?f1b ?r1b (fun _ _ _ h => h) (Or.inl ⟨?w1b, ?y1b⟩) (by assumption) ?t1b
  case h1b => simp only [List.getElem?_toArray]; rfl
  case f1b => kernel_rfl
  case r1b => kernel_rfl
  case w1b => rfl
  case y1b => (intro u hu; (have hx := hu.cell c1; go_simp) <;> with_reducible rfl)
  try simp only [Act.put, List.setIfInBounds_toArray, List.set_cons_zero, List.set_cons_succ]
  refine wpAnyH_take (i := 5) (oi := ?o5b) (v := ?v5b) ?h5b (by kernel_rfl) ?f5b ?r5b (fun _ _ _ h => h) (Or.inl ⟨?w5b, ?y5b⟩) (by assumption) ?t5b
  case h5b => simp only [List.getElem?_toArray]; rfl
  case f5b => kernel_rfl
  case r5b => kernel_rfl
  case w5b => rfl
  case y5b => (intro u hu; (go_simp) <;> with_reducible rfl)
  try simp only [Act.put, List.setIfInBounds_toArray, List.set_cons_zero, List.set_cons_succ]
  refine wpAnyH_take (i := 6) (oi := ?o6b) (v := ?v6b) ?h6b (by kernel_rfl) ?f6b ?r6b (fun _ _ _ h => h) (Or.inl ⟨?w6b, ?y6b⟩) (by assumption) ?t6b
  case h6b => simp only [List.getElem?_toArray]; rfl
  case f6b => kernel_rfl
  case r6b => kernel_rfl
  case w6b => rfl
  case y6b => (intro u hu; (have hx := hu.cell c3; go_simp) <;> with_reducible rfl)
  try simp only [Act.put, List.setIfInBounds_toArray, List.set_cons_zero, List.set_cons_succ]
  refine wpAnyH_take (i := 7) (oi := ?o7b) (v := ?v7b) ?h7b (by kernel_rfl) ?f7b ?r7b (fun _ _ _ h => h) (Or.inl ⟨?w7b, ?y7b⟩) (by assumption) ?t7b
  case h7b => simp only [List.getElem?_toArray]; rfl
  case f7b => kernel_rfl
  case r7b => kernel_rfl
  case w7b => rfl
  case y7b => (intro u hu; (go_simp) <;> with_reducible rfl)
  try simp only [Act.put, List.setIfInBounds_toArray, List.set_cons_zero, List.set_cons_succ]
  refine wpAnyH_take (i := 8) (oi := ?o8bl) (v := .agg x.toArray) ?h8bl (by kernel_rfl) ?f8bl ?r8bl (fun _ _ _ h => h) ?y8bl (by assumption) ?t8bl
  case h8bl => simp only [List.getElem?_toArray]; rfl
  case f8bl => kernel_rfl
  case r8bl => kernel_rfl
  case y8bl => exact yieldsIf_load_mid (by rfl) 52 (.tmp 76) rfl g o rfl x _ (fun u hu => range_later hu rx.out) Tryd.underlying52 rfl (by rw [lx.out]; kernel_rfl)
  try simp only [Act.put, List.setIfInBounds_toArray, List.set_cons_zero, List.set_cons_succ]
  refine wpAnyH_take (i := 12) (oi := ?o12b) (v := ?v12b) ?h12b (by kernel_rfl) ?f12b ?r12b (fun _ _ _ h => h) (Or.inl ⟨?w12b, ?y12b⟩) (by assumption) ?t12b
  case h12b => simp only [List.getElem?_toArray]; rfl
  case f12b => kernel_rfl
  case r12b => kernel_rfl
  case w12b => rfl
  case y12b => (intro u hu; (go_simp) <;> with_reducible rfl)
  try simp only [Act.put, List.setIfInBounds_toArray, List.set_cons_zero, List.set_cons_succ]
  refine wpAnyH_take (i := 13) (oi := ?o13b) (v := ?v13b) ?h13b (by kernel_rfl) ?f13b ?r13b (fun _ _ _ h => h) (Or.inl ⟨?w13b, ?y13b⟩) (by assumption) ?t13b
  case h13b => simp only [List.getElem?_toArray]; rfl
  case f13b => kernel_rfl
  case r13b => kernel_rfl
  case w13b => rfl
  case y13b => (intro u hu; (have hx := hu.cell c3; go_simp) <;> with_reducible rfl)
  try simp only [Act.put, List.setIfInBounds_toArray, List.set_cons_zero, List.set_cons_succ]
  refine wpAnyH_take (i := 14) (oi := ?o14b) (v := ?v14b) ?h14b (by kernel_rfl) ?f14b ?r14b (fun _ _ _ h => h) (Or.inl ⟨?w14b, ?y14b⟩) (by assumption) ?t14b
  case h14b => simp only [List.getElem?_toArray]; rfl
  case f14b => kernel_rfl
  case r14b => kernel_rfl
  case w14b => rfl
  case y14b => (intro u hu; (go_simp) <;> with_reducible rfl)
  try simp only [Act.put, List.setIfInBounds_toArray, List.set_cons_zero, List.set_cons_succ]
  refine wpAnyH_take (i := 15) (oi := ?o15bl) (v := .agg y.toArray) ?h15bl (by kernel_rfl) ?f15bl ?r15bl (fun _ _ _ h => h) ?y15bl (by assumption) ?t15bl
  case h15bl => simp only [List.getElem?_toArray]; rfl
  case f15bl => kernel_rfl
  case r15bl => kernel_rfl
  case y15bl => exact yieldsIf_load_mid (by rfl) 52 (.tmp 83) rfl g (o + 4) rfl y _ (fun u hu => range_later hu ry.out) Tryd.underlying52 rfl (by rw [ly.out]; kernel_rfl)
  try simp only [Act.put, List.setIfInBounds_toArray, List.set_cons_zero, List.set_cons_succ]
  refine wpAnyH_take (i := 19) (oi := ?o19b) (v := ?v19b) ?h19b (by kernel_rfl) ?f19b ?r19b (fun _ _ _ h => h) (Or.inl ⟨?w19b, ?y19b⟩) (by assumption) ?t19b
  case h19b => simp only [List.getElem?_toArray]; rfl
  case f19b => kernel_rfl
  case r19b => kernel_rfl
  case w19b => rfl
  case y19b => (intro u hu; (go_simp) <;> with_reducible rfl)
  try simp only [Act.put, List.setIfInBounds_toArray, List.set_cons_zero, List.set_cons_succ]
  refine wpAnyH_take (i := 20) (oi := ?o20b) (v := ?v20b) ?h20b (by kernel_rfl) ?f20b ?r20b (fun _ _ _ h => h) (Or.inl ⟨?w20b, ?y20b⟩) (by assumption) ?t20b
  case h20b => simp only [List.getElem?_toArray]; rfl
  case f20b => kernel_rfl
  case r20b => kernel_rfl
  case w20b => rfl
  case y20b => (intro u hu; (have hx := hu.cell c3; go_simp) <;> with_reducible rfl)
  try simp only [Act.put, List.setIfInBounds_toArray, List.set_cons_zero, List.set_cons_succ]
  refine wpAnyH_take (i := 21) (oi := ?o21b) (v := ?v21b) ?h21b (by kernel_rfl) ?f21b ?r21b (fun _ _ _ h => h) (Or.inl ⟨?w21b, ?y21b⟩) (by assumption) ?t21b
  case h21b => simp only [List.getElem?_toArray]; rfl
  case f21b => kernel_rfl
  case r21b => kernel_rfl
  case w21b => rfl
  case y21b => (intro u hu; (go_simp) <;> with_reducible rfl)
  try simp only [Act.put, List.setIfInBounds_toArray, List.set_cons_zero, List.set_cons_succ]
  refine wpAnyH_take (i := 22) (oi := ?o22bl) (v := .agg z.toArray) ?h22bl (by kernel_rfl) ?f22bl ?r22bl (fun _ _ _ h => h) ?y22bl (by assumption) ?t22bl
  case h22bl => simp only [List.getElem?_toArray]; rfl
  case f22bl => kernel_rfl
  case r22bl => kernel_rfl
  case y22bl => exact yieldsIf_load_mid (by rfl) 52 (.tmp 90) rfl g (o + 4 + 4) rfl z _ (fun u hu => range_later hu rz.out) Tryd.underlying52 rfl (by rw [lz.out]; kernel_rfl)
  try simp only [Act.put, List.setIfInBounds_toArray, List.set_cons_zero, List.set_cons_succ]
  refine wpAnyH_ready (rs := [2]) (by kernel_rfl) (by simp) ?_
  refine AllReadyH.cons (o := ?o2b) ?h2b (fun K hK => ?_) AllReadyH.nil
  case h2b => simp only [List.getElem?_toArray]; rfl
  go_simp
  refine (digits_c n ⟨n0, n1⟩ _).mono ?_
  rintro e V1 ⟨rfl, hb1⟩
  obtain ⟨d1, hd1⟩ : ∃ z, z = (⟨(Lib.itoa n).toArray⟩ : ByteArray) := ⟨_, rfl⟩
  have Hd1 : Hid (d1 = ⟨(Lib.itoa n).toArray⟩) := hd1
  rw [← hd1]
  have zd1 : d1.size ≤ 21 := by rw [hd1, size_of]; omega
  clear hd1
  refine hK.out _ _ (hH.trans hb1) (fun hH' => ?_)
  clear hK K hH
  have hH := hH'
  clear hH'
  try simp only [List.setIfInBounds_toArray, List.set]
  clear hb1
  obtain ⟨s2, hs2⟩ : ∃ z, z = (⟨#[98]⟩ : ByteArray) ++ d1 := ⟨_, rfl⟩
  have Hs2 : Hid (s2 = ⟨([98] ++ (Lib.itoa n)).toArray⟩) := by rw [hs2, Hd1.out]; exact text_app [98] _
  have hap := hs2.symm
  have zs2 : s2.size ≤ 4611686018427387904 := by rw [Hs2.out, size_of]; simp only [List.length_append, List.length_cons, List.length_nil]; omega
  have q9 : ¬ 9223372036854775807 < 1 + d1.size := by omega
  have q8 : ¬ 9223372036854775807 < (⟨#[98]⟩ : ByteArray).size + d1.size := by have : (⟨#[98]⟩ : ByteArray).size = 1 := rfl; omega
  clear hs2
  refine wpAnyH_take (i := 3) (oi := ?o3b) (v := ?v3b) ?h3b (by kernel_rfl) ?f3b ?r3b (fun _ _ _ h => h) (Or.inl ⟨?w3b, ?y3b⟩) (by assumption) ?t3b
  case h3b => simp only [List.getElem?_toArray]; rfl
  case f3b => kernel_rfl
  case r3b => kernel_rfl
  case w3b => rfl
  case y3b => (intro u hu; (go_simp) <;> with_reducible rfl)
  try simp only [Act.put, List.setIfInBounds_toArray, List.set_cons_zero, List.set_cons_succ]
  clear hap q9 q8
  obtain ⟨s3, hs3⟩ : ∃ z, z = s2 ++ (⟨#[40]⟩ : ByteArray) := ⟨_, rfl⟩
  have Hs3 : Hid (s3 = ⟨(([98] ++ (Lib.itoa n)) ++ [40]).toArray⟩) := by rw [hs3, Hs2.out]; exact text_app _ [40]
  have hap := hs3.symm
  have zs3 : s3.size ≤ 4611686018427387904 := by rw [Hs3.out, size_of]; simp only [List.length_append, List.length_cons, List.length_nil]; omega
  have q9 : ¬ 9223372036854775807 < s2.size + 1 := by omega
  have q8 : ¬ 9223372036854775807 < s2.size + (⟨#[40]⟩ : ByteArray).size := by have : (⟨#[40]⟩ : ByteArray).size = 1 := rfl; omega
  clear hs3
  refine wpAnyH_take (i := 4) (oi := ?o4b) (v := ?v4b) ?h4b (by kernel_rfl) ?f4b ?r4b (fun _ _ _ h => h) (Or.inl ⟨?w4b, ?y4b⟩) (by assumption) ?t4b
  case h4b => simp only [List.getElem?_toArray]; rfl
  case f4b => kernel_rfl
  case r4b => kernel_rfl
  case w4b => rfl
  case y4b => (intro u hu; (go_simp) <;> with_reducible rfl)
  try simp only [Act.put, List.setIfInBounds_toArray, List.set_cons_zero, List.set_cons_succ]
  clear hap q9 q8
  refine wpAnyH_ready (rs := [9]) (by kernel_rfl) (by simp) ?_
  refine AllReadyH.cons (o := ?o9b) ?h9b (fun K hK => ?_) AllReadyH.nil
  case h9b => simp only [List.getElem?_toArray]; rfl
  go_simp
  refine (hxn.out (by omega) _ (HB.out.trans (Below.mono hH HB.out.size))).mono ?_
  rintro e V2 ⟨rfl, hb1⟩
  obtain ⟨d4, hd4⟩ : ∃ z, z = (⟨a.toArray⟩ : ByteArray) := ⟨_, rfl⟩
  have Hd4 : Hid (d4 = ⟨a.toArray⟩) := hd4
  rw [← hd4]
  have zd4 : d4.size ≤ 4611686018427387900 := by rw [hd4, size_of]; omega
  clear hd4
  refine hK.out _ _ (hH.trans hb1) (fun hH' => ?_)
  clear hK K hH
  have hH := hH'
  clear hH'
  try simp only [List.setIfInBounds_toArray, List.set]
  clear hb1
  obtain ⟨s5, hs5⟩ : ∃ z, z = s3 ++ d4 := ⟨_, rfl⟩
  have Hs5 : Hid (s5 = ⟨((([98] ++ (Lib.itoa n)) ++ [40]) ++ a).toArray⟩) := by rw [hs5, Hs3.out, Hd4.out]; exact text_app _ _
  have hap := hs5.symm
  have zs5 : s5.size ≤ 4611686018427387904 := by rw [Hs5.out, size_of]; simp only [List.length_append, List.length_cons, List.length_nil]; omega
  have q9 : ¬ 9223372036854775807 < s3.size + d4.size := by omega
  have q8 : ¬ 9223372036854775807 < s3.size + d4.size := by omega
  clear hs5
  refine wpAnyH_take (i := 10) (oi := ?o10b) (v := ?v10b) ?h10b (by kernel_rfl) ?f10b ?r10b (fun _ _ _ h => h) (Or.inl ⟨?w10b, ?y10b⟩) (by assumption) ?t10b
  case h10b => simp only [List.getElem?_toArray]; rfl
  case f10b => kernel_rfl
  case r10b => kernel_rfl
  case w10b => rfl
  case y10b => (intro u hu; (go_simp) <;> with_reducible rfl)
  try simp only [Act.put, List.setIfInBounds_toArray, List.set_cons_zero, List.set_cons_succ]
  clear hap q9 q8
  obtain ⟨s6, hs6⟩ : ∃ z, z = s5 ++ (⟨#[44]⟩ : ByteArray) := ⟨_, rfl⟩
  have Hs6 : Hid (s6 = ⟨(((([98] ++ (Lib.itoa n)) ++ [40]) ++ a) ++ [44]).toArray⟩) := by rw [hs6, Hs5.out]; exact text_app _ [44]
  have hap := hs6.symm
  have zs6 : s6.size ≤ 4611686018427387904 := by rw [Hs6.out, size_of]; simp only [List.length_append, List.length_cons, List.length_nil]; omega
  have q9 : ¬ 9223372036854775807 < s5.size + 1 := by omega
  have q8 : ¬ 9223372036854775807 < s5.size + (⟨#[44]⟩ : ByteArray).size := by have : (⟨#[44]⟩ : ByteArray).size = 1 := rfl; omega
  clear hs6
  refine wpAnyH_take (i := 11) (oi := ?o11b) (v := ?v11b) ?h11b (by kernel_rfl) ?f11b ?r11b (fun _ _ _ h => h) (Or.inl ⟨?w11b, ?y11b⟩) (by assumption) ?t11b
  case h11b => simp only [List.getElem?_toArray]; rfl
  case f11b => kernel_rfl
  case r11b => kernel_rfl
  case w11b => rfl
  case y11b => (intro u hu; (go_simp) <;> with_reducible rfl)
  try simp only [Act.put, List.setIfInBounds_toArray, List.set_cons_zero, List.set_cons_succ]
  clear hap q9 q8
  refine wpAnyH_ready (rs := [16]) (by kernel_rfl) (by simp) ?_
  refine AllReadyH.cons (o := ?o16b) ?h16b (fun K hK => ?_) AllReadyH.nil
  case h16b => simp only [List.getElem?_toArray]; rfl
  go_simp
  refine (hyn.out (by omega) _ (HB.out.trans (Below.mono hH HB.out.size))).mono ?_
  rintro e V3 ⟨rfl, hb1⟩
  obtain ⟨d7, hd7⟩ : ∃ z, z = (⟨b.toArray⟩ : ByteArray) := ⟨_, rfl⟩
  have Hd7 : Hid (d7 = ⟨b.toArray⟩) := hd7
  rw [← hd7]
  have zd7 : d7.size ≤ 4611686018427387900 := by rw [hd7, size_of]; omega
  clear hd7
  refine hK.out _ _ (hH.trans hb1) (fun hH' => ?_)
  clear hK K hH
  have hH := hH'
  clear hH'
  try simp only [List.setIfInBounds_toArray, List.set]
  clear hb1
  obtain ⟨s8, hs8⟩ : ∃ z, z = s6 ++ d7 := ⟨_, rfl⟩
  have Hs8 : Hid (s8 = ⟨((((([98] ++ (Lib.itoa n)) ++ [40]) ++ a) ++ [44]) ++ b).toArray⟩) := by rw [hs8, Hs6.out, Hd7.out]; exact text_app _ _
  have hap := hs8.symm
  have zs8 : s8.size ≤ 4611686018427387904 := by rw [Hs8.out, size_of]; simp only [List.length_append, List.length_cons, List.length_nil]; omega
  have q9 : ¬ 9223372036854775807 < s6.size + d7.size := by omega
  have q8 : ¬ 9223372036854775807 < s6.size + d7.size := by omega
  clear hs8
  refine wpAnyH_take (i := 17) (oi := ?o17b) (v := ?v17b) ?h17b (by kernel_rfl) ?f17b ?r17b (fun _ _ _ h => h) (Or.inl ⟨?w17b, ?y17b⟩) (by assumption) ?t17b
  case h17b => simp only [List.getElem?_toArray]; rfl
  case f17b => kernel_rfl
  case r17b => kernel_rfl
  case w17b => rfl
  case y17b => (intro u hu; (go_simp) <;> with_reducible rfl)
  try simp only [Act.put, List.setIfInBounds_toArray, List.set_cons_zero, List.set_cons_succ]
  clear hap q9 q8
  obtain ⟨s9, hs9⟩ : ∃ z, z = s8 ++ (⟨#[44]⟩ : ByteArray) := ⟨_, rfl⟩
  have Hs9 : Hid (s9 = ⟨(((((([98] ++ (Lib.itoa n)) ++ [40]) ++ a) ++ [44]) ++ b) ++ [44]).toArray⟩) := by rw [hs9, Hs8.out]; exact text_app _ [44]
  have hap := hs9.symm
  have zs9 : s9.size ≤ 4611686018427387904 := by rw [Hs9.out, size_of]; simp only [List.length_append, List.length_cons, List.length_nil]; omega
  have q9 : ¬ 9223372036854775807 < s8.size + 1 := by omega
  have q8 : ¬ 9223372036854775807 < s8.size + (⟨#[44]⟩ : ByteArray).size := by have : (⟨#[44]⟩ : ByteArray).size = 1 := rfl; omega
  clear hs9
  refine wpAnyH_take (i := 18) (oi := ?o18b) (v := ?v18b) ?h18b (by kernel_rfl) ?f18b ?r18b (fun _ _ _ h => h) (Or.inl ⟨?w18b, ?y18b⟩) (by assumption) ?t18b
  case h18b => simp only [List.getElem?_toArray]; rfl
  case f18b => kernel_rfl
  case r18b => kernel_rfl
  case w18b => rfl
  case y18b => (intro u hu; (go_simp) <;> with_reducible rfl)
  try simp only [Act.put, List.setIfInBounds_toArray, List.set_cons_zero, List.set_cons_succ]
  clear hap q9 q8
  refine wpAnyH_ready (rs := [23]) (by kernel_rfl) (by simp) ?_
  refine AllReadyH.cons (o := ?o23b) ?h23b (fun K hK => ?_) AllReadyH.nil
  case h23b => simp only [List.getElem?_toArray]; rfl
  go_simp
  refine (hzn.out (by omega) _ (HB.out.trans (Below.mono hH HB.out.size))).mono ?_
  rintro e V4 ⟨rfl, hb1⟩
  obtain ⟨d10, hd10⟩ : ∃ z, z = (⟨d.toArray⟩ : ByteArray) := ⟨_, rfl⟩
  have Hd10 : Hid (d10 = ⟨d.toArray⟩) := hd10
  rw [← hd10]
  have zd10 : d10.size ≤ 4611686018427387900 := by rw [hd10, size_of]; omega
  clear hd10
  refine hK.out _ _ (hH.trans hb1) (fun hH' => ?_)
  clear hK K hH
  have hH := hH'
  clear hH'
  try simp only [List.setIfInBounds_toArray, List.set]
  clear hb1
  obtain ⟨s11, hs11⟩ : ∃ z, z = s9 ++ d10 := ⟨_, rfl⟩
  have Hs11 : Hid (s11 = ⟨((((((([98] ++ (Lib.itoa n)) ++ [40]) ++ a) ++ [44]) ++ b) ++ [44]) ++ d).toArray⟩) := by rw [hs11, Hs9.out, Hd10.out]; exact text_app _ _
  have hap := hs11.symm
  have zs11 : s11.size ≤ 4611686018427387904 := by rw [Hs11.out, size_of]; simp only [List.length_append, List.length_cons, List.length_nil]; omega
  have q9 : ¬ 9223372036854775807 < s9.size + d10.size := by omega
  have q8 : ¬ 9223372036854775807 < s9.size + d10.size := by omega
  clear hs11
  refine wpAnyH_take (i := 24) (oi := ?o24b) (v := ?v24b) ?h24b (by kernel_rfl) ?f24b ?r24b (fun _ _ _ h => h) (Or.inl ⟨?w24b, ?y24b⟩) (by assumption) ?t24b
  case h24b => simp only [List.getElem?_toArray]; rfl
  case f24b => kernel_rfl
  case r24b => kernel_rfl
  case w24b => rfl
  case y24b => (intro u hu; (go_simp) <;> with_reducible rfl)
  try simp only [Act.put, List.setIfInBounds_toArray, List.set_cons_zero, List.set_cons_succ]
  clear hap q9 q8
  obtain ⟨s12, hs12⟩ : ∃ z, z = s11 ++ (⟨#[41]⟩ : ByteArray) := ⟨_, rfl⟩
  have Hs12 : Hid (s12 = ⟨(((((((([98] ++ (Lib.itoa n)) ++ [40]) ++ a) ++ [44]) ++ b) ++ [44]) ++ d) ++ [41]).toArray⟩) := by rw [hs12, Hs11.out]; exact text_app _ [41]
  have hap := hs12.symm
  have zs12 : s12.size ≤ 4611686018427387904 := by rw [Hs12.out, size_of]; simp only [List.length_append, List.length_cons, List.length_nil]; omega
  have q9 : ¬ 9223372036854775807 < s11.size + 1 := by omega
  have q8 : ¬ 9223372036854775807 < s11.size + (⟨#[41]⟩ : ByteArray).size := by have : (⟨#[41]⟩ : ByteArray).size = 1 := rfl; omega
  clear hs12
  refine wpAnyH_take (i := 25) (oi := ?o25b) (v := ?v25b) ?h25b (by kernel_rfl) ?f25b ?r25b (fun _ _ _ h => h) (Or.inl ⟨?w25b, ?y25b⟩) (by assumption) ?t25b
  case h25b => simp only [List.getElem?_toArray]; rfl
  case f25b => kernel_rfl
  case r25b => kernel_rfl
  case w25b => rfl
  case y25b => (intro u hu; (go_simp) <;> with_reducible rfl)
  try simp only [Act.put, List.setIfInBounds_toArray, List.set_cons_zero, List.set_cons_succ]
  clear hap q9 q8
  refine wpAnyH_take (i := 26) (oi := ?o26b) (v := ?v26b) ?h26b (by kernel_rfl) ?f26b ?r26b (fun _ _ _ h => h) (Or.inl ⟨?w26b, ?y26b⟩) (by assumption) ?t26b
  case h26b => simp only [List.getElem?_toArray]; rfl
  case f26b => kernel_rfl
  case r26b => kernel_rfl
  case w26b => rfl
  case y26b => (intro u hu; (go_simp) <;> with_reducible rfl)
  try simp only [Act.put, List.setIfInBounds_toArray, List.set_cons_zero, List.set_cons_succ]
  refine wpAnyH_done (by kernel_rfl) ?_ _
  refine NoPanic.normal ?_
  have hend : s12 = ⟨((bxN n a b d)).toArray⟩ := by rw [Hs12.out]; simp [bxN]
  have hb2 : Below w.heap.size w _ := HBW.out.trans (Below.mono hH HBW.out.size)
  rw [hend]
  go_wp2
  go_ret
  exact ⟨rfl, hb2⟩
/-- portholeref12's Name of a term's cells is its name. -/
theorem name12_c {u : World} {base : Nat} {cs : List Value} {l : List UInt8} (h : Rt u base cs l) : Named u cs l :=
  h (Named u) (fun n m => named_none u n m _) (fun n m => named_empty u n m _) (fun n m => named_atom u n m _) (fun n m => named_pub u n m _) (fun n m n0 n1 m0 m1 => named_shared u n m _ n0 n1 m0 m1)
    (fun n m g o c x y a b n0 n1 _ qx qy hr px py => named_chain u n m g o c x y a b n0 n1 qx qy hr px py) (fun n m g o c x y a b _ qx qy hr px py => named_digest u n m g o c x y a b qx qy hr px py)
    (fun n m g o c x y z a b d n0 n1 _ qx qy qz hr px py pz => named_box u n m g o c x y z a b d n0 n1 qx qy qz hr px py pz)
end Go.Proofs.YtifcdmiopanedaaDoor
