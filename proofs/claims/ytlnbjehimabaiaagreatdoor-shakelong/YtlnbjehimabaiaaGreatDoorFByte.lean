/-
 What field's From and Bytes do, for whatever 32 bytes and whatever number below p. No statement of the seat is proved here.
-/
import Derived.Test.YtlnbjehimabaiaaGreatDoorPk1
import Derived.Test.YtlnbjehimabaiaaGreatDoorFInv
import Derived.Test.YtlnbjehimabaiaaGreatDoorOBase
import Derived.Deep.MidRow
namespace Go.Proofs.YtlnbjehimabaiaaGreatDoor.Fc
open Go.RowKit
set_option maxRecDepth 8000

/-- Thirty-two bytes. -/
structure By (l : List Int) : Prop where
 len : l.length = 32
 byt : Byt l
theorem leN_bound : ∀ (l : List Int), Byt l → 0 ≤ leN l ∧ leN l < 256 ^ l.length
 | [], _ => by simp [leN]
 | x :: l, h => by
  have ih := leN_bound l (fun y hy => h y (by simp [hy]))
  have hx := h x (by simp)
  rw [leN, List.length_cons, Int.pow_succ]
  omega
theorem leN_app : ∀ (a b : List Int), leN (a ++ b) = leN a + 256 ^ a.length * leN b
 | [], b => by simp [leN]
 | x :: a, b => by
  rw [List.cons_append, leN, leN_app a b, leN, List.length_cons, Int.pow_succ, Int.mul_add, Int.add_assoc, Int.mul_comm (256 ^ a.length) 256, Int.mul_assoc]
/-- The number of thirty-two bytes, as From takes it. -/
def num (l : List Int) : Int := leN l % 57896044618658097711785492504343953926634992332820282019728792003956564819968 % 57896044618658097711785492504343953926634992332820282019728792003956564819949
theorem num_el (l : List Int) : El (num l) := El.mod _
theorem eight (l : List Int) (h : Byt l) (hl : 8 ≤ l.length) : Wd (leN (l.take 8)) ∧ leN l = leN (l.take 8) + 18446744073709551616 * leN (l.drop 8) := by
 have hb := leN_bound (l.take 8) (h.take 8)
 have e : (l.take 8).length = 8 := by rw [List.length_take]; omega
 rw [e] at hb
 refine ⟨⟨hb.1, by have := hb.2; omega⟩, ?_⟩
 have := leN_app (l.take 8) (l.drop 8)
 rw [List.take_append_drop, e] at this
 rw [this]
 rfl
theorem four {l : List Int} (h : By l) : leN l = vl (leN (l.take 8)) (leN ((l.drop 8).take 8)) (leN ((l.drop 16).take 8)) (leN ((l.drop 24).take 8)) := by
 have a1 := (eight l h.byt (by rw [h.len]; decide)).2
 have a2 := (eight (l.drop 8) (h.byt.drop 8) (by rw [List.length_drop, h.len]; decide)).2
 have a3 := (eight (l.drop 16) (h.byt.drop 16) (by rw [List.length_drop, h.len]; decide)).2
 have a4 := (eight (l.drop 24) (h.byt.drop 24) (by rw [List.length_drop, h.len]; decide)).2
 rw [List.drop_drop] at a2 a3 a4
 have z : l.drop (24 + 8) = [] := List.drop_eq_nil_of_le (by rw [h.len]; decide)
 rw [z] at a4
 simp only [Nat.reduceAdd, leN] at a1 a2 a3 a4
 unfold vl
 omega
theorem rd_arr (w : World) (l : List Int) (hl : By l) (t : TypeId) (k : Nat) (hk : k ≤ 32) : Rd (w.alloc (.cells (List.map (Value.int .u8) l).toArray t)) (some ⟨w.heap.size, k, none⟩) (32 - k) (32 - k) (l.drop k) :=
 ⟨by rw [List.length_drop, hl.len], Nat.le_refl _, (fun h => by cases h), hl.byt.drop k, fun _ => ⟨w.heap.size, k, rfl, fun i hi => by
  rw [cell_of_row _ _ _ _ _ _ (heap_alloc_new w _)]
  have h2 : k + i < l.length := by rw [hl.len]; omega
  simp [List.getElem?_eq_getElem h2]⟩⟩
theorem get64_g (a : Option Addr) (len cap : Nat) (l : List Int) (w : World) (hr : Rd w a len cap l) (hm : len ≤ 32) (h8 : 8 ≤ len) :
  Calls Tryz.prog 91 #[.slice a len cap] w fun e w' => ∃ g, e = .returned (.tuple #[.int .u64 g, .bool true]) ∧ Wd g ∧ Hid (g = leN (l.take 8)) ∧ w' = w := by
 refine (get64_any a len cap l w hr (by omega)).mono ?_
 rintro e w' ⟨rfl, hw⟩
 have hl : 8 ≤ l.length := by rw [hr.hlen]; exact h8
 refine ⟨got 8 l, by simp [h8], ?_, ?_, hw⟩
 ·unfold got
  rw [if_pos hl]
  exact (eight l hr.byt hl).1
 ·unfold Hid got
  rw [if_pos hl]

set_option maxHeartbeats 2000000 in
theorem from_e (l : List Int) (hl : By l) (w : World) :
  Calls Tryz.prog 64 #[(.agg (List.map (Value.int .u8) l).toArray)] w fun e w' => ∃ z, e = .returned (.agg (ea z)) ∧ El z ∧ Hid (z = num l) ∧ Below w.heap.size w w' := by
 have z : Wd 0 := ⟨by decide, by decide⟩
 go_enter Tryz.func64, Tryz.ntmps64
 go_wp2_with fail
 refine (get64_g _ _ _ (l.drop 0) _ (by exact ((rd_arr w l hl 30 0 (by decide)).alloc _).alloc _) (by decide) (by decide)).mono ?_
 rintro e w' ⟨g0, rfl, hg0, HG0, hw⟩
 rw [hw]; clear hw w'
 go_wp2_with fail
 refine (get64_g _ _ _ (l.drop 8) _ (by exact ((rd_arr w l hl 30 8 (by decide)).alloc _).alloc _) (by decide) (by decide)).mono ?_
 rintro e w' ⟨g1, rfl, hg1, HG1, hw⟩
 rw [hw]; clear hw w'
 go_wp2_with fail
 refine (get64_g _ _ _ (l.drop 16) _ (by exact ((rd_arr w l hl 30 16 (by decide)).alloc _).alloc _) (by decide) (by decide)).mono ?_
 rintro e w' ⟨g2, rfl, hg2, HG2, hw⟩
 rw [hw]; clear hw w'
 go_wp2_with fail
 refine (get64_g _ _ _ (l.drop 24) _ (by exact ((rd_arr w l hl 30 24 (by decide)).alloc _).alloc _) (by decide) (by decide)).mono ?_
 rintro e w' ⟨g3, rfl, hg3, HG3, hw⟩
 rw [hw]; clear hw w'
 have m3 := mask63 g3 hg3
 generalize hq : g3 % 9223372036854775808 = q at m3
 have HQ : Hid (q = g3 % 9223372036854775808) := hq.symm
 have hqw : Wd q := by obtain ⟨_, _⟩ := hg3; exact ⟨by omega, by omega⟩
 clear hq
 go_wp2_with fail
 refine (reduce_e _ _ _ _ _ ⟨hg0, hg1, hg2, hqw⟩ ⟨by decide, by decide⟩ _).mono ?_
 rintro e w1 ⟨v, rfl, hv, HV, hb⟩
 have HB : Hid (Below w.heap.size w w1) := (bel3 _ _ _ _).trans (hb.mono (by simp; omega))
 have HZ : Hid (v = num l) := by
  unfold Hid num
  rw [HV.out, four hl]
  have a0 := HG0.out
  have a1 := HG1.out
  have a2 := HG2.out
  have a3 := HG3.out
  rw [List.drop_zero] at a0
  rw [← a0, ← a1, ← a2, ← a3, HQ.out]
  congr 1
  obtain ⟨_, _⟩ := hg0
  obtain ⟨_, _⟩ := hg1
  obtain ⟨_, _⟩ := hg2
  obtain ⟨_, _⟩ := hg3
  unfold vl
  omega
 have dc0' : w1.cell? ⟨w.heap.size + 1, 0, none⟩ = some (.int .u64 0) := cell_later hb (by simp [go_sem])
 have df0' : w1.frozen? ⟨w.heap.size + 1, 0, none⟩ = false := froz_later hb (by first | omega | (simp <;> omega)) (by simp [go_sem])
 have dc1' : w1.cell? ⟨w.heap.size + 1, 1, none⟩ = some (.int .u64 0) := cell_later hb (by simp [go_sem])
 have df1' : w1.frozen? ⟨w.heap.size + 1, 1, none⟩ = false := froz_later hb (by first | omega | (simp <;> omega)) (by simp [go_sem])
 have dc2' : w1.cell? ⟨w.heap.size + 1, 2, none⟩ = some (.int .u64 0) := cell_later hb (by simp [go_sem])
 have df2' : w1.frozen? ⟨w.heap.size + 1, 2, none⟩ = false := froz_later hb (by first | omega | (simp <;> omega)) (by simp [go_sem])
 have dc3' : w1.cell? ⟨w.heap.size + 1, 3, none⟩ = some (.int .u64 0) := cell_later hb (by simp [go_sem])
 have df3' : w1.frozen? ⟨w.heap.size + 1, 3, none⟩ = false := froz_later hb (by first | omega | (simp <;> omega)) (by simp [go_sem])
 clear hb HV
 have dc0 := dc0'
 have df0 := df0'
 have dc1 := dc1'
 have df1 := df1'
 have dc2 := dc2'
 have df2 := df2'
 have dc3 := dc3'
 have df3 := df3'
 clear dc0' df0' dc1' df1' dc2' df2' dc3' df3'
 go_wp2
 refine bodyPost_ret (v := (.agg (ea v))) (by simp [results, Tryz.results64, go_sem, dc0, dc1, dc2, dc3]) rfl ⟨_, rfl, hv, HZ, ?_⟩
 exact ((((HB.out.setCell (by dsimp only; omega) _).setCell (by dsimp only; omega) _).setCell (by dsimp only; omega) _).setCell (by dsimp only; omega) _)

/-! ### Bytes -/
theorem there_later {W w1 : World} (hb : Below W.heap.size W w1) {b o n : Nat} (h : W.there b o n) : w1.there b o n := fun j hj => by
 obtain ⟨h1, h2⟩ := h j hj
 obtain ⟨v, hv⟩ := Option.isSome_iff_exists.1 h1
 exact ⟨by rw [cell_later hb hv]; rfl, froz_later hb (World.block_lt_of_cell? W _ hv) h2⟩
theorem range_later {W w1 : World} (hb : Below W.heap.size W w1) {b o : Nat} {cs : List Value} (h : W.rangeAt b o cs) : w1.rangeAt b o cs := fun j v hv => cell_later hb (h j v hv)
theorem below_setCells {B : Nat} {a : World} (b : Nat) (hb : B ≤ b) : ∀ (vs : List Value) (o : Nat) (u : World), Below B a u → Below B a (u.setCells b o vs)
 | [], _, _, h => h
 | v :: vs, o, _, h => below_setCells b hb vs (o + 1) _ (h.setCell (p := ⟨b, o, none⟩) hb v)
theorem extB_setCells {b : Nat} {a : World} : ∀ (vs : List Value) (o : Nat) (u : World), ExtB b a u → ExtB b a (u.setCells b o vs)
 | [], _, _, h => h
 | v :: vs, o, _, h => extB_setCells vs (o + 1) _ (h.set o v)
theorem range_app {w : World} {b o : Nat} {xs ys : List Value} (h1 : w.rangeAt b o xs) (h2 : w.rangeAt b (o + xs.length) ys) : w.rangeAt b o (xs ++ ys) := fun j v hv => by
 by_cases hj : j < xs.length
 ·rw [List.getElem?_append_left hj] at hv
  exact h1 j v hv
 ·rw [List.getElem?_append_right (by omega)] at hv
  have := h2 _ v hv
  rwa [show o + xs.length + (j - xs.length) = o + j by omega] at this
theorem there_new (w : World) (n : Nat) (cs : Array Value) (hn : cs.size = n) (t : TypeId) : (w.alloc (.cells cs t)).there w.heap.size 0 n := fun j hj => by
 subst hn
 refine ⟨?_, ?_⟩
 ·rw [Nat.zero_add, cell_of_row _ _ _ _ _ _ (heap_alloc_new w _)]
  simp [Array.getElem?_eq_getElem hj]
 ·simp [go_sem]
theorem put64_g (n : Int) (w : World) (h : Wd n) :
  Calls Tryz.prog 86 #[.int .u64 n] w fun e w' => ∃ g, e = .returned (.slice (some ⟨g, 0, none⟩) 8 8) ∧ Hid (w'.rangeAt g 0 ((lay 8 n).map (Value.int .u8))) ∧ Below w.heap.size w w' := by
 refine (put64_any n w h.1 h.2).mono ?_
 rintro e w' ⟨rfl, hr, hb⟩
 refine ⟨_, rfl, fun j v hv => ?_, hb⟩
 obtain ⟨b, off, ha, hc⟩ := hr.cell (by decide)
 cases ha
 have hj : j < 8 := by
  have := (List.getElem?_eq_some_iff.1 hv).1
  simpa [lay_length] using this
 rw [hc j hj]
 rw [List.getElem?_map] at hv
 cases hx : (lay 8 n)[j]? with
 | none => rw [hx] at hv; cases hv
 | some y => rw [hx] at hv; simpa using hv
theorem copy8 (u : World) (b o g : Nat) (n : Int) (dl dc : Nat) (hd : 8 ≤ dl) (hr : u.rangeAt g 0 ((lay 8 n).map (Value.int .u8))) (ht : u.there b o 8) (ty : TypeId) :
  Sem.run Tryz.prog (Builtin.copy_ #[25, 25] ty #[.slice (some ⟨b, o, none⟩) dl dc, .slice (some ⟨g, 0, none⟩) 8 8]) u = .ok (goInt 8) (u.setCells b o ((lay 8 n).map (Value.int .u8))) := by
 have hl : ((lay 8 n).map (Value.int .u8)).length = 8 := by rw [List.length_map, lay_length]
 have := run_copy_cells (P := Tryz.prog) u 25 25 ty 5 b o dl dc ⟨g, 0, none⟩ 8 8 ((lay 8 n).map (Value.int .u8)) Tryz.underlying25 (by kernel_rfl) (by rw [hl]; exact (Nat.min_eq_left hd).symm)
  (fun j v hv => by rw [Addr.add_mid]; exact hr j v hv) (fun j hj => (ht j (by rw [hl] at hj; exact hj)).1) (fun j hj => (ht j (by rw [hl] at hj; exact hj)).2) (bytes_oneCell _)
 rw [hl] at this
 exact this

theorem lay_app : ∀ (j k : Nat) (n : Int), lay (j + k) n = lay j n ++ lay k (n / 256 ^ j)
 | 0, k, n => by simp [lay]
 | j + 1, k, n => by
  rw [show j + 1 + k = (j + k) + 1 by omega, lay, lay_app j k, lay, List.cons_append, Int.pow_succ, Int.mul_comm (256 ^ j) 256, Int.ediv_ediv_of_nonneg (by decide)]
theorem lay_mod : ∀ (k : Nat) (n : Int), lay k (n % 256 ^ k) = lay k n
 | 0, _ => rfl
 | k + 1, n => by
  rw [lay, lay, Int.pow_succ, Int.mul_comm (256 ^ k) 256]
  have h1 : n % (256 * 256 ^ k) % 256 = n % 256 := Int.emod_emod_of_dvd n ⟨256 ^ k, rfl⟩
  have h2 : n % (256 * 256 ^ k) / 256 = n / 256 % 256 ^ k := by
   rw [Int.emod_def n (256 * 256 ^ k), ← Int.ediv_ediv_of_nonneg (by decide), Int.sub_eq_add_neg, ← Int.mul_neg, Int.mul_assoc, Int.add_mul_ediv_left _ _ (by decide), Int.mul_neg, ← Int.sub_eq_add_neg, ← Int.emod_def]
  rw [h1, h2, lay_mod k]
theorem lay32 (x : Int) : lay 32 x = lay 8 (e0 x) ++ lay 8 (e1 x) ++ lay 8 (e2 x) ++ lay 8 (e3 x) := by
 have q0 : lay 8 (e0 x) = lay 8 x := lay_mod 8 x
 have q1 : lay 8 (e1 x) = lay 8 (x / 18446744073709551616) := lay_mod 8 _
 have q2 : lay 8 (e2 x) = lay 8 (x / 340282366920938463463374607431768211456) := lay_mod 8 _
 have q3 : lay 8 (e3 x) = lay 8 (x / 6277101735386680763835789423207666416102355444464034512896) := rfl
 rw [q0, q1, q2, q3]
 have a1 := lay_app 24 8 x
 have a2 := lay_app 16 8 x
 have a3 := lay_app 8 8 x
 rw [show 24 + 8 = 32 from rfl] at a1
 rw [show 16 + 8 = 24 from rfl] at a2
 rw [show 8 + 8 = 16 from rfl] at a3
 rw [a1, a2, a3]
 rfl

set_option maxHeartbeats 4000000 in
theorem bytes_e (x : Int) (hx : El x) (w : World) :
  Calls Tryz.prog 72 #[(.agg (ea x))] w fun e w' => e = .returned (.agg (List.map (Value.int .u8) (lay 32 x)).toArray) ∧ Below w.heap.size w w' := by
 go_enter Tryz.func72, Tryz.ntmps72
 go_upto_region 2 with fail
 have HD : Hid ((((w.alloc (.cells (ea x) 101)).alloc (.cells zb32 30)).alloc (.cells zb32 30)).there (w.heap.size + 1) 0 32) := there_later (bel1 _ _) (by have := there_new (w.alloc (.cells (ea x) 101)) 32 zb32 rfl 30; simpa using this)
 have HT : Hid ((((w.alloc (.cells (ea x) 101)).alloc (.cells zb32 30)).alloc (.cells zb32 30)).there (w.heap.size + 2) 0 32) := by have := there_new ((w.alloc (.cells (ea x) 101)).alloc (.cells zb32 30)) 32 zb32 rfl 30; simpa [Hid] using this
 have Vx : Hid (Var (((w.alloc (.cells (ea x) 101)).alloc (.cells zb32 30)).alloc (.cells zb32 30)) (w.heap.size) x) := ((var_new w x 101).later (bel1 _ _)).later (bel1 _ _)
 have HB : Hid (Below w.heap.size w (((w.alloc (.cells (ea x) 101)).alloc (.cells zb32 30)).alloc (.cells zb32 30))) := bel3 _ _ _ _
 have hz : w.heap.size + 2 < (((w.alloc (.cells (ea x) 101)).alloc (.cells zb32 30)).alloc (.cells zb32 30)).heap.size := by simp
 generalize ((w.alloc (.cells (ea x) 101)).alloc (.cells zb32 30)).alloc (.cells zb32 30) = W0 at *
 obtain ⟨c0, c1, c2, c3⟩ := Vx.out
 have xu : ∀ u, ExtB (w.heap.size + 2) W0 u → u.cell? ⟨w.heap.size, 0, none⟩ = some (.int .u64 (e0 x)) := fun u hu => hu.cell (by omega) c0
 clear c0 c1 c2 c3
 refine wp_region_noPanic ?_
 refine wp_region_held_drew (S := ExtB (w.heap.size + 2) W0) (by kernel_rfl) (ExtB.refl _ _).drew (fun hH => ?_)
 refine tn 0 ?_
 refine tn 1 ?_
 refine tn 2 ?_
 refine tn 3 ?_
 refine rdy 4 (fun K hK => ?_)
 go_simp
 refine (put64_g (e0 x) _ hx.wd.h0).mono ?_
 rintro e wa ⟨g, rfl, HR, hb⟩
 refine kop hK (hH.trans hb) fun hH => ?_; clear hK K
 clear xu
 have hb' : Below W0.heap.size W0 wa := (Below.refl _ _).drew.trans (hb.mono (Nat.le_refl _))
 clear hb
 have hcp := fun ty => copy8 wa (w.heap.size + 2) 0 g (e0 x) 32 32 (by decide) HR.out (fun j hj => by have := there_later hb' HT.out (0 + j) (by omega); simpa using this) ty
 refine rdy 5 (fun K hK => ?_)
 go_simp
 refine kop hK (extB_setCells _ _ _ hH) fun hH => ?_; clear hK K
 refine wpAnyH_done (by kernel_rfl) ?_ _
 refine NoPanic.normal ?_
 clear hcp hH
 go_upto_region 3 with fail
 have hl8 : (List.map (Value.int .u8) (lay 8 (e0 x))).length = 8 := by rw [List.length_map, lay_length]
 have HD' : Hid ((wa.setCells (w.heap.size + 2) 0 (List.map (Value.int .u8) (lay 8 (e0 x)))).there (w.heap.size + 1) 0 32) := World.there_setCells (there_later hb' HD.out) _ _ _
 have HT' : Hid ((wa.setCells (w.heap.size + 2) 0 (List.map (Value.int .u8) (lay 8 (e0 x)))).there (w.heap.size + 2) 0 32) := World.there_setCells (there_later hb' HT.out) _ _ _
 have Vx' : Hid (Var (wa.setCells (w.heap.size + 2) 0 (List.map (Value.int .u8) (lay 8 (e0 x)))) (w.heap.size) x) := by
  obtain ⟨a0, a1, a2, a3⟩ := Vx.out.later hb'
  refine ⟨?_, ?_, ?_, ?_⟩ <;> rw [World.cell?_setCells_out _ _ _ _ _ (fun h _ => absurd h (by dsimp only; omega))] <;> assumption
 have HB' : Hid (Below w.heap.size w (wa.setCells (w.heap.size + 2) 0 (List.map (Value.int .u8) (lay 8 (e0 x))))) := below_setCells _ (by omega) _ _ _ (HB.out.trans (hb'.mono (by omega)))
 have hz' : w.heap.size + 2 < (wa.setCells (w.heap.size + 2) 0 (List.map (Value.int .u8) (lay 8 (e0 x)))).heap.size := by
  obtain ⟨v, hv⟩ := Option.isSome_iff_exists.1 (HT'.out 0 (by decide)).1
  exact World.block_lt_of_cell? _ _ hv
 have R0 : Hid ((wa.setCells (w.heap.size + 2) 0 (List.map (Value.int .u8) (lay 8 (e0 x)))).rangeAt (w.heap.size + 2) 0 (List.map (Value.int .u8) (lay 8 (e0 x)))) := World.rangeAt_setCells_same _ _ _ _ (by rw [hl8]; intro j hj; have := there_later hb' HT.out (0 + j) (by omega); simpa using this)
 clear HD HT Vx HB hz hb' HR hl8
 generalize wa.setCells (w.heap.size + 2) 0 (List.map (Value.int .u8) (lay 8 (e0 x))) = W1 at *
 have HD := HD'
 have HT := HT'
 have Vx := Vx'
 have HB := HB'
 have hz := hz'
 clear HD' HT' Vx' HB' hz'
 obtain ⟨c0, c1, c2, c3⟩ := Vx.out
 have xu : ∀ u, ExtB (w.heap.size + 2) W1 u → u.cell? ⟨w.heap.size, 1, none⟩ = some (.int .u64 (e1 x)) := fun u hu => hu.cell (by omega) c1
 clear c0 c1 c2 c3
 refine wp_region_noPanic ?_
 refine wp_region_held_drew (S := ExtB (w.heap.size + 2) W1) (by kernel_rfl) (ExtB.refl _ _).drew (fun hH => ?_)
 refine tn 0 ?_
 refine tn 1 ?_
 refine tn 2 ?_
 refine tn 3 ?_
 refine rdy 4 (fun K hK => ?_)
 go_simp
 refine (put64_g (e1 x) _ hx.wd.h1).mono ?_
 rintro e wa ⟨g, rfl, HR, hb⟩
 refine kop hK (hH.trans hb) fun hH => ?_; clear hK K
 clear xu
 have hb' : Below W1.heap.size W1 wa := (Below.refl _ _).drew.trans (hb.mono (Nat.le_refl _))
 clear hb
 have hcp := fun ty => copy8 wa (w.heap.size + 2) 8 g (e1 x) 24 24 (by decide) HR.out (fun j hj => by have := there_later hb' HT.out (8 + j) (by omega); simpa using this) ty
 refine rdy 5 (fun K hK => ?_)
 go_simp
 refine kop hK (extB_setCells _ _ _ hH) fun hH => ?_; clear hK K
 refine wpAnyH_done (by kernel_rfl) ?_ _
 refine NoPanic.normal ?_
 clear hcp hH
 go_upto_region 4 with fail
 have hl8 : (List.map (Value.int .u8) (lay 8 (e1 x))).length = 8 := by rw [List.length_map, lay_length]
 have HD' : Hid ((wa.setCells (w.heap.size + 2) 8 (List.map (Value.int .u8) (lay 8 (e1 x)))).there (w.heap.size + 1) 0 32) := World.there_setCells (there_later hb' HD.out) _ _ _
 have HT' : Hid ((wa.setCells (w.heap.size + 2) 8 (List.map (Value.int .u8) (lay 8 (e1 x)))).there (w.heap.size + 2) 0 32) := World.there_setCells (there_later hb' HT.out) _ _ _
 have Vx' : Hid (Var (wa.setCells (w.heap.size + 2) 8 (List.map (Value.int .u8) (lay 8 (e1 x)))) (w.heap.size) x) := by
  obtain ⟨a0, a1, a2, a3⟩ := Vx.out.later hb'
  refine ⟨?_, ?_, ?_, ?_⟩ <;> rw [World.cell?_setCells_out _ _ _ _ _ (fun h _ => absurd h (by dsimp only; omega))] <;> assumption
 have HB' : Hid (Below w.heap.size w (wa.setCells (w.heap.size + 2) 8 (List.map (Value.int .u8) (lay 8 (e1 x))))) := below_setCells _ (by omega) _ _ _ (HB.out.trans (hb'.mono (by omega)))
 have hz' : w.heap.size + 2 < (wa.setCells (w.heap.size + 2) 8 (List.map (Value.int .u8) (lay 8 (e1 x)))).heap.size := by
  obtain ⟨v, hv⟩ := Option.isSome_iff_exists.1 (HT'.out 0 (by decide)).1
  exact World.block_lt_of_cell? _ _ hv
 have R1 : Hid ((wa.setCells (w.heap.size + 2) 8 (List.map (Value.int .u8) (lay 8 (e1 x)))).rangeAt (w.heap.size + 2) 8 (List.map (Value.int .u8) (lay 8 (e1 x)))) := World.rangeAt_setCells_same _ _ _ _ (by rw [hl8]; intro j hj; have := there_later hb' HT.out (8 + j) (by omega); simpa using this)
 have R0' : Hid ((wa.setCells (w.heap.size + 2) 8 (List.map (Value.int .u8) (lay 8 (e1 x)))).rangeAt (w.heap.size + 2) 0 (List.map (Value.int .u8) (lay 8 (e0 x)))) := World.rangeAt_setCells_apart (range_later hb' R0.out) _ _ _ (.inr (.inl (by rw [List.length_map, lay_length]; decide)))
 clear HD HT Vx HB hz R0 hb' HR hl8
 generalize wa.setCells (w.heap.size + 2) 8 (List.map (Value.int .u8) (lay 8 (e1 x))) = W2 at *
 have HD := HD'
 have HT := HT'
 have Vx := Vx'
 have HB := HB'
 have hz := hz'
 have R0 := R0'
 clear HD' HT' Vx' HB' hz' R0'
 obtain ⟨c0, c1, c2, c3⟩ := Vx.out
 have xu : ∀ u, ExtB (w.heap.size + 2) W2 u → u.cell? ⟨w.heap.size, 2, none⟩ = some (.int .u64 (e2 x)) := fun u hu => hu.cell (by omega) c2
 clear c0 c1 c2 c3
 refine wp_region_noPanic ?_
 refine wp_region_held_drew (S := ExtB (w.heap.size + 2) W2) (by kernel_rfl) (ExtB.refl _ _).drew (fun hH => ?_)
 refine tn 0 ?_
 refine tn 1 ?_
 refine tn 2 ?_
 refine tn 3 ?_
 refine rdy 4 (fun K hK => ?_)
 go_simp
 refine (put64_g (e2 x) _ hx.wd.h2).mono ?_
 rintro e wa ⟨g, rfl, HR, hb⟩
 refine kop hK (hH.trans hb) fun hH => ?_; clear hK K
 clear xu
 have hb' : Below W2.heap.size W2 wa := (Below.refl _ _).drew.trans (hb.mono (Nat.le_refl _))
 clear hb
 have hcp := fun ty => copy8 wa (w.heap.size + 2) 16 g (e2 x) 16 16 (by decide) HR.out (fun j hj => by have := there_later hb' HT.out (16 + j) (by omega); simpa using this) ty
 refine rdy 5 (fun K hK => ?_)
 go_simp
 refine kop hK (extB_setCells _ _ _ hH) fun hH => ?_; clear hK K
 refine wpAnyH_done (by kernel_rfl) ?_ _
 refine NoPanic.normal ?_
 clear hcp hH
 go_upto_region 5 with fail
 have hl8 : (List.map (Value.int .u8) (lay 8 (e2 x))).length = 8 := by rw [List.length_map, lay_length]
 have HD' : Hid ((wa.setCells (w.heap.size + 2) 16 (List.map (Value.int .u8) (lay 8 (e2 x)))).there (w.heap.size + 1) 0 32) := World.there_setCells (there_later hb' HD.out) _ _ _
 have HT' : Hid ((wa.setCells (w.heap.size + 2) 16 (List.map (Value.int .u8) (lay 8 (e2 x)))).there (w.heap.size + 2) 0 32) := World.there_setCells (there_later hb' HT.out) _ _ _
 have Vx' : Hid (Var (wa.setCells (w.heap.size + 2) 16 (List.map (Value.int .u8) (lay 8 (e2 x)))) (w.heap.size) x) := by
  obtain ⟨a0, a1, a2, a3⟩ := Vx.out.later hb'
  refine ⟨?_, ?_, ?_, ?_⟩ <;> rw [World.cell?_setCells_out _ _ _ _ _ (fun h _ => absurd h (by dsimp only; omega))] <;> assumption
 have HB' : Hid (Below w.heap.size w (wa.setCells (w.heap.size + 2) 16 (List.map (Value.int .u8) (lay 8 (e2 x))))) := below_setCells _ (by omega) _ _ _ (HB.out.trans (hb'.mono (by omega)))
 have hz' : w.heap.size + 2 < (wa.setCells (w.heap.size + 2) 16 (List.map (Value.int .u8) (lay 8 (e2 x)))).heap.size := by
  obtain ⟨v, hv⟩ := Option.isSome_iff_exists.1 (HT'.out 0 (by decide)).1
  exact World.block_lt_of_cell? _ _ hv
 have R2 : Hid ((wa.setCells (w.heap.size + 2) 16 (List.map (Value.int .u8) (lay 8 (e2 x)))).rangeAt (w.heap.size + 2) 16 (List.map (Value.int .u8) (lay 8 (e2 x)))) := World.rangeAt_setCells_same _ _ _ _ (by rw [hl8]; intro j hj; have := there_later hb' HT.out (16 + j) (by omega); simpa using this)
 have R0' : Hid ((wa.setCells (w.heap.size + 2) 16 (List.map (Value.int .u8) (lay 8 (e2 x)))).rangeAt (w.heap.size + 2) 0 (List.map (Value.int .u8) (lay 8 (e0 x)))) := World.rangeAt_setCells_apart (range_later hb' R0.out) _ _ _ (.inr (.inl (by rw [List.length_map, lay_length]; decide)))
 have R1' : Hid ((wa.setCells (w.heap.size + 2) 16 (List.map (Value.int .u8) (lay 8 (e2 x)))).rangeAt (w.heap.size + 2) 8 (List.map (Value.int .u8) (lay 8 (e1 x)))) := World.rangeAt_setCells_apart (range_later hb' R1.out) _ _ _ (.inr (.inl (by rw [List.length_map, lay_length]; decide)))
 clear HD HT Vx HB hz R0 R1 hb' HR hl8
 generalize wa.setCells (w.heap.size + 2) 16 (List.map (Value.int .u8) (lay 8 (e2 x))) = W3 at *
 have HD := HD'
 have HT := HT'
 have Vx := Vx'
 have HB := HB'
 have hz := hz'
 have R0 := R0'
 have R1 := R1'
 clear HD' HT' Vx' HB' hz' R0' R1'
 obtain ⟨c0, c1, c2, c3⟩ := Vx.out
 have xu : ∀ u, ExtB (w.heap.size + 2) W3 u → u.cell? ⟨w.heap.size, 3, none⟩ = some (.int .u64 (e3 x)) := fun u hu => hu.cell (by omega) c3
 clear c0 c1 c2 c3
 refine wp_region_noPanic ?_
 refine wp_region_held_drew (S := ExtB (w.heap.size + 2) W3) (by kernel_rfl) (ExtB.refl _ _).drew (fun hH => ?_)
 refine tn 0 ?_
 refine tn 1 ?_
 refine tn 2 ?_
 refine tn 3 ?_
 refine rdy 4 (fun K hK => ?_)
 go_simp
 refine (put64_g (e3 x) _ hx.wd.h3).mono ?_
 rintro e wa ⟨g, rfl, HR, hb⟩
 refine kop hK (hH.trans hb) fun hH => ?_; clear hK K
 clear xu
 have hb' : Below W3.heap.size W3 wa := (Below.refl _ _).drew.trans (hb.mono (Nat.le_refl _))
 clear hb
 have hcp := fun ty => copy8 wa (w.heap.size + 2) 24 g (e3 x) 8 8 (by decide) HR.out (fun j hj => by have := there_later hb' HT.out (24 + j) (by omega); simpa using this) ty
 refine rdy 5 (fun K hK => ?_)
 go_simp
 refine kop hK (extB_setCells _ _ _ hH) fun hH => ?_; clear hK K
 refine wpAnyH_done (by kernel_rfl) ?_ _
 refine NoPanic.normal ?_
 clear hcp hH
 go_upto_region 6 with fail
 have hl8 : (List.map (Value.int .u8) (lay 8 (e3 x))).length = 8 := by rw [List.length_map, lay_length]
 have HD' : Hid ((wa.setCells (w.heap.size + 2) 24 (List.map (Value.int .u8) (lay 8 (e3 x)))).there (w.heap.size + 1) 0 32) := World.there_setCells (there_later hb' HD.out) _ _ _
 have HT' : Hid ((wa.setCells (w.heap.size + 2) 24 (List.map (Value.int .u8) (lay 8 (e3 x)))).there (w.heap.size + 2) 0 32) := World.there_setCells (there_later hb' HT.out) _ _ _
 have Vx' : Hid (Var (wa.setCells (w.heap.size + 2) 24 (List.map (Value.int .u8) (lay 8 (e3 x)))) (w.heap.size) x) := by
  obtain ⟨a0, a1, a2, a3⟩ := Vx.out.later hb'
  refine ⟨?_, ?_, ?_, ?_⟩ <;> rw [World.cell?_setCells_out _ _ _ _ _ (fun h _ => absurd h (by dsimp only; omega))] <;> assumption
 have HB' : Hid (Below w.heap.size w (wa.setCells (w.heap.size + 2) 24 (List.map (Value.int .u8) (lay 8 (e3 x))))) := below_setCells _ (by omega) _ _ _ (HB.out.trans (hb'.mono (by omega)))
 have hz' : w.heap.size + 2 < (wa.setCells (w.heap.size + 2) 24 (List.map (Value.int .u8) (lay 8 (e3 x)))).heap.size := by
  obtain ⟨v, hv⟩ := Option.isSome_iff_exists.1 (HT'.out 0 (by decide)).1
  exact World.block_lt_of_cell? _ _ hv
 have R3 : Hid ((wa.setCells (w.heap.size + 2) 24 (List.map (Value.int .u8) (lay 8 (e3 x)))).rangeAt (w.heap.size + 2) 24 (List.map (Value.int .u8) (lay 8 (e3 x)))) := World.rangeAt_setCells_same _ _ _ _ (by rw [hl8]; intro j hj; have := there_later hb' HT.out (24 + j) (by omega); simpa using this)
 have R0' : Hid ((wa.setCells (w.heap.size + 2) 24 (List.map (Value.int .u8) (lay 8 (e3 x)))).rangeAt (w.heap.size + 2) 0 (List.map (Value.int .u8) (lay 8 (e0 x)))) := World.rangeAt_setCells_apart (range_later hb' R0.out) _ _ _ (.inr (.inl (by rw [List.length_map, lay_length]; decide)))
 have R1' : Hid ((wa.setCells (w.heap.size + 2) 24 (List.map (Value.int .u8) (lay 8 (e3 x)))).rangeAt (w.heap.size + 2) 8 (List.map (Value.int .u8) (lay 8 (e1 x)))) := World.rangeAt_setCells_apart (range_later hb' R1.out) _ _ _ (.inr (.inl (by rw [List.length_map, lay_length]; decide)))
 have R2' : Hid ((wa.setCells (w.heap.size + 2) 24 (List.map (Value.int .u8) (lay 8 (e3 x)))).rangeAt (w.heap.size + 2) 16 (List.map (Value.int .u8) (lay 8 (e2 x)))) := World.rangeAt_setCells_apart (range_later hb' R2.out) _ _ _ (.inr (.inl (by rw [List.length_map, lay_length]; decide)))
 clear HD HT Vx HB hz R0 R1 R2 hb' HR hl8
 generalize wa.setCells (w.heap.size + 2) 24 (List.map (Value.int .u8) (lay 8 (e3 x))) = W4 at *
 have HD := HD'
 have HT := HT'
 have Vx := Vx'
 have HB := HB'
 have hz := hz'
 have R0 := R0'
 have R1 := R1'
 have R2 := R2'
 clear HD' HT' Vx' HB' hz' R0' R1' R2'
 have HL : Hid (W4.rangeAt (w.heap.size + 2) 0 (List.map (Value.int .u8) (lay 32 x))) := by
  have h01 := range_app R0.out (by rw [List.length_map, lay_length]; exact R1.out)
  have h012 := range_app h01 (by rw [List.length_append, List.length_map, lay_length, List.length_map, lay_length]; exact R2.out)
  have h := range_app h012 (by rw [List.length_append, List.length_append, List.length_map, lay_length, List.length_map, lay_length, List.length_map, lay_length]; exact R3.out)
  rw [← List.map_append, ← List.map_append, ← List.map_append, ← lay32 x] at h
  exact h
 clear R0 R1 R2 R3
 generalize hl : List.map (Value.int .u8) (lay 32 x) = cs at *
 have hlen : cs.length = 32 := by rw [← hl, List.length_map, lay_length]
 have hone : ∀ v ∈ cs, v.oneCell' = true := by rw [← hl]; exact bytes_oneCell _
 have HC : Hid (List.map (Value.int .u8) (lay 32 x) = cs) := hl
 clear hl
 have hi : (Tryz.prog.info? 30).map (·.size) = some cs.length := by rw [hlen]; kernel_rfl
 go_wp2_with (first
  | (refine wpList_load_mid rfl 30 (.tmp 3) rfl (w.heap.size + 2) 0 rfl cs _ HL.out Tryz.underlying30 rfl hi ?_)
  | (refine wpList_store_mid rfl 30 (.tmp 2) (.tmp 28) rfl (w.heap.size + 1) 0 cs.toArray rfl rfl (by simpa [hlen] using HD.out) (by simpa using hi) (all_oneCell_toArray hone) ?_))
 have HR : Hid ((W4.setCells (w.heap.size + 1) 0 cs).rangeAt (w.heap.size + 1) 0 cs) := World.rangeAt_setCells_same _ _ _ _ (by rw [hlen]; exact HD.out)
 have hld := run_loadVar_mid (P := Tryz.prog) _ _ 0 30 cs _ HR.out Tryz.underlying30 rfl hi
 refine bodyPost_ret (v := .agg cs.toArray) (by simp [results, Tryz.results72]; exact hld) rfl ⟨by rw [HC.out], ?_⟩
 exact below_setCells _ (by omega) _ _ _ HB.out
end Go.Proofs.YtlnbjehimabaiaaGreatDoor.Fc
