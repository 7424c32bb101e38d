/-
 What curve's X does: the ladder, as a function of numbers. No statement of the seat is proved here.
-/
import Derived.Test.YtlnbjehimabaiaaGreatDoorPk1
import Derived.Test.YtlnbjehimabaiaaGreatDoorCStep
import Derived.Test.YtlnbjehimabaiaaGreatDoorPk28
namespace Go.Proofs.YtlnbjehimabaiaaGreatDoor.Fc
open Go.RowKit
set_option maxRecDepth 8000

/-- One step of the ladder: q is a multiple and the next one. -/
def lst (s b : Int) (q : Int × Int × Int × Int) : Int × Int × Int × Int :=
 if b = 1 then (adX q.2.2.1 q.2.2.2 q.1 q.2.1, adZ s q.2.2.1 q.2.2.2 q.1 q.2.1, dbX q.2.2.1 q.2.2.2, dbZ q.2.2.1 q.2.2.2)
 else (dbX q.1 q.2.1, dbZ q.1 q.2.1, adX q.1 q.2.1 q.2.2.1 q.2.2.2, adZ s q.1 q.2.1 q.2.2.1 q.2.2.2)
/-- The ladder behind so many of a scalar's bits, from the highest one on. -/
def lad (n s : Int) : Nat → Int × Int × Int × Int
 | 0 => (1, 0, s, 1)
 | i + 1 => lst s (n / 2 ^ (254 - i) % 2) (lad n s i)
/-- X, as a number. -/
def xn (n s : Int) : Int := fm (lad n s 255).1 (pw (lad n s 255).2.1 57896044618658097711785492504343953926634992332820282019728792003956564819947)

theorem xor_bit (a b : Int) (ha : a = 0 ∨ a = 1) (hb : b = 0 ∨ b = 1) : Wd (bits .xor .u64 a b) ∧ bits .xor .u64 a b % 2 = (if a = b then 0 else 1) := by
 rcases ha with rfl | rfl <;> rcases hb with rfl | rfl <;> exact ⟨⟨by decide, by decide⟩, by decide⟩

theorem changed_l (L : Int × Int × Int × Int) (a b c d sw v : Int) (hsw : sw = 0 ∨ sw = 1) (hv : v = 0 ∨ v = 1) (ha : El a) (hb : El b) (hc : El c) (hd : El d) (H : Hid (L = if sw = 1 then (c, d, a, b) else (a, b, c, d))) (w : World) :
  Calls Tryz.prog 68 #[(.agg #[.int .u64 (e0 a), .int .u64 (e1 a), .int .u64 (e2 a), .int .u64 (e3 a), .int .u64 (e0 b), .int .u64 (e1 b), .int .u64 (e2 b), .int .u64 (e3 b)]), (.agg #[.int .u64 (e0 c), .int .u64 (e1 c), .int .u64 (e2 c), .int .u64 (e3 c), .int .u64 (e0 d), .int .u64 (e1 d), .int .u64 (e2 d), .int .u64 (e3 d)]), .int .u64 (bits .xor .u64 sw v)] w fun e w' => ∃ a' b' c' d', e = .returned (.tuple #[(.agg #[.int .u64 (e0 a'), .int .u64 (e1 a'), .int .u64 (e2 a'), .int .u64 (e3 a'), .int .u64 (e0 b'), .int .u64 (e1 b'), .int .u64 (e2 b'), .int .u64 (e3 b')]), (.agg #[.int .u64 (e0 c'), .int .u64 (e1 c'), .int .u64 (e2 c'), .int .u64 (e3 c'), .int .u64 (e0 d'), .int .u64 (e1 d'), .int .u64 (e2 d'), .int .u64 (e3 d')])]) ∧ El a' ∧ El b' ∧ El c' ∧ El d' ∧ Hid (L = if v = 1 then (c', d', a', b') else (a', b', c', d')) ∧ Below w.heap.size w w' := by
 obtain ⟨h1, h2⟩ := xor_bit sw v hsw hv
 by_cases h : sw = v
 ·subst h
  rw [if_pos rfl] at h2
  refine (changed_even a b c d _ ha hb hc hd h1 h2 w).mono ?_
  rintro e w' ⟨rfl, hw⟩
  exact ⟨_, _, _, _, rfl, ha, hb, hc, hd, H, hw⟩
 ·rw [if_neg h] at h2
  refine (changed_odd a b c d _ ha hb hc hd h1 h2 w).mono ?_
  rintro e w' ⟨rfl, hw⟩
  refine ⟨_, _, _, _, rfl, hc, hd, ha, hb, ?_, hw⟩
  unfold Hid
  rw [H.out]
  rcases hsw with rfl | rfl <;> rcases hv with rfl | rfl <;> simp at h ⊢
theorem changed_f (L : Int × Int × Int × Int) (a b c d sw : Int) (hsw : sw = 0 ∨ sw = 1) (ha : El a) (hb : El b) (hc : El c) (hd : El d) (H : Hid (L = if sw = 1 then (c, d, a, b) else (a, b, c, d))) (w : World) :
  Calls Tryz.prog 68 #[(.agg #[.int .u64 (e0 a), .int .u64 (e1 a), .int .u64 (e2 a), .int .u64 (e3 a), .int .u64 (e0 b), .int .u64 (e1 b), .int .u64 (e2 b), .int .u64 (e3 b)]), (.agg #[.int .u64 (e0 c), .int .u64 (e1 c), .int .u64 (e2 c), .int .u64 (e3 c), .int .u64 (e0 d), .int .u64 (e1 d), .int .u64 (e2 d), .int .u64 (e3 d)]), .int .u64 sw] w fun e w' => ∃ a' b' c' d', e = .returned (.tuple #[(.agg #[.int .u64 (e0 a'), .int .u64 (e1 a'), .int .u64 (e2 a'), .int .u64 (e3 a'), .int .u64 (e0 b'), .int .u64 (e1 b'), .int .u64 (e2 b'), .int .u64 (e3 b')]), (.agg #[.int .u64 (e0 c'), .int .u64 (e1 c'), .int .u64 (e2 c'), .int .u64 (e3 c'), .int .u64 (e0 d'), .int .u64 (e1 d'), .int .u64 (e2 d'), .int .u64 (e3 d')])]) ∧ El a' ∧ El b' ∧ El c' ∧ El d' ∧ Hid (L = (a', b', c', d')) ∧ Below w.heap.size w w' := by
 have h1 : Wd sw := ⟨by omega, by omega⟩
 rcases hsw with rfl | rfl
 ·refine (changed_even a b c d _ ha hb hc hd h1 (by decide) w).mono ?_
  rintro e w' ⟨rfl, hw⟩
  exact ⟨_, _, _, _, rfl, ha, hb, hc, hd, by unfold Hid; rw [H.out]; rfl, hw⟩
 ·refine (changed_odd a b c d _ ha hb hc hd h1 (by decide) w).mono ?_
  rintro e w' ⟨rfl, hw⟩
  exact ⟨_, _, _, _, rfl, hc, hd, ha, hb, by unfold Hid; rw [H.out]; rfl, hw⟩

/-- What X has in memory. -/
structure Mx (w : World) (q2 b5 b6 b7 b8 : Nat) (K : List Int) (s a b c d : Int) (u : World) : Prop where
 f7 : Fr u b7 a b
 o7 : Fo u b7
 f8 : Fr u b8 c d
 o8 : Fo u b8
 v6 : Var u b6 s
 k5 : Arr u b5 (List.map (Value.int .u8) K)
 r4 : u.there q2 0 32
 bel : Below w.heap.size w u
theorem Mx.later {w : World} {q2 b5 b6 b7 b8 : Nat} {K : List Int} {s a b c d : Int} {u u' : World} (h : Mx w q2 b5 b6 b7 b8 K s a b c d u) (hb : Below u.heap.size u u') : Mx w q2 b5 b6 b7 b8 K s a b c d u' :=
 ⟨h.f7.later hb, h.o7.later hb, h.f8.later hb, h.o8.later hb, h.v6.later hb, h.k5.later hb, there_later hb h.r4, h.bel.trans (hb.mono h.bel.size)⟩
theorem there_o8 {u : World} {c q : Nat} (h : u.there q 0 32) (v0 v1 v2 v3 v4 v5 v6 v7 : Value) : ((((((((u.setCell ⟨c, 0, none⟩ (v0)).setCell ⟨c, 1, none⟩ (v1)).setCell ⟨c, 2, none⟩ (v2)).setCell ⟨c, 3, none⟩ (v3)).setCell ⟨c, 4, none⟩ (v4)).setCell ⟨c, 5, none⟩ (v5)).setCell ⟨c, 6, none⟩ (v6)).setCell ⟨c, 7, none⟩ (v7)).there q 0 32 :=
 there_set (there_set (there_set (there_set (there_set (there_set (there_set (there_set h _ _ _) _ _ _) _ _ _) _ _ _) _ _ _) _ _ _) _ _ _) _ _ _
/-- A fraction's cells. -/
def fl (x z : Int) : List Value := [.int .u64 (e0 x), .int .u64 (e1 x), .int .u64 (e2 x), .int .u64 (e3 x), .int .u64 (e0 z), .int .u64 (e1 z), .int .u64 (e2 z), .int .u64 (e3 z)]
theorem fo_there {u : World} {b : Nat} (h : Fo u b) : u.there b 0 8 := fun j hj => by
 obtain ⟨⟨_, c0⟩, ⟨_, c1⟩, ⟨_, c2⟩, ⟨_, c3⟩, ⟨_, c4⟩, ⟨_, c5⟩, ⟨_, c6⟩, ⟨_, c7⟩, f0, f1, f2, f3, f4, f5, f6, f7⟩ := h
 have hs : j = 0 ∨ j = 1 ∨ j = 2 ∨ j = 3 ∨ j = 4 ∨ j = 5 ∨ j = 6 ∨ j = 7 := by omega
 rcases hs with rfl | rfl | rfl | rfl | rfl | rfl | rfl | rfl
 ·exact ⟨by rw [Nat.zero_add, c0]; rfl, f0⟩
 ·exact ⟨by rw [Nat.zero_add, c1]; rfl, f1⟩
 ·exact ⟨by rw [Nat.zero_add, c2]; rfl, f2⟩
 ·exact ⟨by rw [Nat.zero_add, c3]; rfl, f3⟩
 ·exact ⟨by rw [Nat.zero_add, c4]; rfl, f4⟩
 ·exact ⟨by rw [Nat.zero_add, c5]; rfl, f5⟩
 ·exact ⟨by rw [Nat.zero_add, c6]; rfl, f6⟩
 ·exact ⟨by rw [Nat.zero_add, c7]; rfl, f7⟩
structure Ord (w : World) (q2 b5 b6 b7 b8 : Nat) : Prop where
 h1 : w.heap.size ≤ q2
 h2 : q2 < b5
 h3 : b5 < b6
 h4 : b6 < b7
 h5 : b7 < b8
theorem Mx.store {w : World} {q2 b5 b6 b7 b8 : Nat} {K : List Int} {s a b c d : Int} {u : World} (h : Mx w q2 b5 b6 b7 b8 K s a b c d u) (o : Ord w q2 b5 b6 b7 b8) (x z x' z' : Int) : Mx w q2 b5 b6 b7 b8 K s x z x' z' ((((((((((((((((u.setCell ⟨b7, 0, none⟩ (.int .u64 (e0 x))).setCell ⟨b7, 1, none⟩ (.int .u64 (e1 x))).setCell ⟨b7, 2, none⟩ (.int .u64 (e2 x))).setCell ⟨b7, 3, none⟩ (.int .u64 (e3 x))).setCell ⟨b7, 4, none⟩ (.int .u64 (e0 z))).setCell ⟨b7, 5, none⟩ (.int .u64 (e1 z))).setCell ⟨b7, 6, none⟩ (.int .u64 (e2 z))).setCell ⟨b7, 7, none⟩ (.int .u64 (e3 z))).setCell ⟨b8, 0, none⟩ (.int .u64 (e0 x'))).setCell ⟨b8, 1, none⟩ (.int .u64 (e1 x'))).setCell ⟨b8, 2, none⟩ (.int .u64 (e2 x'))).setCell ⟨b8, 3, none⟩ (.int .u64 (e3 x'))).setCell ⟨b8, 4, none⟩ (.int .u64 (e0 z'))).setCell ⟨b8, 5, none⟩ (.int .u64 (e1 z'))).setCell ⟨b8, 6, none⟩ (.int .u64 (e2 z'))).setCell ⟨b8, 7, none⟩ (.int .u64 (e3 z'))) := by
 obtain ⟨h1, h2, h3, h4, h5⟩ := o
 refine ⟨fr_o8 (fr_set _ _ _ _ h.o7) (by omega) _ _ _ _ _ _ _ _, fo_o8 (fo_set _ _ _ _ h.o7) (by omega) _ _ _ _ _ _ _ _, fr_set _ _ _ _ (fo_o8 h.o8 (by omega) _ _ _ _ _ _ _ _), fo_set _ _ _ _ (fo_o8 h.o8 (by omega) _ _ _ _ _ _ _ _), var_o8 (var_o8 h.v6 (by omega) _ _ _ _ _ _ _ _) (by omega) _ _ _ _ _ _ _ _, arr_o8 (arr_o8 h.k5 (by omega) _ _ _ _ _ _ _ _) (by omega) _ _ _ _ _ _ _ _, there_o8 (there_o8 h.r4 _ _ _ _ _ _ _ _) _ _ _ _ _ _ _ _, below_set8 (below_set8 h.bel _ (by omega) _ _ _ _ _ _ _ _) _ (by omega) _ _ _ _ _ _ _ _⟩
theorem Mx.storeL {w : World} {q2 b5 b6 b7 b8 : Nat} {K : List Int} {s a b c d : Int} {u : World} (h : Mx w q2 b5 b6 b7 b8 K s a b c d u) (o : Ord w q2 b5 b6 b7 b8) (x z x' z' : Int) : Mx w q2 b5 b6 b7 b8 K s x z x' z' ((u.setCells b7 0 (fl x z)).setCells b8 0 (fl x' z')) := h.store o x z x' z'
theorem Mx.store7 {w : World} {q2 b5 b6 b7 b8 : Nat} {K : List Int} {s a b c d : Int} {u : World} (h : Mx w q2 b5 b6 b7 b8 K s a b c d u) (o : Ord w q2 b5 b6 b7 b8) (x z : Int) : Fr ((((((((u.setCell ⟨b7, 0, none⟩ (.int .u64 (e0 x))).setCell ⟨b7, 1, none⟩ (.int .u64 (e1 x))).setCell ⟨b7, 2, none⟩ (.int .u64 (e2 x))).setCell ⟨b7, 3, none⟩ (.int .u64 (e3 x))).setCell ⟨b7, 4, none⟩ (.int .u64 (e0 z))).setCell ⟨b7, 5, none⟩ (.int .u64 (e1 z))).setCell ⟨b7, 6, none⟩ (.int .u64 (e2 z))).setCell ⟨b7, 7, none⟩ (.int .u64 (e3 z))) b7 x z ∧ ((((((((u.setCell ⟨b7, 0, none⟩ (.int .u64 (e0 x))).setCell ⟨b7, 1, none⟩ (.int .u64 (e1 x))).setCell ⟨b7, 2, none⟩ (.int .u64 (e2 x))).setCell ⟨b7, 3, none⟩ (.int .u64 (e3 x))).setCell ⟨b7, 4, none⟩ (.int .u64 (e0 z))).setCell ⟨b7, 5, none⟩ (.int .u64 (e1 z))).setCell ⟨b7, 6, none⟩ (.int .u64 (e2 z))).setCell ⟨b7, 7, none⟩ (.int .u64 (e3 z))).there q2 0 32 ∧ Below w.heap.size w ((((((((u.setCell ⟨b7, 0, none⟩ (.int .u64 (e0 x))).setCell ⟨b7, 1, none⟩ (.int .u64 (e1 x))).setCell ⟨b7, 2, none⟩ (.int .u64 (e2 x))).setCell ⟨b7, 3, none⟩ (.int .u64 (e3 x))).setCell ⟨b7, 4, none⟩ (.int .u64 (e0 z))).setCell ⟨b7, 5, none⟩ (.int .u64 (e1 z))).setCell ⟨b7, 6, none⟩ (.int .u64 (e2 z))).setCell ⟨b7, 7, none⟩ (.int .u64 (e3 z))) := by
 obtain ⟨h1, h2, h3, h4, h5⟩ := o
 exact ⟨fr_set _ _ _ _ h.o7, there_o8 h.r4 _ _ _ _ _ _ _ _, below_set8 h.bel _ (by omega) _ _ _ _ _ _ _ _⟩
theorem extL_setCells {a : World} {q : Nat} : ∀ (vs : List Value) (o : Nat) (u : World), ExtL [q] a u → ExtL [q] a (u.setCells q o vs)
 | [], _, _, h => h
 | v :: vs, o, u, h => extL_setCells vs (o + 1) _ (h.set (by simp) _ _)
theorem bit01 (n : Int) : n % 2 = 0 ∨ n % 2 = 1 := by omega

set_option maxHeartbeats 16000000 in
theorem x_c (k l : List Int) (hk : By k) (hl : By l) (w : World) :
  Calls Tryz.prog 37 #[(.agg (List.map (Value.int .u8) k).toArray), (.agg (List.map (Value.int .u8) l).toArray)] w fun e w' => e = .returned (.agg (List.map (Value.int .u8) (lay 32 (xn (leN (cl k)) (num l)))).toArray) ∧ Below w.heap.size w w' := by
 go_enter Tryz.func37, Tryz.ntmps37
 go_upto_region 1 with fail
 have A2 : Hid (Arr (((w.alloc (.cells (List.map (Value.int .u8) k).toArray 30)).alloc (.cells (List.map (Value.int .u8) l).toArray 30)).alloc (.cells zb32 30)) (w.heap.size) (List.map (Value.int .u8) k)) := ((arr_box w k hk).later (bel1 _ _)).later (bel1 _ _)
 have A3 : Hid (Arr (((w.alloc (.cells (List.map (Value.int .u8) k).toArray 30)).alloc (.cells (List.map (Value.int .u8) l).toArray 30)).alloc (.cells zb32 30)) (w.heap.size + 1) (List.map (Value.int .u8) l)) := by
  have := (arr_box (w.alloc (.cells (List.map (Value.int .u8) k).toArray 30)) l hl).later (bel1 _ (.cells zb32 30))
  simpa [Hid] using this
 have A4 : Hid (Arr (((w.alloc (.cells (List.map (Value.int .u8) k).toArray 30)).alloc (.cells (List.map (Value.int .u8) l).toArray 30)).alloc (.cells zb32 30)) (w.heap.size + 1 + 1) (List.map (Value.int .u8) (List.replicate 32 0))) := by
  have := arr_box ((w.alloc (.cells (List.map (Value.int .u8) k).toArray 30)).alloc (.cells (List.map (Value.int .u8) l).toArray 30)) (List.replicate 32 0) ⟨List.length_replicate, fun x hx => by rw [(List.mem_replicate.1 hx).2]; decide⟩
  have e : (List.map (Value.int .u8) (List.replicate 32 (0 : Int))).toArray = zb32 := rfl
  rw [e] at this
  simpa [Hid] using this
 have HB : Hid (Below w.heap.size w (((w.alloc (.cells (List.map (Value.int .u8) k).toArray 30)).alloc (.cells (List.map (Value.int .u8) l).toArray 30)).alloc (.cells zb32 30))) := bel3 _ _ _ _
 generalize ((w.alloc (.cells (List.map (Value.int .u8) k).toArray 30)).alloc (.cells (List.map (Value.int .u8) l).toArray 30)).alloc (.cells zb32 30) = W0 at *
 have hq1 : w.heap.size < w.heap.size + 1 := by omega
 have hq2 : w.heap.size + 1 < w.heap.size + 1 + 1 := by omega
 generalize w.heap.size + 1 + 1 = q2 at *
 generalize w.heap.size + 1 = q1 at *
 go_wp2_with (first | (refine wpList_load_mid rfl 30 (.tmp 2) rfl (w.heap.size) 0 rfl (List.map (Value.int .u8) k) _ A2.out.rng Tryz.underlying30 rfl (by_cells hk).2.2 ?_))
 refine (clamp_c k hk _).mono ?_
 rintro e u1_0 ⟨rfl, hb1_0⟩
 have hc1_1 : Hid (Below W0.heap.size W0 u1_0) := hb1_0
 clear hb1_0
 have hby5 := (cl_by hk)
 generalize hcs : (List.map (Value.int .u8) (cl k)) = cs5 at *
 have HC5 : Hid ((List.map (Value.int .u8) (cl k)) = cs5) := hcs
 clear hcs
 obtain ⟨hlen5, hone5, hi5⟩ := by_cells' hby5 HC5
 have hth := there_new u1_0 32 zb32 rfl 30
 have A5 := arr_new u1_0 zb32 rfl cs5 hlen5
 have N5 := bel_new u1_0 zb32 cs5
 have hX : Hid (Below W0.heap.size W0 ((u1_0.alloc (.cells zb32 30)).setCells u1_0.heap.size 0 cs5)) := hc1_1.out.trans (N5.mono hc1_1.out.size)
 have hge5 : w.heap.size ≤ u1_0.heap.size := Nat.le_trans HB.out.size hc1_1.out.size
 have lt5_A2 : (w.heap.size) < u1_0.heap.size := (A2.out.later hc1_1.out).lt
 have lt5_A3 : q1 < u1_0.heap.size := (A3.out.later hc1_1.out).lt
 have lt5_A4 : q2 < u1_0.heap.size := (A4.out.later hc1_1.out).lt
 go_upto_region 2 with (refine wpList_store_mid rfl 30 (.tmp 5) (.tmp 13) rfl (u1_0.heap.size) 0 cs5.toArray rfl rfl (by simpa [hlen5] using hth) (by simpa using hi5) (all_oneCell_toArray hone5) ?_)
 clear hth
 generalize (u1_0.alloc (.cells zb32 30)).setCells u1_0.heap.size 0 cs5 = W5 at *
 generalize u1_0.heap.size = b5 at *
 replace A2 := hidp (A2.out.later hX.out)
 replace A3 := hidp (A3.out.later hX.out)
 replace A4 := hidp (A4.out.later hX.out)
 replace HB := hidp (HB.out.trans (Below.mono hX.out HB.out.size))
 clear hX hc1_1 N5
 have HC := HC5.out
 subst HC
 have A5' : Hid (Arr W5 b5 (List.map (Value.int .u8) (cl k))) := A5
 clear A5 HC5 hlen5 hone5 hi5
 have A5 := A5'
 clear A5'
 go_wp2_with (first | (refine wpList_load_mid rfl 30 (.tmp 3) rfl q1 0 rfl (List.map (Value.int .u8) l) _ A3.out.rng Tryz.underlying30 rfl (by_cells hl).2.2 ?_))
 refine (from_e l hl _).mono ?_
 rintro e u2_0 ⟨z15, rfl, hz15, Hz15, hb2_0⟩
 have hc2_1 : Hid (Below W5.heap.size W5 u2_0) := hb2_0
 clear hb2_0
 go_upto_region 3 with fail
 have hX : Hid (Below W5.heap.size W5 (u2_0.alloc (.cells (ea z15) 101))) := hc2_1.out.trans ((bel1 u2_0 _).mono hc2_1.out.size)
 have V6 : Hid (Var (u2_0.alloc (.cells (ea z15) 101)) (u2_0.heap.size) z15) := var_new u2_0 z15 _
 have hge6 : w.heap.size ≤ u2_0.heap.size := Nat.le_trans HB.out.size hc2_1.out.size
 have lt6_A4 : q2 < u2_0.heap.size := (A4.out.later hc2_1.out).lt
 have lt6_A5 : b5 < u2_0.heap.size := (A5.out.later hc2_1.out).lt
 generalize u2_0.alloc (.cells (ea z15) 101) = W6 at *
 generalize u2_0.heap.size = b6 at *
 replace A2 := hidp (A2.out.later hX.out)
 replace A3 := hidp (A3.out.later hX.out)
 replace A4 := hidp (A4.out.later hX.out)
 replace A5 := hidp (A5.out.later hX.out)
 replace HB := hidp (HB.out.trans (Below.mono hX.out HB.out.size))
 clear hX hc2_1
 go_wp2_with fail
 refine (one_e _).mono ?_
 rintro e u3 ⟨rfl, hb⟩
 go_wp2_with fail
 refine (zero_e _).mono ?_
 rintro e v3 ⟨rfl, hb'⟩
 have hc3 : Hid (Below W6.heap.size W6 v3) := hb.trans (hb'.mono hb.size)
 clear hb hb'
 go_upto_region 4 with fail
 have hX : Hid (Below W6.heap.size W6 (v3.alloc (.cells #[.int .u64 (e0 1), .int .u64 (e1 1), .int .u64 (e2 1), .int .u64 (e3 1), .int .u64 (e0 0), .int .u64 (e1 0), .int .u64 (e2 0), .int .u64 (e3 0)] 105))) := hc3.out.trans ((bel1 v3 _).mono hc3.out.size)
 have F7 : Hid (Fr (v3.alloc (.cells #[.int .u64 (e0 1), .int .u64 (e1 1), .int .u64 (e2 1), .int .u64 (e3 1), .int .u64 (e0 0), .int .u64 (e1 0), .int .u64 (e2 0), .int .u64 (e3 0)] 105)) (v3.heap.size) 1 0) := fr_new v3 1 0 _
 have O7 : Hid (Fo (v3.alloc (.cells #[.int .u64 (e0 1), .int .u64 (e1 1), .int .u64 (e2 1), .int .u64 (e3 1), .int .u64 (e0 0), .int .u64 (e1 0), .int .u64 (e2 0), .int .u64 (e3 0)] 105)) (v3.heap.size)) := fo_new v3 _ _ _ _ _ _ _ _ _
 have lt7 : b6 < v3.heap.size := (V6.out.later hc3.out).lt
 generalize v3.alloc (.cells #[.int .u64 (e0 1), .int .u64 (e1 1), .int .u64 (e2 1), .int .u64 (e3 1), .int .u64 (e0 0), .int .u64 (e1 0), .int .u64 (e2 0), .int .u64 (e3 0)] 105) = W7 at *
 generalize v3.heap.size = b7 at *
 replace V6 := hidp (V6.out.later hX.out)
 replace A2 := hidp (A2.out.later hX.out)
 replace A3 := hidp (A3.out.later hX.out)
 replace A4 := hidp (A4.out.later hX.out)
 replace A5 := hidp (A5.out.later hX.out)
 replace HB := hidp (HB.out.trans (Below.mono hX.out HB.out.size))
 clear hX hc3
 have lw7 : b7 < W7.heap.size := O7.out.lt
 go_cut [8] from 12 (fun tv wc => ∃ b : Nat, tv = .pointer (some ⟨b, 0, none⟩) ∧ Hid (Fr wc b z15 1) ∧ Hid (Fo wc b) ∧ W7.heap.size ≤ b ∧ Hid (Below W7.heap.size W7 wc))
 case first =>
  obtain ⟨V6c0, V6c1, V6c2, V6c3⟩ := V6.out
  have V6u0 : ∀ u, Ext W7 u → u.cell? ⟨b6, 0, none⟩ = some (.int .u64 (e0 z15)) := fun u hu => hu.cell  V6c0
  have V6u1 : ∀ u, Ext W7 u → u.cell? ⟨b6, 1, none⟩ = some (.int .u64 (e1 z15)) := fun u hu => hu.cell  V6c1
  have V6u2 : ∀ u, Ext W7 u → u.cell? ⟨b6, 2, none⟩ = some (.int .u64 (e2 z15)) := fun u hu => hu.cell  V6c2
  have V6u3 : ∀ u, Ext W7 u → u.cell? ⟨b6, 3, none⟩ = some (.int .u64 (e3 z15)) := fun u hu => hu.cell  V6c3
  clear V6c0 V6c1 V6c2 V6c3
  refine wp_region_noPanic ?_
  refine wp_region_held_drew (S := Ext W7) (by kernel_rfl) (Ext.refl _).drew (fun hH => ?_)
  change wpAnyH _ _ _ _ _ _ #[false, false, false, false, false] _ _
  generalize W7.drew = y0 at *
  refine tn 0 ?_
  refine rdy2 1 3 (fun K hK => ?c1q) (fun K hK => ?c3q)
  case c1q =>
   go_simp
   refine (one_e _).mono ?_
   rintro e ya ⟨rfl, hba⟩
   refine ko hK (hH.trans hba) fun hH => ?_; clear hK K
   clear hba
   refine tn 2 ?_
   refine rdy 3 (fun K hK => ?_)
   go_simp
   have hLg : W7.heap.size ≤ ya.heap.size := hH.size
   refine ko hK (hH.trans (bel1 _ _)) fun hH => ?_; clear hK K
   have O8 : Hid (Fo (ya.alloc (.cells #[.int .u64 0, .int .u64 0, .int .u64 0, .int .u64 0, .int .u64 0, .int .u64 0, .int .u64 0, .int .u64 0] 105)) ya.heap.size) := fo_new ya _ _ _ _ _ _ _ _ _
   generalize ya.alloc (.cells #[.int .u64 0, .int .u64 0, .int .u64 0, .int .u64 0, .int .u64 0, .int .u64 0, .int .u64 0, .int .u64 0] 105) = yb at *
   generalize ya.heap.size = b8 at *
   obtain ⟨⟨_, nc0⟩, ⟨_, nc1⟩, ⟨_, nc2⟩, ⟨_, nc3⟩, ⟨_, nc4⟩, ⟨_, nc5⟩, ⟨_, nc6⟩, ⟨_, nc7⟩, nf0, nf1, nf2, nf3, nf4, nf5, nf6, nf7⟩ := O8.out
   refine rdy 4 (fun K hK => ?_)
   go_simp
   refine ko hK (below_set8 hH b8 (by omega) _ _ _ _ _ _ _ _) fun hH => ?_; clear hK K
   refine wpAnyH_done (by kernel_rfl) ?_ _
   refine NoPanic.normal ?_
   go_wp2_with fail
   go_meet
   case rel => exact ⟨b8, rfl, fr_set yb b8 z15 1 O8.out, fo_set yb b8 z15 1 O8.out, hLg, hH⟩
  case c3q =>
   go_simp
   have hLg : W7.heap.size ≤ y0.heap.size := hH.size
   refine ko hK (hH.trans (bel1 _ _)) fun hH => ?_; clear hK K
   have O8 : Hid (Fo (y0.alloc (.cells #[.int .u64 0, .int .u64 0, .int .u64 0, .int .u64 0, .int .u64 0, .int .u64 0, .int .u64 0, .int .u64 0] 105)) y0.heap.size) := fo_new y0 _ _ _ _ _ _ _ _ _
   generalize y0.alloc (.cells #[.int .u64 0, .int .u64 0, .int .u64 0, .int .u64 0, .int .u64 0, .int .u64 0, .int .u64 0, .int .u64 0] 105) = yc at *
   generalize y0.heap.size = b8 at *
   refine rdy 1 (fun K hK => ?_)
   go_simp
   refine (one_e _).mono ?_
   rintro e yd ⟨rfl, hbd⟩
   refine ko hK (hH.trans hbd) fun hH => ?_; clear hK K
   replace O8 := hidp (O8.out.later hbd)
   clear hbd
   refine tn 2 ?_
   obtain ⟨⟨_, nc0⟩, ⟨_, nc1⟩, ⟨_, nc2⟩, ⟨_, nc3⟩, ⟨_, nc4⟩, ⟨_, nc5⟩, ⟨_, nc6⟩, ⟨_, nc7⟩, nf0, nf1, nf2, nf3, nf4, nf5, nf6, nf7⟩ := O8.out
   refine rdy 4 (fun K hK => ?_)
   go_simp
   refine ko hK (below_set8 hH b8 (by omega) _ _ _ _ _ _ _ _) fun hH => ?_; clear hK K
   refine wpAnyH_done (by kernel_rfl) ?_ _
   refine NoPanic.normal ?_
   go_wp2_with fail
   go_meet
   case rel => exact ⟨b8, rfl, fr_set yd b8 z15 1 O8.out, fo_set yd b8 z15 1 O8.out, hLg, hH⟩
 obtain ⟨b8, rfl, F8, O8, hge8, hX⟩ := hcut
 generalize wc = W8 at *
 replace V6 := hidp (V6.out.later hX.out)
 replace A2 := hidp (A2.out.later hX.out)
 replace A3 := hidp (A3.out.later hX.out)
 replace A4 := hidp (A4.out.later hX.out)
 replace A5 := hidp (A5.out.later hX.out)
 replace F7 := hidp (F7.out.later hX.out)
 replace O7 := hidp (O7.out.later hX.out)
 replace HB := hidp (HB.out.trans (Below.mono hX.out HB.out.size))
 clear hX
 have hord : Hid (Ord w q2 b5 b6 b7 b8) := ⟨by omega, by omega, by omega, by omega, by omega⟩
 have HM : Hid (Mx w q2 b5 b6 b7 b8 (cl k) z15 1 0 z15 1 W8) := ⟨F7.out, O7.out, F8.out, O8.out, V6.out, A5.out, A4.out.all, HB.out⟩
 have hcl := cl_by hk
 clear F7 O7 F8 O8 V6 A5 A4 A3 A2 HB hge8 lt7 hby5
 have HK : Hid (∀ n, xn (leN (cl k)) n = xn (leN (cl k)) n) := fun _ => rfl
 generalize hK : cl k = K at *
 have HKe : Hid (cl k = K) := hK
 clear hK HK
 go_wp2
 go_loopw [9, 10, 11, 22] (fun s9 s10 s11 i wl => ∃ (j : Nat) (sw a b c d : Int) (t10 t11 : Value), j ≤ 255 ∧ i = .int .i64 j ∧ s9 = .int .u64 sw ∧ s10 = t10 ∧ s11 = t11 ∧ (sw = 0 ∨ sw = 1) ∧ El a ∧ El b ∧ El c ∧ El d ∧ Hid (lad (leN K) z15 j = (if sw = 1 then (c, d, a, b) else (a, b, c, d))) ∧ Hid (Mx w q2 b5 b6 b7 b8 K z15 a b c d wl)) (fun _ _ _ i _ => 255 - (intOf i).toNat)
 case atStart => exact ⟨0, 0, 1, 0, z15, 1, _, _, by decide, rfl, rfl, rfl, rfl, .inl rfl, El.one, El.zero, hz15, El.one, rfl, HM⟩
 case round =>
  clear HM
  obtain ⟨j, sw, a, b, c, d, t10, t11, hj, rfl, rfl, rfl, rfl, hsw, ha, hb, hc, hd, HL, HM⟩ := hrel
  by_cases hlt : j < 255
  ·obtain ⟨hlenK, honeK, hiK⟩ := by_cells hcl
   have HA5 : Hid (wr.rangeAt b5 0 (List.map (Value.int .u8) K)) := HM.out.k5.rng
   obtain ⟨t, ht⟩ : ∃ t : Nat, t = 254 - j := ⟨_, rfl⟩
   have EI : Hid ((254 : Int) - (j : Int) = (t : Int)) := by unfold Hid; omega
   have HT : Hid (t = 254 - j) := ht
   have ht2 : t < 256 := by omega
   clear ht
   have hj1 : (j : Int) < 255 := by omega
   go_wp2_with (refine wpList_load_mid rfl 30 (.tmp 5) rfl b5 0 rfl (List.map (Value.int .u8) K) _ HA5.out Tryz.underlying30 rfl hiK ?_)
   rw [EI.out]
   clear EI
   refine (bit_c K hcl t ht2 _).mono ?_
   rintro e w1 ⟨rfl, hb'⟩
   replace HM := hidp (HM.out.later hb')
   clear hb' HA5 hlenK honeK hiK
   have hv : Hid (leN K / 2 ^ t % 2 = 0 ∨ leN K / 2 ^ t % 2 = 1) := bit01 (leN K / 2 ^ t)
   have HS : Hid (lad (leN K) z15 (j + 1) = lst z15 (leN K / 2 ^ t % 2) (lad (leN K) z15 j)) := by unfold Hid; rw [HT.out]; rfl
   have HSW : Hid (sw = 0 ∨ sw = 1) := hsw
   have HJ : Hid (j < 255) := hlt
   clear HT hsw hlt hj hj1 ht2
   generalize leN K / 2 ^ t % 2 = v at *
   generalize hLd : lad (leN K) z15 j = Ld at *
   clear hLd
   obtain ⟨p0, p1, p2, p3, p4, p5, p6, p7⟩ := HM.out.f7
   obtain ⟨o0, o1, o2, o3, o4, o5, o6, o7⟩ := HM.out.f8
   go_wp2_with fail
   clear p0 p1 p2 p3 p4 p5 p6 p7 o0 o1 o2 o3 o4 o5 o6 o7
   refine (changed_l Ld a b c d sw v HSW.out hv.out ha hb hc hd HL _).mono ?_
   rintro e w2 ⟨a', b', c', d', rfl, ha', hb', hc', hd', HL', hw⟩
   replace HM := hidp (HM.out.later hw)
   clear hw HL
   obtain ⟨⟨_, pc0⟩, ⟨_, pc1⟩, ⟨_, pc2⟩, ⟨_, pc3⟩, ⟨_, pc4⟩, ⟨_, pc5⟩, ⟨_, pc6⟩, ⟨_, pc7⟩, pf0, pf1, pf2, pf3, pf4, pf5, pf6, pf7⟩ := HM.out.o7
   obtain ⟨⟨_, oc0⟩, ⟨_, oc1⟩, ⟨_, oc2⟩, ⟨_, oc3⟩, ⟨_, oc4⟩, ⟨_, oc5⟩, ⟨_, oc6⟩, ⟨_, oc7⟩, of0, of1, of2, of3, of4, of5, of6, of7⟩ := HM.out.o8
   have h78 := hord.out.h5
   go_upto_region 11 with fail
   clear pc0 pc1 pc2 pc3 pc4 pc5 pc6 pc7 pf0 pf1 pf2 pf3 pf4 pf5 pf6 pf7 oc0 oc1 oc2 oc3 oc4 oc5 oc6 oc7 of0 of1 of2 of3 of4 of5 of6 of7
   replace HM : Hid (Mx w q2 b5 b6 b7 b8 K z15 a' b' c' d' ((((((((((((((((w2.setCell ⟨b7, 0, none⟩ (.int .u64 (e0 a'))).setCell ⟨b7, 1, none⟩ (.int .u64 (e1 a'))).setCell ⟨b7, 2, none⟩ (.int .u64 (e2 a'))).setCell ⟨b7, 3, none⟩ (.int .u64 (e3 a'))).setCell ⟨b7, 4, none⟩ (.int .u64 (e0 b'))).setCell ⟨b7, 5, none⟩ (.int .u64 (e1 b'))).setCell ⟨b7, 6, none⟩ (.int .u64 (e2 b'))).setCell ⟨b7, 7, none⟩ (.int .u64 (e3 b'))).setCell ⟨b8, 0, none⟩ (.int .u64 (e0 c'))).setCell ⟨b8, 1, none⟩ (.int .u64 (e1 c'))).setCell ⟨b8, 2, none⟩ (.int .u64 (e2 c'))).setCell ⟨b8, 3, none⟩ (.int .u64 (e3 c'))).setCell ⟨b8, 4, none⟩ (.int .u64 (e0 d'))).setCell ⟨b8, 5, none⟩ (.int .u64 (e1 d'))).setCell ⟨b8, 6, none⟩ (.int .u64 (e2 d'))).setCell ⟨b8, 7, none⟩ (.int .u64 (e3 d')))) := HM.out.store hord.out a' b' c' d'
   generalize (((((((((((((((w2.setCell ⟨b7, 0, none⟩ (.int .u64 (e0 a'))).setCell ⟨b7, 1, none⟩ (.int .u64 (e1 a'))).setCell ⟨b7, 2, none⟩ (.int .u64 (e2 a'))).setCell ⟨b7, 3, none⟩ (.int .u64 (e3 a'))).setCell ⟨b7, 4, none⟩ (.int .u64 (e0 b'))).setCell ⟨b7, 5, none⟩ (.int .u64 (e1 b'))).setCell ⟨b7, 6, none⟩ (.int .u64 (e2 b'))).setCell ⟨b7, 7, none⟩ (.int .u64 (e3 b'))).setCell ⟨b8, 0, none⟩ (.int .u64 (e0 c'))).setCell ⟨b8, 1, none⟩ (.int .u64 (e1 c'))).setCell ⟨b8, 2, none⟩ (.int .u64 (e2 c'))).setCell ⟨b8, 3, none⟩ (.int .u64 (e3 c'))).setCell ⟨b8, 4, none⟩ (.int .u64 (e0 d'))).setCell ⟨b8, 5, none⟩ (.int .u64 (e1 d'))).setCell ⟨b8, 6, none⟩ (.int .u64 (e2 d'))).setCell ⟨b8, 7, none⟩ (.int .u64 (e3 d')) = w3 at *
   obtain ⟨p0, p1, p2, p3, p4, p5, p6, p7⟩ := HM.out.f7
   obtain ⟨o0, o1, o2, o3, o4, o5, o6, o7⟩ := HM.out.f8
   obtain ⟨r0, r1, r2, r3⟩ := HM.out.v6
   go_wp2_with fail
   clear p0 p1 p2 p3 p4 p5 p6 p7 o0 o1 o2 o3 o4 o5 o6 o7
   clear r0 r1 r2 r3
   refine (step_c a' b' c' d' z15 ha' hb' hc' hd' hz15 _).mono ?_
   rintro e w4 ⟨a2, b2, c2, d2, rfl, ha2, hb2, hc2, hd2, HE, hw⟩
   replace HM := hidp (HM.out.later hw)
   clear hw
   obtain ⟨⟨_, pc0⟩, ⟨_, pc1⟩, ⟨_, pc2⟩, ⟨_, pc3⟩, ⟨_, pc4⟩, ⟨_, pc5⟩, ⟨_, pc6⟩, ⟨_, pc7⟩, pf0, pf1, pf2, pf3, pf4, pf5, pf6, pf7⟩ := HM.out.o7
   obtain ⟨⟨_, oc0⟩, ⟨_, oc1⟩, ⟨_, oc2⟩, ⟨_, oc3⟩, ⟨_, oc4⟩, ⟨_, oc5⟩, ⟨_, oc6⟩, ⟨_, oc7⟩, of0, of1, of2, of3, of4, of5, of6, of7⟩ := HM.out.o8
   have hjl := HJ.out
   go_wp2
   clear pc0 pc1 pc2 pc3 pc4 pc5 pc6 pc7 pf0 pf1 pf2 pf3 pf4 pf5 pf6 pf7 oc0 oc1 oc2 oc3 oc4 oc5 oc6 oc7 of0 of1 of2 of3 of4 of5 of6 of7
   go_roundw
   case rel => exact ⟨j + 1, v, a2, b2, c2, d2, _, _, HJ.out, by go_num, rfl, rfl, rfl, hv.out, ha2, hb2, hc2, hd2, by
    unfold Hid
    obtain ⟨E1, E2, E3, E4⟩ := HE.out
    rw [HS.out, HL'.out, E1, E2, E3, E4]
    unfold lst
    by_cases h1 : v = 1
    ·rw [if_pos h1, if_pos h1, if_pos h1]
    ·rw [if_neg h1, if_neg h1, if_neg h1], HM.out.store hord.out a2 b2 c2 d2⟩
   case measure => have := HJ.out; simp [intOf]; omega
  ·have e : j = 255 := by omega
   subst e
   obtain ⟨p0, p1, p2, p3, p4, p5, p6, p7⟩ := HM.out.f7
   obtain ⟨o0, o1, o2, o3, o4, o5, o6, o7⟩ := HM.out.f8
   go_wp2_with fail
   clear p0 p1 p2 p3 p4 p5 p6 p7 o0 o1 o2 o3 o4 o5 o6 o7
   refine (changed_f (lad (leN K) z15 255) a b c d sw hsw ha hb hc hd HL _).mono ?_
   rintro e w2 ⟨a', b', c', d', rfl, ha', hb', hc', hd', HL', hw⟩
   replace HM := hidp (HM.out.later hw)
   clear hw HL
   replace HL : Hid (lad (leN K) z15 255 = (a', b', c', d')) := HL'
   clear HL'
   obtain ⟨⟨_, pc0⟩, ⟨_, pc1⟩, ⟨_, pc2⟩, ⟨_, pc3⟩, ⟨_, pc4⟩, ⟨_, pc5⟩, ⟨_, pc6⟩, ⟨_, pc7⟩, pf0, pf1, pf2, pf3, pf4, pf5, pf6, pf7⟩ := HM.out.o7
   go_upto_region 15 with fail
   clear pc0 pc1 pc2 pc3 pc4 pc5 pc6 pc7 pf0 pf1 pf2 pf3 pf4 pf5 pf6 pf7
   obtain ⟨F7', HD', HB'⟩ := HM.out.store7 hord.out a' b'
   have F7 : Hid (Fr ((((((((w2.setCell ⟨b7, 0, none⟩ (.int .u64 (e0 a'))).setCell ⟨b7, 1, none⟩ (.int .u64 (e1 a'))).setCell ⟨b7, 2, none⟩ (.int .u64 (e2 a'))).setCell ⟨b7, 3, none⟩ (.int .u64 (e3 a'))).setCell ⟨b7, 4, none⟩ (.int .u64 (e0 b'))).setCell ⟨b7, 5, none⟩ (.int .u64 (e1 b'))).setCell ⟨b7, 6, none⟩ (.int .u64 (e2 b'))).setCell ⟨b7, 7, none⟩ (.int .u64 (e3 b'))) b7 a' b') := F7'
   have HD : Hid (((((((((w2.setCell ⟨b7, 0, none⟩ (.int .u64 (e0 a'))).setCell ⟨b7, 1, none⟩ (.int .u64 (e1 a'))).setCell ⟨b7, 2, none⟩ (.int .u64 (e2 a'))).setCell ⟨b7, 3, none⟩ (.int .u64 (e3 a'))).setCell ⟨b7, 4, none⟩ (.int .u64 (e0 b'))).setCell ⟨b7, 5, none⟩ (.int .u64 (e1 b'))).setCell ⟨b7, 6, none⟩ (.int .u64 (e2 b'))).setCell ⟨b7, 7, none⟩ (.int .u64 (e3 b'))).there q2 0 32) := HD'
   have HB : Hid (Below w.heap.size w ((((((((w2.setCell ⟨b7, 0, none⟩ (.int .u64 (e0 a'))).setCell ⟨b7, 1, none⟩ (.int .u64 (e1 a'))).setCell ⟨b7, 2, none⟩ (.int .u64 (e2 a'))).setCell ⟨b7, 3, none⟩ (.int .u64 (e3 a'))).setCell ⟨b7, 4, none⟩ (.int .u64 (e0 b'))).setCell ⟨b7, 5, none⟩ (.int .u64 (e1 b'))).setCell ⟨b7, 6, none⟩ (.int .u64 (e2 b'))).setCell ⟨b7, 7, none⟩ (.int .u64 (e3 b')))) := HB'
   clear F7' HD' HB' HM
   generalize (((((((w2.setCell ⟨b7, 0, none⟩ (.int .u64 (e0 a'))).setCell ⟨b7, 1, none⟩ (.int .u64 (e1 a'))).setCell ⟨b7, 2, none⟩ (.int .u64 (e2 a'))).setCell ⟨b7, 3, none⟩ (.int .u64 (e3 a'))).setCell ⟨b7, 4, none⟩ (.int .u64 (e0 b'))).setCell ⟨b7, 5, none⟩ (.int .u64 (e1 b'))).setCell ⟨b7, 6, none⟩ (.int .u64 (e2 b'))).setCell ⟨b7, 7, none⟩ (.int .u64 (e3 b')) = W9 at *
   obtain ⟨o1, o2, o3, o4, o5⟩ := hord.out
   obtain ⟨F7c0, F7c1, F7c2, F7c3, F7c4, F7c5, F7c6, F7c7⟩ := F7.out
   have F7u0 : ∀ u, ExtL [q2] W9 u → u.cell? ⟨b7, 0, none⟩ = some (.int .u64 (e0 a')) := fun u hu => hu.cell (by simp only [List.mem_cons, List.not_mem_nil, or_false]; omega) F7c0
   have F7u1 : ∀ u, ExtL [q2] W9 u → u.cell? ⟨b7, 1, none⟩ = some (.int .u64 (e1 a')) := fun u hu => hu.cell (by simp only [List.mem_cons, List.not_mem_nil, or_false]; omega) F7c1
   have F7u2 : ∀ u, ExtL [q2] W9 u → u.cell? ⟨b7, 2, none⟩ = some (.int .u64 (e2 a')) := fun u hu => hu.cell (by simp only [List.mem_cons, List.not_mem_nil, or_false]; omega) F7c2
   have F7u3 : ∀ u, ExtL [q2] W9 u → u.cell? ⟨b7, 3, none⟩ = some (.int .u64 (e3 a')) := fun u hu => hu.cell (by simp only [List.mem_cons, List.not_mem_nil, or_false]; omega) F7c3
   have F7u4 : ∀ u, ExtL [q2] W9 u → u.cell? ⟨b7, 4, none⟩ = some (.int .u64 (e0 b')) := fun u hu => hu.cell (by simp only [List.mem_cons, List.not_mem_nil, or_false]; omega) F7c4
   have F7u5 : ∀ u, ExtL [q2] W9 u → u.cell? ⟨b7, 5, none⟩ = some (.int .u64 (e1 b')) := fun u hu => hu.cell (by simp only [List.mem_cons, List.not_mem_nil, or_false]; omega) F7c5
   have F7u6 : ∀ u, ExtL [q2] W9 u → u.cell? ⟨b7, 6, none⟩ = some (.int .u64 (e2 b')) := fun u hu => hu.cell (by simp only [List.mem_cons, List.not_mem_nil, or_false]; omega) F7c6
   have F7u7 : ∀ u, ExtL [q2] W9 u → u.cell? ⟨b7, 7, none⟩ = some (.int .u64 (e3 b')) := fun u hu => hu.cell (by simp only [List.mem_cons, List.not_mem_nil, or_false]; omega) F7c7
   clear F7c0 F7c1 F7c2 F7c3 F7c4 F7c5 F7c6 F7c7
   refine wp_region_noPanic ?_
   refine wp_region_held_drew (S := ExtL [q2] W9) (by kernel_rfl) (ExtL.refl _ _).drew (fun hH => ?_)
   change wpAnyH _ _ _ _ _ _ #[false, false, false, false, false, false, false, false] _ _
   replace HD : Hid (W9.drew.there q2 0 32) := there_later (Below.refl _ _).drew HD.out
   generalize W9.drew = y9 at *
   refine tn 0 ?_
   refine tn 1 ?_
   refine tn 2 ?_
   refine tn 3 ?_
   clear F7u0 F7u1 F7u2 F7u3 F7u4 F7u5 F7u6 F7u7
   refine rdy 4 (fun K hK => ?_)
   go_simp
   refine (invert_e b' hb' _).mono ?_
   rintro e y10 ⟨iz, rfl, hiz, Hiz, hb⟩
   refine ko hK (hH.trans hb) fun hH => ?_; clear hK K
   replace HD : Hid (y10.there q2 0 32) := there_later hb HD.out
   clear hb
   refine rdy 5 (fun K hK => ?_)
   go_simp
   refine (mul_e a' iz ha' hiz _).mono ?_
   rintro e y11 ⟨mz, rfl, hmz, Hmz, hb⟩
   refine ko hK (hH.trans hb) fun hH => ?_; clear hK K
   replace HD : Hid (y11.there q2 0 32) := there_later hb HD.out
   clear hb
   refine rdy 6 (fun K hK => ?_)
   go_simp
   refine (bytes_e mz hmz _).mono ?_
   rintro e y12 ⟨rfl, hb⟩
   refine ko hK (hH.trans hb) fun hH => ?_; clear hK K
   replace HD : Hid (y12.there q2 0 32) := there_later hb HD.out
   clear hb
   have hby := lay_by mz
   obtain ⟨hlen, hone, hi⟩ := by_cells hby
   have HE : Hid (lay 32 mz = lay 32 (xn (leN K) z15)) := by unfold Hid xn fm; rw [HL.out, Hmz.out, Hiz.out]
   generalize hcs : (List.map (Value.int .u8) (lay 32 mz)) = cs at *
   have HC : Hid ((List.map (Value.int .u8) (lay 32 mz)) = cs) := hcs
   clear hcs
   refine rdy 7 (fun K hK => ?_)
   refine wp_store_mid 30 (.tmp 4) (.tmp 60) rfl q2 0 cs.toArray rfl rfl (by simpa [hlen] using HD.out) (by simpa using hi) (all_oneCell_toArray hone) ?_
   refine ko hK (extL_setCells cs 0 y12 hH) fun hH => ?_; clear hK K
   refine wpAnyH_done (by kernel_rfl) ?_ _
   refine NoPanic.normal ?_
   have HR2 : Hid ((y12.setCells q2 0 cs).rangeAt q2 0 cs) := World.rangeAt_setCells_same _ _ _ _ (by rw [hlen]; exact HD.out)
   go_wp2
   have hld := run_loadVar_mid (P := Tryz.prog) _ _ 0 30 _ _ HR2.out Tryz.underlying30 rfl hi
   refine bodyPost_ret (v := .agg cs.toArray) (by simp [results, Tryz.results37]; exact hld) rfl ⟨by rw [← HC.out, HE.out, ← HKe.out, Hz15.out], ?_⟩
   exact hH.below HB.out (fun b hb => by simp only [List.mem_cons, List.not_mem_nil, or_false] at hb; omega)
end Go.Proofs.YtlnbjehimabaiaaGreatDoor.Fc
