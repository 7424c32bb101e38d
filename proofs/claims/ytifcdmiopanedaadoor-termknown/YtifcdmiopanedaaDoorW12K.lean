/-
  TermKnown's walk. No statement of the seat is proved here.
-/
import Derived.Test.YtifcdmiopanedaaDoorTKn
import Derived.Test.YtifcdmiopanedaaDoorTSz
namespace Go.Proofs.YtifcdmiopanedaaDoor
open Go.RowKit
set_option linter.unusedVariables false
set_option linter.unusedSimpArgs false

theorem Blk.later {q : Nat} {ty : TypeId} {cs : List Value} {w u : World} (h : Blk q ty cs w) (hb : Below w.heap.size w u) : Blk q ty cs u := (hb.block q (Array.getElem?_eq_some_iff.1 h).1).trans h
theorem Blk.range {q : Nat} {ty : TypeId} {cs : List Value} {w : World} (h : Blk q ty cs w) : w.rangeAt q 0 cs := fun j v hv => by
  rw [Nat.zero_add]; exact h.cell hv
structure Sk (q1 q2 : Nat) (w u : World) : Prop where
  b : Blk q1 31 [.iface 23 (.agg #[.int .i64 1]), .int .i64 2, .iface 25 (.agg #[]), .iface 27 (.agg #[.int .i64 (-3)])] u
  c : Blk q2 33 [.int .i64 1, .iface 31 (.agg #[.iface 23 (.agg #[.int .i64 1]), .int .i64 2, .iface 25 (.agg #[]), .iface 27 (.agg #[.int .i64 (-3)])]), .nilIface] u
  bel : Below w.heap.size w u
theorem Sk.later {q1 q2 : Nat} {w u v : World} (h : Sk q1 q2 w u) (hb : Below u.heap.size u v) : Sk q1 q2 w v := ⟨h.b.later hb, h.c.later hb, h.bel.trans (hb.mono h.bel.size)⟩
theorem Sk.drew {q1 q2 : Nat} {w u : World} (h : Sk q1 q2 w u) : Sk q1 q2 w u.drew := h.later ⟨rfl, rfl, rfl, Nat.le_refl _, fun _ _ => rfl⟩
theorem tmBk : Tm 31 (.agg #[.iface 23 (.agg #[.int .i64 1]), .int .i64 2, .iface 25 (.agg #[]), .iface 27 (.agg #[.int .i64 (-3)])]) (bxN 2 (112 :: Lib.itoa 1) [95] (97 :: Lib.itoa (-3))) 4 := Tm.box 2 (by omega) (by omega) (Tm.pub 1 (by omega) (by omega)) Tm.empty (Tm.atom (-3) (by omega) (by omega))
theorem bkN : bxN 2 (112 :: Lib.itoa 1) [95] (97 :: Lib.itoa (-3)) = [98, 50, 40, 112, 49, 44, 95, 44, 97, 45, 51, 41] := by kernel_rfl
theorem csBk : Cs (.iface 31 (.agg #[.iface 23 (.agg #[.int .i64 1]), .int .i64 2, .iface 25 (.agg #[]), .iface 27 (.agg #[.int .i64 (-3)])])) 4 := tmBk.cs
theorem wrBk : Wrote (.iface 31 (.agg #[.iface 23 (.agg #[.int .i64 1]), .int .i64 2, .iface 25 (.agg #[]), .iface 27 (.agg #[.int .i64 (-3)])])) [98, 50, 40, 112, 49, 44, 95, 44, 97, 45, 51, 41] := by
  have h := tmBk.wrote
  rw [bkN] at h
  exact h
theorem ckN : chN 1 [98, 50, 40, 112, 49, 44, 95, 44, 97, 45, 51, 41] [63] = [99, 49, 40, 98, 50, 40, 112, 49, 44, 95, 44, 97, 45, 51, 41, 44, 63, 41] := by kernel_rfl
theorem dkN : dgN [98, 50, 40, 112, 49, 44, 95, 44, 97, 45, 51, 41] [98, 50, 40, 112, 49, 44, 95, 44, 97, 45, 51, 41] = [104, 40, 98, 50, 40, 112, 49, 44, 95, 44, 97, 45, 51, 41, 44, 98, 50, 40, 112, 49, 44, 95, 44, 97, 45, 51, 41, 41] := by kernel_rfl
theorem wrCk : Wrote (.iface 33 (.agg #[.int .i64 1, .iface 31 (.agg #[.iface 23 (.agg #[.int .i64 1]), .int .i64 2, .iface 25 (.agg #[]), .iface 27 (.agg #[.int .i64 (-3)])]), .nilIface])) [99, 49, 40, 98, 50, 40, 112, 49, 44, 95, 44, 97, 45, 51, 41, 44, 63, 41] := by
  have h := wrote_ChainNil 1 31 (.agg #[.iface 23 (.agg #[.int .i64 1]), .int .i64 2, .iface 25 (.agg #[]), .iface 27 (.agg #[.int .i64 (-3)])]) _ (by omega) (by omega) wrBk
  rw [ckN] at h
  exact h
set_option maxRecDepth 8000 in
set_option maxHeartbeats 4000000 in
theorem termKnown_walk (w : World) (hg : Gt w) : Calls Tryd.prog 3 #[] w fun e u => e = .returned (.bool true) ∧ Below w.heap.size w u := by
  have KN : Hid (∀ w, Gt w → Calls Tryd.prog 9 #[] w fun e u => e = .returned (.bool true) ∧ Below w.heap.size w u) := known_c
  have NB : Hid (∀ w, Gt w → Calls Tryd.prog 10 #[(.agg #[.iface 23 (.agg #[.int .i64 1]), .int .i64 2, .iface 25 (.agg #[]), .iface 27 (.agg #[.int .i64 (-3)])])] w fun e u => e = .returned (.string ⟨#[98, 50, 40, 112, 49, 44, 95, 44, 97, 45, 51, 41]⟩) ∧ Below w.heap.size w u) := fun w hw => by have h := name_Box 2 _ _ _ _ _ _ _ _ _ (by omega) (by omega) (Tm.pub 1 (by omega) (by omega)).wrote Tm.empty.wrote (Tm.atom (-3) (by omega) (by omega)).wrote (by rw [bkN]; decide) w hw; rw [bkN] at h; exact h
  have NC : Hid (∀ w, Gt w → Calls Tryd.prog 11 #[(.agg #[.int .i64 1, .iface 31 (.agg #[.iface 23 (.agg #[.int .i64 1]), .int .i64 2, .iface 25 (.agg #[]), .iface 27 (.agg #[.int .i64 (-3)])]), .nilIface])] w fun e u => e = .returned (.string ⟨#[99, 49, 40, 98, 50, 40, 112, 49, 44, 95, 44, 97, 45, 51, 41, 44, 63, 41]⟩) ∧ Below w.heap.size w u) := fun w hw => by have h := name_ChainNil 1 31 (.agg #[.iface 23 (.agg #[.int .i64 1]), .int .i64 2, .iface 25 (.agg #[]), .iface 27 (.agg #[.int .i64 (-3)])]) _ (by omega) (by omega) wrBk (by rw [ckN]; decide) w hw; rw [ckN] at h; exact h
  have ND : Hid (∀ w, Gt w → Calls Tryd.prog 12 #[(.agg #[.iface 31 (.agg #[.iface 23 (.agg #[.int .i64 1]), .int .i64 2, .iface 25 (.agg #[]), .iface 27 (.agg #[.int .i64 (-3)])]), .iface 31 (.agg #[.iface 23 (.agg #[.int .i64 1]), .int .i64 2, .iface 25 (.agg #[]), .iface 27 (.agg #[.int .i64 (-3)])])])] w fun e u => e = .returned (.string ⟨#[104, 40, 98, 50, 40, 112, 49, 44, 95, 44, 97, 45, 51, 41, 44, 98, 50, 40, 112, 49, 44, 95, 44, 97, 45, 51, 41, 41]⟩) ∧ Below w.heap.size w u) := fun w hw => by have h := name_Digest 31 (.agg #[.iface 23 (.agg #[.int .i64 1]), .int .i64 2, .iface 25 (.agg #[]), .iface 27 (.agg #[.int .i64 (-3)])]) _ 31 (.agg #[.iface 23 (.agg #[.int .i64 1]), .int .i64 2, .iface 25 (.agg #[]), .iface 27 (.agg #[.int .i64 (-3)])]) _ wrBk wrBk (by rw [dkN]; decide) w hw; rw [dkN] at h; exact h
  have DN : Hid (∀ w, Calls Tryd.prog 8 #[.int .i64 5, .iface 27 (.agg #[.int .i64 3])] w fun e u => e = .returned (.tuple #[.nilIface, .bool false]) ∧ Below w.heap.size w u) := dh_no 5 _ (as_Atom_Public _)
  have MB : Hid (∀ w, Calls Tryd.prog 14 #[(.iface 31 (.agg #[.iface 23 (.agg #[.int .i64 1]), .int .i64 2, .iface 25 (.agg #[]), .iface 27 (.agg #[.int .i64 (-3)])]))] w fun e u => e = .returned (.agg #[.iface 23 (.agg #[.int .i64 1]), .int .i64 2, .iface 25 (.agg #[]), .iface 27 (.agg #[.int .i64 (-3)])]) ∧ Below w.heap.size w u) := mustbox_yes _ _ _ _ _ _ _
  have SB : Hid (∀ w, Gt w → Calls Tryd.prog 13 #[(.iface 31 (.agg #[.iface 23 (.agg #[.int .i64 1]), .int .i64 2, .iface 25 (.agg #[]), .iface 27 (.agg #[.int .i64 (-3)])])), (.iface 31 (.agg #[.iface 23 (.agg #[.int .i64 1]), .int .i64 2, .iface 25 (.agg #[]), .iface 27 (.agg #[.int .i64 (-3)])]))] w fun e u => e = .returned (.bool true) ∧ Below w.heap.size w u) := fun w hw => by have h := same_c wrBk wrBk (by decide) (by decide) (by decide) (by decide) w hw; exact h
  have SC : Hid (∀ w, Gt w → Calls Tryd.prog 13 #[(.iface 31 (.agg #[.iface 23 (.agg #[.int .i64 1]), .int .i64 2, .iface 25 (.agg #[]), .iface 27 (.agg #[.int .i64 (-3)])])), (.iface 33 (.agg #[.int .i64 1, .iface 31 (.agg #[.iface 23 (.agg #[.int .i64 1]), .int .i64 2, .iface 25 (.agg #[]), .iface 27 (.agg #[.int .i64 (-3)])]), .nilIface]))] w fun e u => e = .returned (.bool false) ∧ Below w.heap.size w u) := fun w hw => by have h := same_c wrBk wrCk (by decide) (by decide) (by decide) (by decide) w hw; exact h
  have ZC : Hid (∀ w, Calls Tryd.prog 15 #[(.iface 33 (.agg #[.int .i64 1, .iface 31 (.agg #[.iface 23 (.agg #[.int .i64 1]), .int .i64 2, .iface 25 (.agg #[]), .iface 27 (.agg #[.int .i64 (-3)])]), .nilIface]))] w fun e u => e = .returned (.int .i64 6) ∧ Below w.heap.size w u) := fun w => size_c (cs_chainNil 1 csBk) (by omega) w
  have PC : Hid (∀ w, Calls Tryd.prog 16 #[(.iface 33 (.agg #[.int .i64 1, .iface 31 (.agg #[.iface 23 (.agg #[.int .i64 1]), .int .i64 2, .iface 25 (.agg #[]), .iface 27 (.agg #[.int .i64 (-3)])]), .nilIface]))] w fun e u => e = .returned (.bool true) ∧ Below w.heap.size w u) := fun w => panics_of _ _ _ _ (no_Box_Chain _) w
  have PN : Hid (∀ w, Calls Tryd.prog 16 #[.nilIface] w fun e u => e = .returned (.bool true) ∧ Below w.heap.size w u) := fun w => panics_of _ _ _ _ no_Box_nil w
  have PB : Hid (∀ w, Calls Tryd.prog 16 #[(.iface 31 (.agg #[.iface 23 (.agg #[.int .i64 1]), .int .i64 2, .iface 25 (.agg #[]), .iface 27 (.agg #[.int .i64 (-3)])]))] w fun e u => e = .returned (.bool false) ∧ Below w.heap.size w u) := fun w => panics_Box _ _ _ _ _ _ _ w
  have ZN : Hid (∀ w, Calls Tryd.prog 15 #[.nilIface] w fun e u => e = .returned (.int .i64 1) ∧ Below w.heap.size w u) := fun w => size_nil cs_nil (by omega) w
  have HG : Hid (Gt w) := hg
  have hQ0 : Blk w.heap.size 31 [.iface 23 (.agg #[.int .i64 1]), .int .i64 2, .iface 25 (.agg #[]), .iface 27 (.agg #[.int .i64 (-3)])] (w.alloc (.cells #[.iface 23 (.agg #[.int .i64 1]), .int .i64 2, .iface 25 (.agg #[]), .iface 27 (.agg #[.int .i64 (-3)])] 31)) := Blk.new w _ [.iface 23 (.agg #[.int .i64 1]), .int .i64 2, .iface 25 (.agg #[]), .iface 27 (.agg #[.int .i64 (-3)])]
  have l0 := run_loadVar_mid (P := Tryd.prog) (w.alloc (.cells #[.iface 23 (.agg #[.int .i64 1]), .int .i64 2, .iface 25 (.agg #[]), .iface 27 (.agg #[.int .i64 (-3)])] 31)) w.heap.size 0 31 _ _ hQ0.range Tryd.underlying31 rfl (by kernel_rfl)
  have hs1 : (w.alloc (.cells #[.iface 23 (.agg #[.int .i64 1]), .int .i64 2, .iface 25 (.agg #[]), .iface 27 (.agg #[.int .i64 (-3)])] 31)).heap.size = w.heap.size + 1 := by simp
  have hQ1 : Blk w.heap.size 31 [.iface 23 (.agg #[.int .i64 1]), .int .i64 2, .iface 25 (.agg #[]), .iface 27 (.agg #[.int .i64 (-3)])] ((w.alloc (.cells #[.iface 23 (.agg #[.int .i64 1]), .int .i64 2, .iface 25 (.agg #[]), .iface 27 (.agg #[.int .i64 (-3)])] 31)).alloc (.cells #[.int .i64 1, .iface 31 (.agg #[.iface 23 (.agg #[.int .i64 1]), .int .i64 2, .iface 25 (.agg #[]), .iface 27 (.agg #[.int .i64 (-3)])]), .nilIface] 33)) := hQ0.alloc _
  have hQ2 : Blk (w.heap.size + 1) 33 [.int .i64 1, .iface 31 (.agg #[.iface 23 (.agg #[.int .i64 1]), .int .i64 2, .iface 25 (.agg #[]), .iface 27 (.agg #[.int .i64 (-3)])]), .nilIface] ((w.alloc (.cells #[.iface 23 (.agg #[.int .i64 1]), .int .i64 2, .iface 25 (.agg #[]), .iface 27 (.agg #[.int .i64 (-3)])] 31)).alloc (.cells #[.int .i64 1, .iface 31 (.agg #[.iface 23 (.agg #[.int .i64 1]), .int .i64 2, .iface 25 (.agg #[]), .iface 27 (.agg #[.int .i64 (-3)])]), .nilIface] 33)) := by have h := Blk.new (w.alloc (.cells #[.iface 23 (.agg #[.int .i64 1]), .int .i64 2, .iface 25 (.agg #[]), .iface 27 (.agg #[.int .i64 (-3)])] 31)) 33 [.int .i64 1, .iface 31 (.agg #[.iface 23 (.agg #[.int .i64 1]), .int .i64 2, .iface 25 (.agg #[]), .iface 27 (.agg #[.int .i64 (-3)])]), .nilIface]; rw [hs1] at h; exact h
  have HB : Hid (Below w.heap.size w ((w.alloc (.cells #[.iface 23 (.agg #[.int .i64 1]), .int .i64 2, .iface 25 (.agg #[]), .iface 27 (.agg #[.int .i64 (-3)])] 31)).alloc (.cells #[.int .i64 1, .iface 31 (.agg #[.iface 23 (.agg #[.int .i64 1]), .int .i64 2, .iface 25 (.agg #[]), .iface 27 (.agg #[.int .i64 (-3)])]), .nilIface] 33))) := bel2 w _ _
  clear hg hs1 hQ0
  have QB : Hid (Blk w.heap.size 31 [.iface 23 (.agg #[.int .i64 1]), .int .i64 2, .iface 25 (.agg #[]), .iface 27 (.agg #[.int .i64 (-3)])] ((w.alloc (.cells #[.iface 23 (.agg #[.int .i64 1]), .int .i64 2, .iface 25 (.agg #[]), .iface 27 (.agg #[.int .i64 (-3)])] 31)).alloc (.cells #[.int .i64 1, .iface 31 (.agg #[.iface 23 (.agg #[.int .i64 1]), .int .i64 2, .iface 25 (.agg #[]), .iface 27 (.agg #[.int .i64 (-3)])]), .nilIface] 33))) := hQ1
  have QC : Hid (Blk (w.heap.size + 1) 33 [.int .i64 1, .iface 31 (.agg #[.iface 23 (.agg #[.int .i64 1]), .int .i64 2, .iface 25 (.agg #[]), .iface 27 (.agg #[.int .i64 (-3)])]), .nilIface] ((w.alloc (.cells #[.iface 23 (.agg #[.int .i64 1]), .int .i64 2, .iface 25 (.agg #[]), .iface 27 (.agg #[.int .i64 (-3)])] 31)).alloc (.cells #[.int .i64 1, .iface 31 (.agg #[.iface 23 (.agg #[.int .i64 1]), .int .i64 2, .iface 25 (.agg #[]), .iface 27 (.agg #[.int .i64 (-3)])]), .nilIface] 33))) := hQ2
  clear hQ1 hQ2
  go_enter Tryd.func3, Tryd.ntmps3
  go_wp2_with fail
  obtain ⟨W0, hW0⟩ : ∃ z, z = ((w.alloc (.cells #[.iface 23 (.agg #[.int .i64 1]), .int .i64 2, .iface 25 (.agg #[]), .iface 27 (.agg #[.int .i64 (-3)])] 31)).alloc (.cells #[.int .i64 1, .iface 31 (.agg #[.iface 23 (.agg #[.int .i64 1]), .int .i64 2, .iface 25 (.agg #[]), .iface 27 (.agg #[.int .i64 (-3)])]), .nilIface] 33)) := ⟨_, rfl⟩
  obtain ⟨q1, hq1⟩ : ∃ z, z = w.heap.size := ⟨_, rfl⟩
  obtain ⟨q2, hq2⟩ : ∃ z, z = q1 + 1 := ⟨_, rfl⟩
  have HQ : Hid (q1 = w.heap.size) := hq1
  rw [← hW0] at QB QC HB
  rw [← hq1] at QB QC
  rw [← hq2] at QC
  rw [← hW0, ← hq1, ← hq2]
  clear l0 hW0 hq1 hq2
  refine (DN.out _).mono ?_
  rintro e u0 ⟨rfl, hb⟩
  have HS : Hid (Sk q1 q2 w u0) := ⟨QB.out.later hb, QC.out.later hb, HB.out.trans (hb.mono HB.out.size)⟩
  clear hb DN HB QB QC
  go_upto_region 4 with fail
  refine wp_region_noPanic ?_
  refine wp_region_held_drew (S := Sk q1 q2 w) (by kernel_rfl) HS.out.drew (fun hH => ?_)
  change wpAnyH _ _ _ _ _ _ #[false, false, false, false, false, false, false, false, false, false, false, false, false, false, false, false, false, false, false, false, false, false, false, false, false, false, false, false, false, false, false, false, false, false, false, false, false, false, false, false, false, false, false, false, false, false, false, false, false, false, false, false, false, false, false, false, false, false, false, false, false, false, false, false, false, false] _ _
  refine wpAnyH_ready (rs := [0]) (by kernel_rfl) (by simp) ?_
  refine AllReadyH.cons (o := ?o0k) ?h0k (fun K hK => ?_) AllReadyH.nil
  case h0k => simp only [List.getElem?_toArray]; rfl
  go_simp
  refine (KN.out _ (HG.out.later hH.bel)).mono ?_
  rintro e v1 ⟨rfl, hb⟩
  clear KN
  refine hK.out _ _ (hH.later hb) (fun hH' => ?_)
  clear hK K hH
  have hH := hH'
  clear hH'
  try simp only [List.setIfInBounds_toArray, List.set]
  clear hb
  refine wpAnyH_take (i := 1) (oi := ?o1k) (v := ?v1k) ?h1k (by kernel_rfl) ?f1k ?r1k (fun _ _ _ h => h) (Or.inl ⟨?w1k, ?y1k⟩) (by assumption) ?t1k
  case h1k => simp only [List.getElem?_toArray]; rfl
  case f1k => kernel_rfl
  case r1k => kernel_rfl
  case w1k => rfl
  case y1k => (intro u hu; (go_simp) <;> with_reducible rfl)
  try simp only [Act.put, List.setIfInBounds_toArray, List.set_cons_zero, List.set_cons_succ]
  refine wpAnyH_take (i := 2) (oi := ?o2k) (v := ?v2k) ?h2k (by kernel_rfl) ?f2k ?r2k (fun _ _ _ h => h) (Or.inl ⟨?w2k, ?y2k⟩) (by assumption) ?t2k
  case h2k => simp only [List.getElem?_toArray]; rfl
  case f2k => kernel_rfl
  case r2k => kernel_rfl
  case w2k => rfl
  case y2k => (intro u hu; (have c0 := hu.b.cell (o := 0) rfl; have c1 := hu.b.cell (o := 1) rfl; have c2 := hu.b.cell (o := 2) rfl; have c3 := hu.b.cell (o := 3) rfl; go_simp) <;> with_reducible rfl)
  try simp only [Act.put, List.setIfInBounds_toArray, List.set_cons_zero, List.set_cons_succ]
  refine wpAnyH_ready (rs := [3]) (by kernel_rfl) (by simp) ?_
  refine AllReadyH.cons (o := ?o3k) ?h3k (fun K hK => ?_) AllReadyH.nil
  case h3k => simp only [List.getElem?_toArray]; rfl
  go_simp
  refine (NB.out _ (HG.out.later hH.bel)).mono ?_
  rintro e v2 ⟨rfl, hb⟩
  clear NB
  refine hK.out _ _ (hH.later hb) (fun hH' => ?_)
  clear hK K hH
  have hH := hH'
  clear hH'
  try simp only [List.setIfInBounds_toArray, List.set]
  clear hb
  refine wpAnyH_take (i := 4) (oi := ?o4k) (v := ?v4k) ?h4k (by kernel_rfl) ?f4k ?r4k (fun _ _ _ h => h) (Or.inl ⟨?w4k, ?y4k⟩) (by assumption) ?t4k
  case h4k => simp only [List.getElem?_toArray]; rfl
  case f4k => kernel_rfl
  case r4k => kernel_rfl
  case w4k => rfl
  case y4k => (intro u hu; (go_simp) <;> with_reducible rfl)
  try simp only [Act.put, List.setIfInBounds_toArray, List.set_cons_zero, List.set_cons_succ]
  refine wpAnyH_take (i := 5) (oi := ?o5k) (v := ?v5k) ?h5k (by kernel_rfl) ?f5k ?r5k (fun _ _ _ h => h) (Or.inl ⟨?w5k, ?y5k⟩) (by assumption) ?t5k
  case h5k => simp only [List.getElem?_toArray]; rfl
  case f5k => kernel_rfl
  case r5k => kernel_rfl
  case w5k => rfl
  case y5k => (intro u hu; (go_simp) <;> with_reducible rfl)
  try simp only [Act.put, List.setIfInBounds_toArray, List.set_cons_zero, List.set_cons_succ]
  refine wpAnyH_take (i := 6) (oi := ?o6k) (v := ?v6k) ?h6k (by kernel_rfl) ?f6k ?r6k (fun _ _ _ h => h) (Or.inl ⟨?w6k, ?y6k⟩) (by assumption) ?t6k
  case h6k => simp only [List.getElem?_toArray]; rfl
  case f6k => kernel_rfl
  case r6k => kernel_rfl
  case w6k => rfl
  case y6k => (intro u hu; (go_simp) <;> with_reducible rfl)
  try simp only [Act.put, List.setIfInBounds_toArray, List.set_cons_zero, List.set_cons_succ]
  refine wpAnyH_take (i := 7) (oi := ?o7k) (v := ?v7k) ?h7k (by kernel_rfl) ?f7k ?r7k (fun _ _ _ h => h) (Or.inl ⟨?w7k, ?y7k⟩) (by assumption) ?t7k
  case h7k => simp only [List.getElem?_toArray]; rfl
  case f7k => kernel_rfl
  case r7k => kernel_rfl
  case w7k => rfl
  case y7k => (intro u hu; (have c0 := hu.c.cell (o := 0) rfl; have c1 := hu.c.cell (o := 1) rfl; have c2 := hu.c.cell (o := 2) rfl; go_simp) <;> with_reducible rfl)
  try simp only [Act.put, List.setIfInBounds_toArray, List.set_cons_zero, List.set_cons_succ]
  refine wpAnyH_ready (rs := [8]) (by kernel_rfl) (by simp) ?_
  refine AllReadyH.cons (o := ?o8k) ?h8k (fun K hK => ?_) AllReadyH.nil
  case h8k => simp only [List.getElem?_toArray]; rfl
  go_simp
  refine (NC.out _ (HG.out.later hH.bel)).mono ?_
  rintro e v3 ⟨rfl, hb⟩
  clear NC
  refine hK.out _ _ (hH.later hb) (fun hH' => ?_)
  clear hK K hH
  have hH := hH'
  clear hH'
  try simp only [List.setIfInBounds_toArray, List.set]
  clear hb
  refine wpAnyH_take (i := 9) (oi := ?o9k) (v := ?v9k) ?h9k (by kernel_rfl) ?f9k ?r9k (fun _ _ _ h => h) (Or.inl ⟨?w9k, ?y9k⟩) (by assumption) ?t9k
  case h9k => simp only [List.getElem?_toArray]; rfl
  case f9k => kernel_rfl
  case r9k => kernel_rfl
  case w9k => rfl
  case y9k => (intro u hu; (go_simp) <;> with_reducible rfl)
  try simp only [Act.put, List.setIfInBounds_toArray, List.set_cons_zero, List.set_cons_succ]
  refine wpAnyH_take (i := 10) (oi := ?o10k) (v := ?v10k) ?h10k (by kernel_rfl) ?f10k ?r10k (fun _ _ _ h => h) (Or.inl ⟨?w10k, ?y10k⟩) (by assumption) ?t10k
  case h10k => simp only [List.getElem?_toArray]; rfl
  case f10k => kernel_rfl
  case r10k => kernel_rfl
  case w10k => rfl
  case y10k => (intro u hu; (go_simp) <;> with_reducible rfl)
  try simp only [Act.put, List.setIfInBounds_toArray, List.set_cons_zero, List.set_cons_succ]
  refine wpAnyH_take (i := 11) (oi := ?o11k) (v := ?v11k) ?h11k (by kernel_rfl) ?f11k ?r11k (fun _ _ _ h => h) (Or.inl ⟨?w11k, ?y11k⟩) (by assumption) ?t11k
  case h11k => simp only [List.getElem?_toArray]; rfl
  case f11k => kernel_rfl
  case r11k => kernel_rfl
  case w11k => rfl
  case y11k => (intro u hu; (go_simp) <;> with_reducible rfl)
  try simp only [Act.put, List.setIfInBounds_toArray, List.set_cons_zero, List.set_cons_succ]
  refine wpAnyH_take (i := 12) (oi := ?o12k) (v := ?v12k) ?h12k (by kernel_rfl) ?f12k ?r12k (fun _ _ _ h => h) (Or.inl ⟨?w12k, ?y12k⟩) (by assumption) ?t12k
  case h12k => simp only [List.getElem?_toArray]; rfl
  case f12k => kernel_rfl
  case r12k => kernel_rfl
  case w12k => rfl
  case y12k => (intro u hu; (have c0 := hu.b.cell (o := 0) rfl; have c1 := hu.b.cell (o := 1) rfl; have c2 := hu.b.cell (o := 2) rfl; have c3 := hu.b.cell (o := 3) rfl; go_simp) <;> with_reducible rfl)
  try simp only [Act.put, List.setIfInBounds_toArray, List.set_cons_zero, List.set_cons_succ]
  refine wpAnyH_take (i := 13) (oi := ?o13k) (v := ?v13k) ?h13k (by kernel_rfl) ?f13k ?r13k (fun _ _ _ h => h) (Or.inl ⟨?w13k, ?y13k⟩) (by assumption) ?t13k
  case h13k => simp only [List.getElem?_toArray]; rfl
  case f13k => kernel_rfl
  case r13k => kernel_rfl
  case w13k => rfl
  case y13k => (intro u hu; (go_simp) <;> with_reducible rfl)
  try simp only [Act.put, List.setIfInBounds_toArray, List.set_cons_zero, List.set_cons_succ]
  refine wpAnyH_take (i := 14) (oi := ?o14k) (v := ?v14k) ?h14k (by kernel_rfl) ?f14k ?r14k (fun _ _ _ h => h) (Or.inl ⟨?w14k, ?y14k⟩) (by assumption) ?t14k
  case h14k => simp only [List.getElem?_toArray]; rfl
  case f14k => kernel_rfl
  case r14k => kernel_rfl
  case w14k => rfl
  case y14k => (intro u hu; (have c0 := hu.b.cell (o := 0) rfl; have c1 := hu.b.cell (o := 1) rfl; have c2 := hu.b.cell (o := 2) rfl; have c3 := hu.b.cell (o := 3) rfl; go_simp) <;> with_reducible rfl)
  try simp only [Act.put, List.setIfInBounds_toArray, List.set_cons_zero, List.set_cons_succ]
  refine wpAnyH_take (i := 15) (oi := ?o15k) (v := ?v15k) ?h15k (by kernel_rfl) ?f15k ?r15k (fun _ _ _ h => h) (Or.inl ⟨?w15k, ?y15k⟩) (by assumption) ?t15k
  case h15k => simp only [List.getElem?_toArray]; rfl
  case f15k => kernel_rfl
  case r15k => kernel_rfl
  case w15k => rfl
  case y15k => (intro u hu; (go_simp) <;> with_reducible rfl)
  try simp only [Act.put, List.setIfInBounds_toArray, List.set_cons_zero, List.set_cons_succ]
  refine wpAnyH_take (i := 16) (oi := ?o16k) (v := ?v16k) ?h16k (by kernel_rfl) ?f16k ?r16k (fun _ _ _ h => h) (Or.inl ⟨?w16k, ?y16k⟩) (by assumption) ?t16k
  case h16k => simp only [List.getElem?_toArray]; rfl
  case f16k => kernel_rfl
  case r16k => kernel_rfl
  case w16k => rfl
  case y16k => (intro u hu; (go_simp) <;> with_reducible rfl)
  try simp only [Act.put, List.setIfInBounds_toArray, List.set_cons_zero, List.set_cons_succ]
  refine wpAnyH_ready (rs := [17]) (by kernel_rfl) (by simp) ?_
  refine AllReadyH.cons (o := ?o17k) ?h17k (fun K hK => ?_) AllReadyH.nil
  case h17k => simp only [List.getElem?_toArray]; rfl
  go_simp
  refine (ND.out _ (HG.out.later hH.bel)).mono ?_
  rintro e v4 ⟨rfl, hb⟩
  clear ND
  refine hK.out _ _ (hH.later hb) (fun hH' => ?_)
  clear hK K hH
  have hH := hH'
  clear hH'
  try simp only [List.setIfInBounds_toArray, List.set]
  clear hb
  refine wpAnyH_take (i := 18) (oi := ?o18k) (v := ?v18k) ?h18k (by kernel_rfl) ?f18k ?r18k (fun _ _ _ h => h) (Or.inl ⟨?w18k, ?y18k⟩) (by assumption) ?t18k
  case h18k => simp only [List.getElem?_toArray]; rfl
  case f18k => kernel_rfl
  case r18k => kernel_rfl
  case w18k => rfl
  case y18k => (intro u hu; (go_simp) <;> with_reducible rfl)
  try simp only [Act.put, List.setIfInBounds_toArray, List.set_cons_zero, List.set_cons_succ]
  refine wpAnyH_take (i := 19) (oi := ?o19k) (v := ?v19k) ?h19k (by kernel_rfl) ?f19k ?r19k (fun _ _ _ h => h) (Or.inl ⟨?w19k, ?y19k⟩) (by assumption) ?t19k
  case h19k => simp only [List.getElem?_toArray]; rfl
  case f19k => kernel_rfl
  case r19k => kernel_rfl
  case w19k => rfl
  case y19k => (intro u hu; (go_simp) <;> with_reducible rfl)
  try simp only [Act.put, List.setIfInBounds_toArray, List.set_cons_zero, List.set_cons_succ]
  refine wpAnyH_take (i := 20) (oi := ?o20k) (v := ?v20k) ?h20k (by kernel_rfl) ?f20k ?r20k (fun _ _ _ h => h) (Or.inl ⟨?w20k, ?y20k⟩) (by assumption) ?t20k
  case h20k => simp only [List.getElem?_toArray]; rfl
  case f20k => kernel_rfl
  case r20k => kernel_rfl
  case w20k => rfl
  case y20k => (intro u hu; (go_simp) <;> with_reducible rfl)
  try simp only [Act.put, List.setIfInBounds_toArray, List.set_cons_zero, List.set_cons_succ]
  refine wpAnyH_take (i := 21) (oi := ?o21k) (v := ?v21k) ?h21k (by kernel_rfl) ?f21k ?r21k (fun _ _ _ h => h) (Or.inl ⟨?w21k, ?y21k⟩) (by assumption) ?t21k
  case h21k => simp only [List.getElem?_toArray]; rfl
  case f21k => kernel_rfl
  case r21k => kernel_rfl
  case w21k => rfl
  case y21k => (intro u hu; (go_simp) <;> with_reducible rfl)
  try simp only [Act.put, List.setIfInBounds_toArray, List.set_cons_zero, List.set_cons_succ]
  refine wpAnyH_take (i := 22) (oi := ?o22k) (v := ?v22k) ?h22k (by kernel_rfl) ?f22k ?r22k (fun _ _ _ h => h) (Or.inl ⟨?w22k, ?y22k⟩) (by assumption) ?t22k
  case h22k => simp only [List.getElem?_toArray]; rfl
  case f22k => kernel_rfl
  case r22k => kernel_rfl
  case w22k => rfl
  case y22k => (intro u hu; (go_simp) <;> with_reducible rfl)
  try simp only [Act.put, List.setIfInBounds_toArray, List.set_cons_zero, List.set_cons_succ]
  refine wpAnyH_take (i := 23) (oi := ?o23k) (v := ?v23k) ?h23k (by kernel_rfl) ?f23k ?r23k (fun _ _ _ h => h) (Or.inl ⟨?w23k, ?y23k⟩) (by assumption) ?t23k
  case h23k => simp only [List.getElem?_toArray]; rfl
  case f23k => kernel_rfl
  case r23k => kernel_rfl
  case w23k => rfl
  case y23k => (intro u hu; (go_simp) <;> with_reducible rfl)
  try simp only [Act.put, List.setIfInBounds_toArray, List.set_cons_zero, List.set_cons_succ]
  refine wpAnyH_take (i := 24) (oi := ?o24k) (v := ?v24k) ?h24k (by kernel_rfl) ?f24k ?r24k (fun _ _ _ h => h) (Or.inl ⟨?w24k, ?y24k⟩) (by assumption) ?t24k
  case h24k => simp only [List.getElem?_toArray]; rfl
  case f24k => kernel_rfl
  case r24k => kernel_rfl
  case w24k => rfl
  case y24k => (intro u hu; (go_simp) <;> with_reducible rfl)
  try simp only [Act.put, List.setIfInBounds_toArray, List.set_cons_zero, List.set_cons_succ]
  refine wpAnyH_take (i := 25) (oi := ?o25k) (v := ?v25k) ?h25k (by kernel_rfl) ?f25k ?r25k (fun _ _ _ h => h) (Or.inl ⟨?w25k, ?y25k⟩) (by assumption) ?t25k
  case h25k => simp only [List.getElem?_toArray]; rfl
  case f25k => kernel_rfl
  case r25k => kernel_rfl
  case w25k => rfl
  case y25k => (intro u hu; (have c0 := hu.b.cell (o := 0) rfl; have c1 := hu.b.cell (o := 1) rfl; have c2 := hu.b.cell (o := 2) rfl; have c3 := hu.b.cell (o := 3) rfl; go_simp) <;> with_reducible rfl)
  try simp only [Act.put, List.setIfInBounds_toArray, List.set_cons_zero, List.set_cons_succ]
  refine wpAnyH_take (i := 26) (oi := ?o26k) (v := ?v26k) ?h26k (by kernel_rfl) ?f26k ?r26k (fun _ _ _ h => h) (Or.inl ⟨?w26k, ?y26k⟩) (by assumption) ?t26k
  case h26k => simp only [List.getElem?_toArray]; rfl
  case f26k => kernel_rfl
  case r26k => kernel_rfl
  case w26k => rfl
  case y26k => (intro u hu; (go_simp) <;> with_reducible rfl)
  try simp only [Act.put, List.setIfInBounds_toArray, List.set_cons_zero, List.set_cons_succ]
  refine wpAnyH_take (i := 27) (oi := ?o27k) (v := ?v27k) ?h27k (by kernel_rfl) ?f27k ?r27k (fun _ _ _ h => h) (Or.inl ⟨?w27k, ?y27k⟩) (by assumption) ?t27k
  case h27k => simp only [List.getElem?_toArray]; rfl
  case f27k => kernel_rfl
  case r27k => kernel_rfl
  case w27k => rfl
  case y27k => (intro u hu; (have c0 := hu.b.cell (o := 0) rfl; have c1 := hu.b.cell (o := 1) rfl; have c2 := hu.b.cell (o := 2) rfl; have c3 := hu.b.cell (o := 3) rfl; go_simp) <;> with_reducible rfl)
  try simp only [Act.put, List.setIfInBounds_toArray, List.set_cons_zero, List.set_cons_succ]
  refine wpAnyH_take (i := 28) (oi := ?o28k) (v := ?v28k) ?h28k (by kernel_rfl) ?f28k ?r28k (fun _ _ _ h => h) (Or.inl ⟨?w28k, ?y28k⟩) (by assumption) ?t28k
  case h28k => simp only [List.getElem?_toArray]; rfl
  case f28k => kernel_rfl
  case r28k => kernel_rfl
  case w28k => rfl
  case y28k => (intro u hu; (go_simp) <;> with_reducible rfl)
  try simp only [Act.put, List.setIfInBounds_toArray, List.set_cons_zero, List.set_cons_succ]
  refine wpAnyH_ready (rs := [29]) (by kernel_rfl) (by simp) ?_
  refine AllReadyH.cons (o := ?o29k) ?h29k (fun K hK => ?_) AllReadyH.nil
  case h29k => simp only [List.getElem?_toArray]; rfl
  go_simp
  refine (MB.out _).mono ?_
  rintro e v5 ⟨rfl, hb⟩
  clear MB
  refine hK.out _ _ (hH.later hb) (fun hH' => ?_)
  clear hK K hH
  have hH := hH'
  clear hH'
  try simp only [List.setIfInBounds_toArray, List.set]
  clear hb
  refine wpAnyH_take (i := 30) (oi := ?o30k) (v := ?v30k) ?h30k (by kernel_rfl) ?f30k ?r30k (fun _ _ _ h => h) (Or.inl ⟨?w30k, ?y30k⟩) (by assumption) ?t30k
  case h30k => simp only [List.getElem?_toArray]; rfl
  case f30k => kernel_rfl
  case r30k => kernel_rfl
  case w30k => rfl
  case y30k => (intro u hu; (go_simp) <;> with_reducible rfl)
  try simp only [Act.put, List.setIfInBounds_toArray, List.set_cons_zero, List.set_cons_succ]
  refine wpAnyH_ready (rs := [31]) (by kernel_rfl) (by simp) ?_
  refine AllReadyH.cons (o := ?o31k) ?h31k (fun K hK => ?_) AllReadyH.nil
  case h31k => simp only [List.getElem?_toArray]; rfl
  go_simp
  refine (SB.out _ (HG.out.later hH.bel)).mono ?_
  rintro e v6 ⟨rfl, hb⟩
  clear SB
  refine hK.out _ _ (hH.later hb) (fun hH' => ?_)
  clear hK K hH
  have hH := hH'
  clear hH'
  try simp only [List.setIfInBounds_toArray, List.set]
  clear hb
  refine wpAnyH_take (i := 32) (oi := ?o32k) (v := ?v32k) ?h32k (by kernel_rfl) ?f32k ?r32k (fun _ _ _ h => h) (Or.inl ⟨?w32k, ?y32k⟩) (by assumption) ?t32k
  case h32k => simp only [List.getElem?_toArray]; rfl
  case f32k => kernel_rfl
  case r32k => kernel_rfl
  case w32k => rfl
  case y32k => (intro u hu; (go_simp) <;> with_reducible rfl)
  try simp only [Act.put, List.setIfInBounds_toArray, List.set_cons_zero, List.set_cons_succ]
  refine wpAnyH_take (i := 33) (oi := ?o33k) (v := ?v33k) ?h33k (by kernel_rfl) ?f33k ?r33k (fun _ _ _ h => h) (Or.inl ⟨?w33k, ?y33k⟩) (by assumption) ?t33k
  case h33k => simp only [List.getElem?_toArray]; rfl
  case f33k => kernel_rfl
  case r33k => kernel_rfl
  case w33k => rfl
  case y33k => (intro u hu; (go_simp) <;> with_reducible rfl)
  try simp only [Act.put, List.setIfInBounds_toArray, List.set_cons_zero, List.set_cons_succ]
  refine wpAnyH_take (i := 34) (oi := ?o34k) (v := ?v34k) ?h34k (by kernel_rfl) ?f34k ?r34k (fun _ _ _ h => h) (Or.inl ⟨?w34k, ?y34k⟩) (by assumption) ?t34k
  case h34k => simp only [List.getElem?_toArray]; rfl
  case f34k => kernel_rfl
  case r34k => kernel_rfl
  case w34k => rfl
  case y34k => (intro u hu; (have c0 := hu.b.cell (o := 0) rfl; have c1 := hu.b.cell (o := 1) rfl; have c2 := hu.b.cell (o := 2) rfl; have c3 := hu.b.cell (o := 3) rfl; go_simp) <;> with_reducible rfl)
  try simp only [Act.put, List.setIfInBounds_toArray, List.set_cons_zero, List.set_cons_succ]
  refine wpAnyH_take (i := 35) (oi := ?o35k) (v := ?v35k) ?h35k (by kernel_rfl) ?f35k ?r35k (fun _ _ _ h => h) (Or.inl ⟨?w35k, ?y35k⟩) (by assumption) ?t35k
  case h35k => simp only [List.getElem?_toArray]; rfl
  case f35k => kernel_rfl
  case r35k => kernel_rfl
  case w35k => rfl
  case y35k => (intro u hu; (go_simp) <;> with_reducible rfl)
  try simp only [Act.put, List.setIfInBounds_toArray, List.set_cons_zero, List.set_cons_succ]
  refine wpAnyH_take (i := 36) (oi := ?o36k) (v := ?v36k) ?h36k (by kernel_rfl) ?f36k ?r36k (fun _ _ _ h => h) (Or.inl ⟨?w36k, ?y36k⟩) (by assumption) ?t36k
  case h36k => simp only [List.getElem?_toArray]; rfl
  case f36k => kernel_rfl
  case r36k => kernel_rfl
  case w36k => rfl
  case y36k => (intro u hu; (have c0 := hu.c.cell (o := 0) rfl; have c1 := hu.c.cell (o := 1) rfl; have c2 := hu.c.cell (o := 2) rfl; go_simp) <;> with_reducible rfl)
  try simp only [Act.put, List.setIfInBounds_toArray, List.set_cons_zero, List.set_cons_succ]
  refine wpAnyH_take (i := 37) (oi := ?o37k) (v := ?v37k) ?h37k (by kernel_rfl) ?f37k ?r37k (fun _ _ _ h => h) (Or.inl ⟨?w37k, ?y37k⟩) (by assumption) ?t37k
  case h37k => simp only [List.getElem?_toArray]; rfl
  case f37k => kernel_rfl
  case r37k => kernel_rfl
  case w37k => rfl
  case y37k => (intro u hu; (go_simp) <;> with_reducible rfl)
  try simp only [Act.put, List.setIfInBounds_toArray, List.set_cons_zero, List.set_cons_succ]
  refine wpAnyH_ready (rs := [38]) (by kernel_rfl) (by simp) ?_
  refine AllReadyH.cons (o := ?o38k) ?h38k (fun K hK => ?_) AllReadyH.nil
  case h38k => simp only [List.getElem?_toArray]; rfl
  go_simp
  refine (SC.out _ (HG.out.later hH.bel)).mono ?_
  rintro e v7 ⟨rfl, hb⟩
  clear SC
  refine hK.out _ _ (hH.later hb) (fun hH' => ?_)
  clear hK K hH
  have hH := hH'
  clear hH'
  try simp only [List.setIfInBounds_toArray, List.set]
  clear hb
  refine wpAnyH_take (i := 39) (oi := ?o39k) (v := ?v39k) ?h39k (by kernel_rfl) ?f39k ?r39k (fun _ _ _ h => h) (Or.inl ⟨?w39k, ?y39k⟩) (by assumption) ?t39k
  case h39k => simp only [List.getElem?_toArray]; rfl
  case f39k => kernel_rfl
  case r39k => kernel_rfl
  case w39k => rfl
  case y39k => (intro u hu; (go_simp) <;> with_reducible rfl)
  try simp only [Act.put, List.setIfInBounds_toArray, List.set_cons_zero, List.set_cons_succ]
  refine wpAnyH_take (i := 40) (oi := ?o40k) (v := ?v40k) ?h40k (by kernel_rfl) ?f40k ?r40k (fun _ _ _ h => h) (Or.inl ⟨?w40k, ?y40k⟩) (by assumption) ?t40k
  case h40k => simp only [List.getElem?_toArray]; rfl
  case f40k => kernel_rfl
  case r40k => kernel_rfl
  case w40k => rfl
  case y40k => (intro u hu; (go_simp) <;> with_reducible rfl)
  try simp only [Act.put, List.setIfInBounds_toArray, List.set_cons_zero, List.set_cons_succ]
  refine wpAnyH_take (i := 41) (oi := ?o41k) (v := ?v41k) ?h41k (by kernel_rfl) ?f41k ?r41k (fun _ _ _ h => h) (Or.inl ⟨?w41k, ?y41k⟩) (by assumption) ?t41k
  case h41k => simp only [List.getElem?_toArray]; rfl
  case f41k => kernel_rfl
  case r41k => kernel_rfl
  case w41k => rfl
  case y41k => (intro u hu; (go_simp) <;> with_reducible rfl)
  try simp only [Act.put, List.setIfInBounds_toArray, List.set_cons_zero, List.set_cons_succ]
  refine wpAnyH_take (i := 42) (oi := ?o42k) (v := ?v42k) ?h42k (by kernel_rfl) ?f42k ?r42k (fun _ _ _ h => h) (Or.inl ⟨?w42k, ?y42k⟩) (by assumption) ?t42k
  case h42k => simp only [List.getElem?_toArray]; rfl
  case f42k => kernel_rfl
  case r42k => kernel_rfl
  case w42k => rfl
  case y42k => (intro u hu; (have c0 := hu.c.cell (o := 0) rfl; have c1 := hu.c.cell (o := 1) rfl; have c2 := hu.c.cell (o := 2) rfl; go_simp) <;> with_reducible rfl)
  try simp only [Act.put, List.setIfInBounds_toArray, List.set_cons_zero, List.set_cons_succ]
  refine wpAnyH_take (i := 43) (oi := ?o43k) (v := ?v43k) ?h43k (by kernel_rfl) ?f43k ?r43k (fun _ _ _ h => h) (Or.inl ⟨?w43k, ?y43k⟩) (by assumption) ?t43k
  case h43k => simp only [List.getElem?_toArray]; rfl
  case f43k => kernel_rfl
  case r43k => kernel_rfl
  case w43k => rfl
  case y43k => (intro u hu; (go_simp) <;> with_reducible rfl)
  try simp only [Act.put, List.setIfInBounds_toArray, List.set_cons_zero, List.set_cons_succ]
  refine wpAnyH_ready (rs := [44]) (by kernel_rfl) (by simp) ?_
  refine AllReadyH.cons (o := ?o44k) ?h44k (fun K hK => ?_) AllReadyH.nil
  case h44k => simp only [List.getElem?_toArray]; rfl
  go_simp
  refine (ZC.out _).mono ?_
  rintro e v8 ⟨rfl, hb⟩
  clear ZC
  refine hK.out _ _ (hH.later hb) (fun hH' => ?_)
  clear hK K hH
  have hH := hH'
  clear hH'
  try simp only [List.setIfInBounds_toArray, List.set]
  clear hb
  refine wpAnyH_take (i := 45) (oi := ?o45k) (v := ?v45k) ?h45k (by kernel_rfl) ?f45k ?r45k (fun _ _ _ h => h) (Or.inl ⟨?w45k, ?y45k⟩) (by assumption) ?t45k
  case h45k => simp only [List.getElem?_toArray]; rfl
  case f45k => kernel_rfl
  case r45k => kernel_rfl
  case w45k => rfl
  case y45k => (intro u hu; (go_simp) <;> with_reducible rfl)
  try simp only [Act.put, List.setIfInBounds_toArray, List.set_cons_zero, List.set_cons_succ]
  refine wpAnyH_take (i := 46) (oi := ?o46k) (v := ?v46k) ?h46k (by kernel_rfl) ?f46k ?r46k (fun _ _ _ h => h) (Or.inl ⟨?w46k, ?y46k⟩) (by assumption) ?t46k
  case h46k => simp only [List.getElem?_toArray]; rfl
  case f46k => kernel_rfl
  case r46k => kernel_rfl
  case w46k => rfl
  case y46k => (intro u hu; (go_simp) <;> with_reducible rfl)
  try simp only [Act.put, List.setIfInBounds_toArray, List.set_cons_zero, List.set_cons_succ]
  refine wpAnyH_take (i := 47) (oi := ?o47k) (v := ?v47k) ?h47k (by kernel_rfl) ?f47k ?r47k (fun _ _ _ h => h) (Or.inl ⟨?w47k, ?y47k⟩) (by assumption) ?t47k
  case h47k => simp only [List.getElem?_toArray]; rfl
  case f47k => kernel_rfl
  case r47k => kernel_rfl
  case w47k => rfl
  case y47k => (intro u hu; (go_simp) <;> with_reducible rfl)
  try simp only [Act.put, List.setIfInBounds_toArray, List.set_cons_zero, List.set_cons_succ]
  refine wpAnyH_take (i := 48) (oi := ?o48k) (v := ?v48k) ?h48k (by kernel_rfl) ?f48k ?r48k (fun _ _ _ h => h) (Or.inl ⟨?w48k, ?y48k⟩) (by assumption) ?t48k
  case h48k => simp only [List.getElem?_toArray]; rfl
  case f48k => kernel_rfl
  case r48k => kernel_rfl
  case w48k => rfl
  case y48k => (intro u hu; (have c0 := hu.c.cell (o := 0) rfl; have c1 := hu.c.cell (o := 1) rfl; have c2 := hu.c.cell (o := 2) rfl; go_simp) <;> with_reducible rfl)
  try simp only [Act.put, List.setIfInBounds_toArray, List.set_cons_zero, List.set_cons_succ]
  refine wpAnyH_take (i := 49) (oi := ?o49k) (v := ?v49k) ?h49k (by kernel_rfl) ?f49k ?r49k (fun _ _ _ h => h) (Or.inl ⟨?w49k, ?y49k⟩) (by assumption) ?t49k
  case h49k => simp only [List.getElem?_toArray]; rfl
  case f49k => kernel_rfl
  case r49k => kernel_rfl
  case w49k => rfl
  case y49k => (intro u hu; (go_simp) <;> with_reducible rfl)
  try simp only [Act.put, List.setIfInBounds_toArray, List.set_cons_zero, List.set_cons_succ]
  refine wpAnyH_ready (rs := [50]) (by kernel_rfl) (by simp) ?_
  refine AllReadyH.cons (o := ?o50k) ?h50k (fun K hK => ?_) AllReadyH.nil
  case h50k => simp only [List.getElem?_toArray]; rfl
  go_simp
  refine (PC.out _).mono ?_
  rintro e v9 ⟨rfl, hb⟩
  clear PC
  refine hK.out _ _ (hH.later hb) (fun hH' => ?_)
  clear hK K hH
  have hH := hH'
  clear hH'
  try simp only [List.setIfInBounds_toArray, List.set]
  clear hb
  refine wpAnyH_take (i := 51) (oi := ?o51k) (v := ?v51k) ?h51k (by kernel_rfl) ?f51k ?r51k (fun _ _ _ h => h) (Or.inl ⟨?w51k, ?y51k⟩) (by assumption) ?t51k
  case h51k => simp only [List.getElem?_toArray]; rfl
  case f51k => kernel_rfl
  case r51k => kernel_rfl
  case w51k => rfl
  case y51k => (intro u hu; (go_simp) <;> with_reducible rfl)
  try simp only [Act.put, List.setIfInBounds_toArray, List.set_cons_zero, List.set_cons_succ]
  refine wpAnyH_take (i := 52) (oi := ?o52k) (v := ?v52k) ?h52k (by kernel_rfl) ?f52k ?r52k (fun _ _ _ h => h) (Or.inl ⟨?w52k, ?y52k⟩) (by assumption) ?t52k
  case h52k => simp only [List.getElem?_toArray]; rfl
  case f52k => kernel_rfl
  case r52k => kernel_rfl
  case w52k => rfl
  case y52k => (intro u hu; (go_simp) <;> with_reducible rfl)
  try simp only [Act.put, List.setIfInBounds_toArray, List.set_cons_zero, List.set_cons_succ]
  refine wpAnyH_ready (rs := [53]) (by kernel_rfl) (by simp) ?_
  refine AllReadyH.cons (o := ?o53k) ?h53k (fun K hK => ?_) AllReadyH.nil
  case h53k => simp only [List.getElem?_toArray]; rfl
  go_simp
  refine (PN.out _).mono ?_
  rintro e v10 ⟨rfl, hb⟩
  clear PN
  refine hK.out _ _ (hH.later hb) (fun hH' => ?_)
  clear hK K hH
  have hH := hH'
  clear hH'
  try simp only [List.setIfInBounds_toArray, List.set]
  clear hb
  refine wpAnyH_take (i := 54) (oi := ?o54k) (v := ?v54k) ?h54k (by kernel_rfl) ?f54k ?r54k (fun _ _ _ h => h) (Or.inl ⟨?w54k, ?y54k⟩) (by assumption) ?t54k
  case h54k => simp only [List.getElem?_toArray]; rfl
  case f54k => kernel_rfl
  case r54k => kernel_rfl
  case w54k => rfl
  case y54k => (intro u hu; (go_simp) <;> with_reducible rfl)
  try simp only [Act.put, List.setIfInBounds_toArray, List.set_cons_zero, List.set_cons_succ]
  refine wpAnyH_take (i := 55) (oi := ?o55k) (v := ?v55k) ?h55k (by kernel_rfl) ?f55k ?r55k (fun _ _ _ h => h) (Or.inl ⟨?w55k, ?y55k⟩) (by assumption) ?t55k
  case h55k => simp only [List.getElem?_toArray]; rfl
  case f55k => kernel_rfl
  case r55k => kernel_rfl
  case w55k => rfl
  case y55k => (intro u hu; (go_simp) <;> with_reducible rfl)
  try simp only [Act.put, List.setIfInBounds_toArray, List.set_cons_zero, List.set_cons_succ]
  refine wpAnyH_take (i := 56) (oi := ?o56k) (v := ?v56k) ?h56k (by kernel_rfl) ?f56k ?r56k (fun _ _ _ h => h) (Or.inl ⟨?w56k, ?y56k⟩) (by assumption) ?t56k
  case h56k => simp only [List.getElem?_toArray]; rfl
  case f56k => kernel_rfl
  case r56k => kernel_rfl
  case w56k => rfl
  case y56k => (intro u hu; (have c0 := hu.b.cell (o := 0) rfl; have c1 := hu.b.cell (o := 1) rfl; have c2 := hu.b.cell (o := 2) rfl; have c3 := hu.b.cell (o := 3) rfl; go_simp) <;> with_reducible rfl)
  try simp only [Act.put, List.setIfInBounds_toArray, List.set_cons_zero, List.set_cons_succ]
  refine wpAnyH_take (i := 57) (oi := ?o57k) (v := ?v57k) ?h57k (by kernel_rfl) ?f57k ?r57k (fun _ _ _ h => h) (Or.inl ⟨?w57k, ?y57k⟩) (by assumption) ?t57k
  case h57k => simp only [List.getElem?_toArray]; rfl
  case f57k => kernel_rfl
  case r57k => kernel_rfl
  case w57k => rfl
  case y57k => (intro u hu; (go_simp) <;> with_reducible rfl)
  try simp only [Act.put, List.setIfInBounds_toArray, List.set_cons_zero, List.set_cons_succ]
  refine wpAnyH_ready (rs := [58]) (by kernel_rfl) (by simp) ?_
  refine AllReadyH.cons (o := ?o58k) ?h58k (fun K hK => ?_) AllReadyH.nil
  case h58k => simp only [List.getElem?_toArray]; rfl
  go_simp
  refine (PB.out _).mono ?_
  rintro e v11 ⟨rfl, hb⟩
  clear PB
  refine hK.out _ _ (hH.later hb) (fun hH' => ?_)
  clear hK K hH
  have hH := hH'
  clear hH'
  try simp only [List.setIfInBounds_toArray, List.set]
  clear hb
  refine wpAnyH_take (i := 59) (oi := ?o59k) (v := ?v59k) ?h59k (by kernel_rfl) ?f59k ?r59k (fun _ _ _ h => h) (Or.inl ⟨?w59k, ?y59k⟩) (by assumption) ?t59k
  case h59k => simp only [List.getElem?_toArray]; rfl
  case f59k => kernel_rfl
  case r59k => kernel_rfl
  case w59k => rfl
  case y59k => (intro u hu; (go_simp) <;> with_reducible rfl)
  try simp only [Act.put, List.setIfInBounds_toArray, List.set_cons_zero, List.set_cons_succ]
  refine wpAnyH_take (i := 60) (oi := ?o60k) (v := ?v60k) ?h60k (by kernel_rfl) ?f60k ?r60k (fun _ _ _ h => h) (Or.inl ⟨?w60k, ?y60k⟩) (by assumption) ?t60k
  case h60k => simp only [List.getElem?_toArray]; rfl
  case f60k => kernel_rfl
  case r60k => kernel_rfl
  case w60k => rfl
  case y60k => (intro u hu; (go_simp) <;> with_reducible rfl)
  try simp only [Act.put, List.setIfInBounds_toArray, List.set_cons_zero, List.set_cons_succ]
  refine wpAnyH_take (i := 61) (oi := ?o61k) (v := ?v61k) ?h61k (by kernel_rfl) ?f61k ?r61k (fun _ _ _ h => h) (Or.inl ⟨?w61k, ?y61k⟩) (by assumption) ?t61k
  case h61k => simp only [List.getElem?_toArray]; rfl
  case f61k => kernel_rfl
  case r61k => kernel_rfl
  case w61k => rfl
  case y61k => (intro u hu; (go_simp) <;> with_reducible rfl)
  try simp only [Act.put, List.setIfInBounds_toArray, List.set_cons_zero, List.set_cons_succ]
  refine wpAnyH_ready (rs := [62]) (by kernel_rfl) (by simp) ?_
  refine AllReadyH.cons (o := ?o62k) ?h62k (fun K hK => ?_) AllReadyH.nil
  case h62k => simp only [List.getElem?_toArray]; rfl
  go_simp
  refine (ZN.out _).mono ?_
  rintro e v12 ⟨rfl, hb⟩
  clear ZN
  refine hK.out _ _ (hH.later hb) (fun hH' => ?_)
  clear hK K hH
  have hH := hH'
  clear hH'
  try simp only [List.setIfInBounds_toArray, List.set]
  clear hb
  refine wpAnyH_take (i := 63) (oi := ?o63k) (v := ?v63k) ?h63k (by kernel_rfl) ?f63k ?r63k (fun _ _ _ h => h) (Or.inl ⟨?w63k, ?y63k⟩) (by assumption) ?t63k
  case h63k => simp only [List.getElem?_toArray]; rfl
  case f63k => kernel_rfl
  case r63k => kernel_rfl
  case w63k => rfl
  case y63k => (intro u hu; (go_simp) <;> with_reducible rfl)
  try simp only [Act.put, List.setIfInBounds_toArray, List.set_cons_zero, List.set_cons_succ]
  refine wpAnyH_take (i := 64) (oi := ?o64k) (v := ?v64k) ?h64k (by kernel_rfl) ?f64k ?r64k (fun _ _ _ h => h) (Or.inl ⟨?w64k, ?y64k⟩) (by assumption) ?t64k
  case h64k => simp only [List.getElem?_toArray]; rfl
  case f64k => kernel_rfl
  case r64k => kernel_rfl
  case w64k => rfl
  case y64k => (intro u hu; (go_simp) <;> with_reducible rfl)
  try simp only [Act.put, List.setIfInBounds_toArray, List.set_cons_zero, List.set_cons_succ]
  refine wpAnyH_take (i := 65) (oi := ?o65k) (v := ?v65k) ?h65k (by kernel_rfl) ?f65k ?r65k (fun _ _ _ h => h) (Or.inl ⟨?w65k, ?y65k⟩) (by assumption) ?t65k
  case h65k => simp only [List.getElem?_toArray]; rfl
  case f65k => kernel_rfl
  case r65k => kernel_rfl
  case w65k => rfl
  case y65k => (intro u hu; (go_simp) <;> with_reducible rfl)
  try simp only [Act.put, List.setIfInBounds_toArray, List.set_cons_zero, List.set_cons_succ]
  refine wpAnyH_done (by kernel_rfl) ?_ _
  refine NoPanic.normal ?_
  have HB : Hid (Below w.heap.size w v12) := hH.bel
  go_wp2
  go_ret
  exact ⟨rfl, HB.out⟩
end Go.Proofs.YtifcdmiopanedaaDoor
