/-
  Several texts of one's own, laid together. No statement of the seat is proved here.
-/
import Derived.Test.YtmibjgkakolhiaaGreatDoorPk1
import Derived.Test.YtmibjgkakolhiaaGreatDoorBMix
import Derived.Test.YtmibjgkakolhiaaGreatDoorPk3
import Derived.Test.YtmibjgkakolhiaaGreatDoorRows
import Derived.ChangeSame
import Derived.ChangeVars
import Derived.JoinedOf
import Derived.RowKit
import Derived.LaidLaws
import Derived.LaidHandle
/-
 What blake's start and read do: the sixteen words that a block is mixed into, and the block's own. No statement of the seat is proved here.
-/
namespace Go.Proofs.YtmibjgkakolhiaaGreatDoor
open Go.RowKit

/-- The package's variables, as their text lays them. -/
structure Gb (w : World) : Prop where
 iv : w.rangeAt 3 0 (List.map (Value.int .u32) iv7)
 sg : w.rangeAt 4 0 (List.map nb8 sg7.flatten)
set_option maxRecDepth 8000 in
theorem Gb.later {u u' : World} (h : Gb u) (hb : Below u.heap.size u u') : Gb u' := ⟨range_later hb h.iv, range_later hb h.sg⟩
set_option maxRecDepth 8000 in
theorem Gb.ivAt {u : World} (h : Gb u) (k : Nat) (hk : k < 8) : u.cell? ⟨3, k, none⟩ = some (.int .u32 iv7[k]!) := by
 have hl : k < iv7.length := hk
 have := h.iv k (.int .u32 iv7[k]!) (by rw [List.getElem?_map, List.getElem?_eq_getElem hl, getElem!_pos iv7 k hl]; rfl)
 rwa [Nat.zero_add] at this
set_option maxRecDepth 8000 in
theorem Gb.ivlt {u : World} (h : Gb u) : 3 < u.heap.size := World.block_lt_of_cell? u _ (h.iv 0 (.int .u32 1779033703) rfl)
set_option maxRecDepth 8000 in
theorem Gb.sglt {u : World} (h : Gb u) : 4 < u.heap.size := World.block_lt_of_cell? u _ (h.sg 0 (nb8 0) rfl)
set_option maxRecDepth 8000 in
theorem Gb.extb {u u' : World} {b : Nat} (h : Gb u) (hb : ExtB b u u') (_h0 : 3 < b) (_h1 : 4 < b) : Gb u' := ⟨fun j v hv => hb.cell (by omega) (h.iv j v hv), fun j v hv => hb.cell (by omega) (h.sg j v hv)⟩
set_option maxRecDepth 8000 in
theorem Gb.set {u : World} (h : Gb u) (b i : Nat) (h0 : 3 < b) (h1 : 4 < b) (v : Value) : Gb (u.setCell ⟨b, i, none⟩ v) := h.extb ((ExtB.refl b u).set i v) h0 h1
set_option maxRecDepth 8000 in
theorem st_cells {L : List Int} (h : Wn 8 L) : (List.map (Value.int .u32) L).length = 8 ∧ (∀ v ∈ (List.map (Value.int .u32) L), v.oneCell' = true) ∧ (Tryz.prog.info? 64).map (·.size) = some (List.map (Value.int .u32) L).length := by
 have e := h.map_len
 exact ⟨e, ints_oneCell _ _, by rw [e]; kernel_rfl⟩
set_option maxRecDepth 8000 in
theorem idx7 (L : List Int) (hL : Wn 8 L) (k : Nat) (hk : k < 8) (w : World) : Sem.run Tryz.prog (Instr.index 64 (.agg (List.map (Value.int .u32) L).toArray) (.int .i64 (k : Int))) w = .ok (.int .u32 L[k]!) w := by
 have h2 : k < L.length := by rw [hL.len]; exact hk
 simp [Instr.index, run_underlying Tryz.underlying64, asIntOf, go_sem, hk, List.getElem?_eq_getElem h2]
structure Ms (w : World) (q6 b7 : Nat) (h L : List Int) (u : World) : Prop where
 st : Ar u w.heap.size 8 (List.map (Value.int .u32) h)
 v : Ar u b7 16 (List.map (Value.int .u32) L)
 res : u.there q6 0 16
 gb : Gb u
 bel : Below w.heap.size w u
set_option maxRecDepth 8000 in
theorem Ms.set {w : World} {q6 b7 : Nat} {h L : List Int} {u : World} (m : Ms w q6 b7 h L u) (h0 : w.heap.size < b7) (_h1 : 3 < w.heap.size) (_h2 : 4 < w.heap.size) (i : Nat) (hi : i < 16) (x : Int) : Ms w q6 b7 h (L.set i x) (u.setCell ⟨b7, i, none⟩ (.int .u32 x)) :=
 ⟨m.st.else _ _ (by omega) _, by rw [List.map_set]; exact m.v.set i hi _, there_set m.res _ _ _, m.gb.set _ _ (by omega) (by omega) _, m.bel.setCell (p := ⟨b7, i, none⟩) (by dsimp only; omega) _⟩
set_option maxRecDepth 8000 in
theorem Ms.drew {w : World} {q6 b7 : Nat} {h L : List Int} {u : World} (m : Ms w q6 b7 h L u) : Ms w q6 b7 h L u.drew := ⟨m.st.drew, m.v.drew, m.res, ⟨m.gb.iv, m.gb.sg⟩, m.bel.drew⟩
set_option maxRecDepth 8000 in
theorem not7 {x : Int} (h : W7 x) : bits .xor .u32 (if IntKind.u32.signed = true then -1 else IntKind.u32.max) x = 4294967295 - x := by
 have e : (if IntKind.u32.signed = true then (-1 : Int) else IntKind.u32.max) = ((4294967295 : Nat) : Int) := rfl
 obtain ⟨X, rfl⟩ := Int.eq_ofNat_of_zero_le h.1
 have h1 := h.2
 rw [e, u32_xor_nat _ X (by decide) (by omega)]
 have e2 := congrArg BitVec.toNat (BitVec.allOnes_xor (x := BitVec.ofNat 32 X))
 rw [BitVec.toNat_xor, BitVec.toNat_allOnes, BitVec.toNat_not, BitVec.toNat_ofNat, Nat.mod_eq_of_lt (by omega)] at e2
 have e3 : (4294967295 : Nat) ^^^ X = 4294967295 - X := e2
 rw [e3]
 omega
def z8w : List Int := [0, 0, 0, 0, 0, 0, 0, 0]
set_option maxRecDepth 8000 in
theorem z8w_w : Wn 8 z8w := zr_w 8
def vk7 (h : List Int) (k : Nat) : List Int := mk7 h z8w k ++ mk7 iv7 z8w k
set_option maxRecDepth 8000 in
theorem vk7_zero (h : List Int) : vk7 h 0 = List.replicate 16 0 := by unfold vk7; rw [mk7_zero, mk7_zero]; rfl
set_option maxRecDepth 8000 in
theorem vk7_all {h : List Int} (hh : Wn 8 h) : vk7 h 8 = va7 h := by
 unfold vk7 va7
 rw [mk7_all (by rw [hh.len]; decide) 8 hh.len.symm, mk7_all (by decide) 8 rfl]
set_option maxRecDepth 8000 in
theorem vk7_w {h : List Int} (hh : Wn 8 h) (k : Nat) : Wn 16 (vk7 h k) := app_w (mk7_w hh z8w_w k) (mk7_w iv7_w z8w_w k)
set_option maxRecDepth 8000 in
theorem vk7_step {h : List Int} (hh : Wn 8 h) (k : Nat) (hk : k < 8) {x y : Int} (hx : x = h[k]!) (hy : y = iv7[k]!) : ((vk7 h k).set k x).set (k + 8) y = vk7 h (k + 1) := by
 unfold vk7
 have l1 : (mk7 h z8w k).length = 8 := mk7_len hh.len rfl k
 have l2 : (mk7 h z8w (k + 1)).length = 8 := mk7_len hh.len rfl _
 rw [List.set_append_left _ _ (by omega), mk7_set (by rw [hh.len]; exact hk) (by exact hk) hx, List.set_append_right _ _ (by omega), l2, Nat.add_sub_cancel, mk7_set (by exact hk) (by exact hk) hy]

set_option maxRecDepth 8000 in
set_option maxHeartbeats 4000000 in
theorem start7_c (h : List Int) (t : Int) (last : Bool) (hh : Wn 8 h) (ht : 0 ≤ t ∧ t < 18446744073709551616) (w : World) (hg : Gb w) :
  Calls Tryz.prog 66 #[(.agg (List.map (Value.int .u32) h).toArray), .int .u64 t, .bool last] w fun e w' => ∃ L', e = .returned (.agg (List.map (Value.int .u32) L').toArray) ∧ Hid (L' = vs7 h t last) ∧ Wn 16 L' ∧ Below w.heap.size w w' := by
 have HW : Hid (Wn 8 h) := hh
 have g0 := hg.ivlt
 have g1 := hg.sglt
 obtain ⟨t0, t1⟩ := ht
 clear hh
 obtain ⟨_, _, hi8⟩ := st_cells HW.out
 go_enter Tryz.func66, Tryz.ntmps66
 go_upto_region 2 with fail
 obtain ⟨W0, hW0⟩ : ∃ W, W = ((w.alloc (.cells (List.map (Value.int .u32) h).toArray 64)).alloc (.cells zw16 102)).alloc (.cells zw16 102) := ⟨_, rfl⟩
 obtain ⟨q6, hq6⟩ : ∃ q, q = w.heap.size + 1 := ⟨_, rfl⟩
 obtain ⟨b7, hb7⟩ : ∃ q, q = w.heap.size + 1 + 1 := ⟨_, rfl⟩
 rw [← hb7, ← hq6, ← hW0]
 have HM : Hid (Ms w q6 b7 h (vk7 h 0) W0) := by
  unfold Hid
  rw [hW0, hq6, hb7, vk7_zero]
  refine ⟨(ar_box w _ 8 HW.out.map_len _).later (bel2 _ _ _), ?_, ?_, hg.later (bel3 _ _ _ _), bel3 _ _ _ _⟩
  ·have := ar_box ((w.alloc (.cells (List.map (Value.int .u32) h).toArray 64)).alloc (.cells zw16 102)) (List.map (Value.int .u32) (List.replicate 16 0)) 16 rfl 102; simpa using this
  ·have := there_later (bel1 _ (.cells zw16 102)) (there_new (w.alloc (.cells (List.map (Value.int .u32) h).toArray 64)) 16 zw16 rfl 102); simpa using this
 have k1 : w.heap.size < q6 := by omega
 have k2 : q6 < b7 := by omega
 clear hW0 hq6 hb7 hg
 go_wp2_with (refine wpList_load_mid rfl 64 (.tmp 3) rfl w.heap.size 0 rfl (List.map (Value.int .u32) h) _ HM.out.st.rng Tryz.underlying64 rfl hi8 ?_)
 clear hi8
 go_loopw [11] (fun i wr => ∃ k : Nat, k ≤ 8 ∧ i = .int .i64 k ∧ Hid (Ms w q6 b7 h (vk7 h k) wr)) (fun i _ => 8 - (intOf i).toNat)
 case atStart => exact ⟨0, by decide, rfl, HM⟩
 case round =>
  clear HM
  obtain ⟨k, hk, rfl, HM⟩ := hrel
  by_cases hlt : k < 8
  ·have c1 : (k : Int) < 8 := by omega
   have hix := idx7 h HW.out k hlt
   obtain ⟨x, HX⟩ : ∃ x, Hid (x = h[k]!) := ⟨_, rfl⟩
   rw [← HX.out] at hix
   have cg := HM.out.gb.ivAt k hlt
   obtain ⟨y, HY⟩ : ∃ y, Hid (y = iv7[k]!) := ⟨_, rfl⟩
   rw [← HY.out] at cg
   have xg : ∀ u, ExtB b7 wr u → u.cell? ⟨3, k, none⟩ = some (.int .u32 y) := fun u hu => hu.cell (by omega) cg
   have hw8 : IntKind.i64.wrap ((k : Int) + 8) = (k : Int) + 8 := by rw [IntKind.wrap_i64]; omega
   have hn8 : ((k : Int) + 8).toNat = k + 8 := by omega
   have c2 : (k : Int) < 16 := by omega
   have c3 : (k : Int) + 8 < 16 := by omega
   have c4 : 0 ≤ (k : Int) + 8 := by omega
   obtain ⟨v0, cv0, fv0, -, -⟩ := wn_word HM.out.v (vk7_w HW.out k) k (by omega)
   obtain ⟨v1, cv1, fv1, -, -⟩ := wn_word HM.out.v (vk7_w HW.out k) (k + 8) (by omega)
   go_upto_region 5 with fail
   refine wp_region_noPanic ?_
   refine wp_region_held_drew (S := ExtB b7 wr) (by kernel_rfl) (ExtB.refl _ _).drew (fun hH => ?_)
   change wpAnyH _ _ _ _ _ _ #[false, false, false, false, false, false, false, false, false, false, false] _ _
   refine tk 0 ?_
   try simp only [Act.put, List.setIfInBounds_toArray, List.set_cons_zero, List.set_cons_succ]
   refine tk 1 ?_
   try simp only [Act.put, List.setIfInBounds_toArray, List.set_cons_zero, List.set_cons_succ]
   refine tk 2 ?_
   try simp only [Act.put, List.setIfInBounds_toArray, List.set_cons_zero, List.set_cons_succ]
   refine tk 3 ?_
   try simp only [Act.put, List.setIfInBounds_toArray, List.set_cons_zero, List.set_cons_succ]
   refine tk 4 ?_
   try simp only [Act.put, List.setIfInBounds_toArray, List.set_cons_zero, List.set_cons_succ]
   refine tk 5 ?_
   try simp only [Act.put, List.setIfInBounds_toArray, List.set_cons_zero, List.set_cons_succ]
   refine tk 6 ?_ (hy := by (intro u hu; (have hx := xg u hu; go_simp) <;> with_reducible rfl))
   try simp only [Act.put, List.setIfInBounds_toArray, List.set_cons_zero, List.set_cons_succ]
   refine tk 7 ?_
   try simp only [Act.put, List.setIfInBounds_toArray, List.set_cons_zero, List.set_cons_succ]
   clear xg hix cg
   refine rdy 8 (fun K hK => ?_)
   go_simp
   refine hK.out _ _ (hH.set k _) (fun hH' => ?_)
   clear hK K hH; have hH := hH'; clear hH'; try simp only [List.setIfInBounds_toArray, List.set]
   refine tk 9 ?_
   try simp only [Act.put, List.setIfInBounds_toArray, List.set_cons_zero, List.set_cons_succ]
   refine rdy 10 (fun K hK => ?_)
   go_simp
   refine hK.out _ _ (hH.set (k + 8) _) (fun hH' => ?_)
   clear hK K hH; have hH := hH'; clear hH'; try simp only [List.setIfInBounds_toArray, List.set]
   refine wpAnyH_done (by kernel_rfl) ?_ _
   refine NoPanic.normal ?_
   go_wp2
   go_roundw
   case rel => exact ⟨k + 1, by omega, by go_num, by
    have := (HM.out.drew.set (by omega) g0 g1 k (by omega) x).set (by omega) g0 g1 (k + 8) (by omega) y
    rw [vk7_step HW.out k hlt HX.out HY.out] at this
    exact this⟩
   case measure => simp [intOf]; omega
  ·have e : k = 8 := by omega
   subst e
   rw [vk7_all HW.out] at HM
   clear hlt hk
   obtain ⟨x12, c12, f12, r12, H12⟩ := wn_word HM.out.v (va7_w HW.out) 12 (by decide)
   have hwt : IntKind.u32.wrap t = t % 4294967296 := by rw [IntKind.wrap_u32']
   go_upto_region 8 with fail
   obtain ⟨V1, hV1⟩ : ∃ V, V = wr.setCell ⟨b7, 12, none⟩ (.int .u32 (bits .xor .u32 x12 (t % 4294967296))) := ⟨_, rfl⟩
   rw [← hV1]
   replace HM : Hid (Ms w q6 b7 h (vb7 h t) V1) := by
    unfold Hid
    rw [hV1, vb7, ← H12.out]
    exact HM.out.set (by omega) g0 g1 12 (by decide) _
   clear hV1 c12 f12 r12 H12 hwt
   obtain ⟨x13, c13, f13, r13, H13⟩ := wn_word HM.out.v (vb7_w HW.out t) 13 (by decide)
   have hwt : IntKind.u32.wrap (t / 4294967296) = t / 4294967296 % 4294967296 := by rw [IntKind.wrap_u32']
   go_upto_region 9 with fail
   obtain ⟨V2, hV2⟩ : ∃ V, V = V1.setCell ⟨b7, 13, none⟩ (.int .u32 (bits .xor .u32 x13 (t / 4294967296 % 4294967296))) := ⟨_, rfl⟩
   rw [← hV2]
   replace HM : Hid (Ms w q6 b7 h (vc7 h t) V2) := by
    unfold Hid
    rw [hV2, vc7, ← H13.out]
    exact HM.out.set (by omega) g0 g1 13 (by decide) _
   clear hV2 c13 f13 r13 H13 hwt
   cases last
   case false =>
    obtain ⟨S, HS⟩ : ∃ L, Hid (L = vs7 h t false) := ⟨_, rfl⟩
    have HSW : Hid (Wn 16 S) := by unfold Hid; rw [HS.out]; exact vs7_w HW.out t _
    rw [← vs7_not, ← HS.out] at HM
    obtain ⟨hlen, hone, hi⟩ := ws_cells HSW.out
    obtain ⟨cs, hcs⟩ : ∃ cs, cs = (List.map (Value.int .u32) S) := ⟨_, rfl⟩
    have HC : Hid (cs = (List.map (Value.int .u32) S)) := hcs
    rw [← hcs] at hlen hone hi
    clear hcs
    have hrg : V2.rangeAt b7 0 cs := by rw [HC.out]; exact HM.out.v.rng
    have hth := HM.out.res
    go_wp2_with (first
     | (refine wpList_load_mid rfl 102 (.tmp 7) rfl b7 0 rfl cs _ hrg Tryz.underlying102 rfl hi ?_)
     | (refine wpList_store_mid rfl 102 (.tmp 6) (.tmp 43) rfl q6 0 cs.toArray rfl rfl (by simpa [hlen] using hth) (by simpa using hi) (all_oneCell_toArray hone) ?_))
    have HR2 : Hid ((V2.setCells q6 0 cs).rangeAt q6 0 cs) := World.rangeAt_setCells_same _ _ _ _ (by rw [hlen]; exact hth)
    have hld := run_loadVar_mid (P := Tryz.prog) _ _ 0 102 _ _ HR2.out Tryz.underlying102 rfl hi
    exact bodyPost_ret (v := .agg cs.toArray) (by simp [results, Tryz.results66]; exact hld) rfl ⟨S, by rw [HC.out], HS, HSW.out, below_setCells _ (by omega) _ _ _ HM.out.bel⟩
   case true =>
    obtain ⟨x14, c14, f14, r14, H14⟩ := wn_word HM.out.v (vc7_w HW.out t) 14 (by decide)
    obtain ⟨n0, n1⟩ := r14
    have hnt := not7 ⟨n0, n1⟩
    go_upto_region 11 with fail
    try rw [hnt]
    clear hnt
    obtain ⟨V3, hV3⟩ : ∃ V, V = V2.setCell ⟨b7, 14, none⟩ (.int .u32 (4294967295 - x14)) := ⟨_, rfl⟩
    rw [← hV3]
    replace HM : Hid (Ms w q6 b7 h (vd7 h t) V3) := by
     unfold Hid
     rw [hV3, vd7, ← H14.out]
     exact HM.out.set (by omega) g0 g1 14 (by decide) _
    clear hV3 c14 f14 H14 n0 n1
    obtain ⟨S, HS⟩ : ∃ L, Hid (L = vs7 h t true) := ⟨_, rfl⟩
    have HSW : Hid (Wn 16 S) := by unfold Hid; rw [HS.out]; exact vs7_w HW.out t _
    rw [← vs7_last, ← HS.out] at HM
    obtain ⟨hlen, hone, hi⟩ := ws_cells HSW.out
    obtain ⟨cs, hcs⟩ : ∃ cs, cs = (List.map (Value.int .u32) S) := ⟨_, rfl⟩
    have HC : Hid (cs = (List.map (Value.int .u32) S)) := hcs
    rw [← hcs] at hlen hone hi
    clear hcs
    have hrg : V3.rangeAt b7 0 cs := by rw [HC.out]; exact HM.out.v.rng
    have hth := HM.out.res
    go_wp2_with (first
     | (refine wpList_load_mid rfl 102 (.tmp 7) rfl b7 0 rfl cs _ hrg Tryz.underlying102 rfl hi ?_)
     | (refine wpList_store_mid rfl 102 (.tmp 6) (.tmp 43) rfl q6 0 cs.toArray rfl rfl (by simpa [hlen] using hth) (by simpa using hi) (all_oneCell_toArray hone) ?_))
    have HR2 : Hid ((V3.setCells q6 0 cs).rangeAt q6 0 cs) := World.rangeAt_setCells_same _ _ _ _ (by rw [hlen]; exact hth)
    have hld := run_loadVar_mid (P := Tryz.prog) _ _ 0 102 _ _ HR2.out Tryz.underlying102 rfl hi
    exact bodyPost_ret (v := .agg cs.toArray) (by simp [results, Tryz.results66]; exact hld) rfl ⟨S, by rw [HC.out], HS, HSW.out, below_setCells _ (by omega) _ _ _ HM.out.bel⟩

structure Mr7 (w : World) (q2 b3 : Nat) (bl L : List Int) (u : World) : Prop where
 blk : Ar u w.heap.size 64 (List.map (Value.int .u8) bl)
 m : Ar u b3 16 (List.map (Value.int .u32) L)
 res : u.there q2 0 16
 bel : Below w.heap.size w u
set_option maxRecDepth 8000 in
theorem Mr7.set {w : World} {q2 b3 : Nat} {bl L : List Int} {u : World} (m : Mr7 w q2 b3 bl L u) (h0 : w.heap.size < b3) (i : Nat) (hi : i < 16) (x : Int) : Mr7 w q2 b3 bl (L.set i x) (u.setCell ⟨b3, i, none⟩ (.int .u32 x)) :=
 ⟨m.blk.else _ _ (by omega) _, by rw [List.map_set]; exact m.m.set i hi _, there_set m.res _ _ _, m.bel.setCell (p := ⟨b3, i, none⟩) (by dsimp only; omega) _⟩
def z16w : List Int := [0, 0, 0, 0, 0, 0, 0, 0, 0, 0, 0, 0, 0, 0, 0, 0]
set_option maxRecDepth 8000 in
theorem z16w_w : Wn 16 z16w := zr_w 16
set_option maxRecDepth 8000 in
theorem got4_cut (l : List Int) (n : Nat) (h : 4 ≤ n) (hl : 4 ≤ l.length) : got 4 (l.take n) = leN (l.take 4) := by
 unfold got
 rw [if_pos (by rw [List.length_take]; omega), List.take_take, Nat.min_eq_left h]

set_option maxRecDepth 8000 in
set_option maxHeartbeats 4000000 in
theorem read7_c (bl : List Int) (hb : Bn 64 bl) (w : World) :
  Calls Tryz.prog 67 #[(.agg (List.map (Value.int .u8) bl).toArray)] w fun e w' => ∃ L', e = .returned (.agg (List.map (Value.int .u32) L').toArray) ∧ Hid (L' = wd7 bl 16) ∧ Wn 16 L' ∧ Below w.heap.size w w' := by
 have HN : Hid (Bn 64 bl) := hb
 have HWD : Hid (Wn 16 (wd7 bl 16)) := wd7_w hb.byt 16
 clear hb
 go_enter Tryz.func67, Tryz.ntmps67
 go_upto_region 2 with fail
 obtain ⟨W0, hW0⟩ : ∃ W, W = ((w.alloc (.cells (List.map (Value.int .u8) bl).toArray 90)).alloc (.cells zw16 102)).alloc (.cells zw16 102) := ⟨_, rfl⟩
 obtain ⟨q2, hq2⟩ : ∃ q, q = w.heap.size + 1 := ⟨_, rfl⟩
 obtain ⟨b3, hb3⟩ : ∃ q, q = w.heap.size + 1 + 1 := ⟨_, rfl⟩
 rw [← hb3, ← hq2, ← hW0]
 have HM : Hid (Mr7 w q2 b3 bl (mk7 (wd7 bl 16) z16w 0) W0) := by
  unfold Hid
  rw [hW0, hq2, hb3, mk7_zero, show z16w = List.replicate 16 0 from rfl]
  refine ⟨(ar_box w _ 64 HN.out.map_len _).later (bel2 _ _ _), ?_, ?_, bel3 _ _ _ _⟩
  ·have := ar_box ((w.alloc (.cells (List.map (Value.int .u8) bl).toArray 90)).alloc (.cells zw16 102)) (List.map (Value.int .u32) (List.replicate 16 0)) 16 rfl 102; simpa using this
  ·have := there_later (bel1 _ (.cells zw16 102)) (there_new (w.alloc (.cells (List.map (Value.int .u8) bl).toArray 90)) 16 zw16 rfl 102); simpa using this
 have k1 : w.heap.size < q2 := by omega
 have k2 : q2 < b3 := by omega
 clear hW0 hq2 hb3
 go_wp2
 go_loopw [5] (fun i wr => ∃ k : Nat, k ≤ 16 ∧ i = .int .i64 k ∧ Hid (Mr7 w q2 b3 bl (mk7 (wd7 bl 16) z16w k) wr)) (fun i _ => 16 - (intOf i).toNat)
 case atStart => exact ⟨0, by decide, rfl, HM⟩
 case round =>
  clear HM
  obtain ⟨k, hk, rfl, HM⟩ := hrel
  by_cases hlt : k < 16
  ·have c1 : (k : Int) < 16 := by omega
   have g2 : 4 * (k : Int) ≤ 64 := by omega
   have g4 : 0 ≤ 4 * (k : Int) := by omega
   have hw4 : IntKind.i64.wrap (4 * (k : Int)) = 4 * k := by rw [IntKind.wrap_i64]; omega
   have t1 : (4 * (k : Int)).toNat = 4 * k := by omega
   have t4 : ¬ 64 = 4 * k := by omega
   have hR : Rd wr (some ⟨w.heap.size, 4 * k, none⟩) (64 - 4 * k) (64 - 4 * k) ((bl.drop (4 * k)).take (64 - 4 * k)) := HM.out.blk.rd HN.out.byt (4 * k) (64 - 4 * k) (64 - 4 * k) (by omega) (by omega)
   have HR : Hid _ := hR
   clear hR
   obtain ⟨v0, cv0, fv0, -, -⟩ := wn_word HM.out.m (mk7_w HWD.out z16w_w k) k hlt
   go_wp2_with fail
   refine (get32_any _ _ _ _ _ HR.out (by omega)).mono ?_
   rintro e V ⟨rfl, hV⟩
   rw [hV, got4_cut _ _ (by omega) (by rw [List.length_drop, HN.out.len]; omega), ← wd7_at bl 16 k hlt]
   clear hV V HR
   obtain ⟨x, HX⟩ : ∃ x, Hid (x = (wd7 bl 16)[k]!) := ⟨_, rfl⟩
   rw [← HX.out]
   have hx : W7 x := by rw [HX.out]; exact getW7 HWD.out.wd k
   obtain ⟨x0, x1⟩ := hx
   go_wp2
   go_roundw
   case rel => exact ⟨k + 1, by omega, by go_num, by
    have := HM.out.set (by omega) k hlt x
    rw [mk7_set (by rw [HWD.out.len]; exact hlt) (by exact hlt) HX.out] at this
    exact this⟩
   case measure => simp [intOf]; omega
  ·have e : k = 16 := by omega
   subst e
   rw [mk7_all (by rw [HWD.out.len]; decide) 16 HWD.out.len.symm] at HM
   clear hlt hk
   obtain ⟨S, HS⟩ : ∃ L, Hid (L = wd7 bl 16) := ⟨_, rfl⟩
   rw [← HS.out] at HM HWD
   obtain ⟨hlen, hone, hi⟩ := ws_cells HWD.out
   obtain ⟨cs, hcs⟩ : ∃ cs, cs = (List.map (Value.int .u32) S) := ⟨_, rfl⟩
   have HC : Hid (cs = (List.map (Value.int .u32) S)) := hcs
   rw [← hcs] at hlen hone hi
   clear hcs
   have hrg : wr.rangeAt b3 0 cs := by rw [HC.out]; exact HM.out.m.rng
   have hth := HM.out.res
   go_wp2_with (first
    | (refine wpList_load_mid rfl 102 (.tmp 3) rfl b3 0 rfl cs _ hrg Tryz.underlying102 rfl hi ?_)
    | (refine wpList_store_mid rfl 102 (.tmp 2) (.tmp 18) rfl q2 0 cs.toArray rfl rfl (by simpa [hlen] using hth) (by simpa using hi) (all_oneCell_toArray hone) ?_))
   have HR2 : Hid ((wr.setCells q2 0 cs).rangeAt q2 0 cs) := World.rangeAt_setCells_same _ _ _ _ (by rw [hlen]; exact hth)
   have hld := run_loadVar_mid (P := Tryz.prog) _ _ 0 102 _ _ HR2.out Tryz.underlying102 rfl hi
   exact bodyPost_ret (v := .agg cs.toArray) (by simp [results, Tryz.results67]; exact hld) rfl ⟨S, by rw [HC.out], HS, HWD.out, below_setCells _ (by omega) _ _ _ HM.out.bel⟩
end Go.Proofs.YtmibjgkakolhiaaGreatDoor
/-
 What the conditions on blake's package variables give a walk, and a world that meets them. No statement of the seat is proved here.
-/
namespace Go.Proofs.YtmibjgkakolhiaaGreatDoor
open Go.ChangeShapes Go.WideShapes Go.ChangeAt Go.RowKit

set_option maxRecDepth 8000 in
/-- A variable that is an array of numbers. -/
theorem vector_of {W : World} {name : String} {g : Nat} {t e : TypeId} {n fuel : Nat} {k : IntKind} {cs : Array Value} {p : List MemPlace} (l : List Int) (hl : l.length = n)
  (hg : Tryz.prog.globalNamed name = some g) (hvar : W.var? Tryz.prog name = some cs) (hu : Tryz.prog.underlying t = some (.array n e)) (he : Tryz.prog.underlying e = some (.int k)) (hc1 : Tryz.prog.cellsOf e = 1)
  (hd : DataW.trod (fun _ => ()) Tryz.prog W 0 (fun _ => true) false fuel t cs.toList = some (.agg (l.map fun x => .lit (.int k x)), p)) : W.rangeAt g 0 (l.map (Value.int k)) := by
 obtain ⟨xs, m, _, hx, hlen, hxl, hall⟩ := DataW.trod_array hu hd
 have hx1 : (DataW.agg (l.map fun x => (.lit (.int k x) : DataW Unit))) = .agg (xs.map (·.1)) := congrArg Prod.fst hx
 have hx2 := DataW.agg.inj hx1
 intro j v hv
 rw [Nat.zero_add, World.var?_cell hg hvar j]
 have hj : j < n := by
  have := (List.getElem?_eq_some_iff.1 hv).1
  rw [List.length_map, hl] at this
  exact this
 have hc := hall j hj
 rw [List.getElem?_eq_getElem (by omega), hc1, Nat.mul_one] at hc
 obtain ⟨y, h1, h2, _⟩ := DataW.trod_int he hc
 have h3 : ((cs.toList.drop j).take 1)[0]? = some (.int k y) := by rw [h1]; rfl
 rw [List.getElem?_take_of_lt (by decide), List.getElem?_drop, Nat.add_zero, Array.getElem?_toList] at h3
 have h4 : (xs.map (·.1))[j]? = some (.lit (.int k y)) := by rw [List.getElem?_map, List.getElem?_eq_getElem (by omega), h2]; rfl
 rw [← hx2, List.getElem?_map] at h4
 rw [List.getElem?_map] at hv
 rw [h3]
 cases e : l[j]? with
 | none => rw [e] at hv; cases hv
 | some z =>
  rw [e] at hv h4
  simp only [Option.map_some, Option.some.injEq] at hv h4
  injection h4 with h5
  injection h5 with _ h6
  rw [← hv, h6]
set_option maxRecDepth 8000 in
theorem flat_get (m : Nat) : ∀ (rows : List (List Int)), (∀ r ∈ rows, r.length = m) → ∀ (i r : Nat), i < rows.length → r < m → rows.flatten[m * i + r]? = (rows[i]?.getD [])[r]?
 | [], _, _, _, h, _ => absurd h (Nat.not_lt_zero _)
 | x :: rows, hm, 0, r, _, hr => by
  rw [List.flatten_cons, Nat.mul_zero, Nat.zero_add, List.getElem?_append_left (by rw [hm x (by simp)]; exact hr)]
  rfl
 | x :: rows, hm, i + 1, r, hi, hr => by
  have hx := hm x (by simp)
  rw [List.flatten_cons, List.getElem?_append_right (by rw [hx, Nat.mul_succ]; omega), hx, show m * (i + 1) + r - m = m * i + r by rw [Nat.mul_succ]; omega, flat_get m rows (fun y hy => hm y (by simp [hy])) i r (by simpa using hi) hr]
  rfl
set_option maxRecDepth 8000 in
/-- A variable that is an array of arrays of numbers. -/
theorem matrix_of {W : World} {name : String} {g : Nat} {t e i : TypeId} {n m fuel : Nat} {k : IntKind} {cs : Array Value} {p : List MemPlace} (rows : List (List Int)) (hl : rows.length = n) (hm : ∀ r ∈ rows, r.length = m) (h0 : 0 < m)
  (hg : Tryz.prog.globalNamed name = some g) (hvar : W.var? Tryz.prog name = some cs) (hu : Tryz.prog.underlying t = some (.array n e)) (hu2 : Tryz.prog.underlying e = some (.array m i)) (hi : Tryz.prog.underlying i = some (.int k)) (hc1 : Tryz.prog.cellsOf i = 1) (hcm : Tryz.prog.cellsOf e = m)
  (hd : DataW.trod (fun _ => ()) Tryz.prog W 0 (fun _ => true) false fuel t cs.toList = some (.agg (rows.map fun r => .agg (r.map fun x => .lit (.int k x))), p)) : W.rangeAt g 0 (rows.flatten.map (Value.int k)) := by
 obtain ⟨xs, _, _, hx, hlen, hxl, hall⟩ := DataW.trod_array hu hd
 have hx1 : (DataW.agg (rows.map fun r => (.agg (r.map fun x => .lit (.int k x)) : DataW Unit))) = .agg (xs.map (·.1)) := congrArg Prod.fst hx
 have hx2 := DataW.agg.inj hx1
 have hfl : rows.flatten.length = n * m := by
  have : ∀ (l : List (List Int)), (∀ r ∈ l, r.length = m) → l.flatten.length = l.length * m := fun l => by
   induction l with
   | nil => intro _; simp
   | cons x l ih => intro h; rw [List.flatten_cons, List.length_append, h x (by simp), ih (fun y hy => h y (by simp [hy])), List.length_cons, Nat.succ_mul, Nat.add_comm]
  rw [this rows hm, hl]
 intro j v hv
 rw [Nat.zero_add, World.var?_cell hg hvar j]
 have hj : j < n * m := by
  have := (List.getElem?_eq_some_iff.1 hv).1
  rw [List.length_map, hfl] at this
  exact this
 have hjn : j / m < n := (Nat.div_lt_iff_lt_mul h0).2 hj
 have hjm : j % m < m := Nat.mod_lt _ h0
 have hdm : m * (j / m) + j % m = j := Nat.div_add_mod j m
 have hc := hall (j / m) hjn
 rw [List.getElem?_eq_getElem (by omega), hcm] at hc
 obtain ⟨ys, _, _, hy, _, hyl, hall2⟩ := DataW.trod_array hu2 hc
 have hc2 := hall2 (j % m) hjm
 rw [List.getElem?_eq_getElem (by omega), hc1, Nat.mul_one] at hc2
 obtain ⟨y, h1, h2, _⟩ := DataW.trod_int hi hc2
 have h3 : ((((cs.toList.drop (j / m * m)).take m).drop (j % m)).take 1)[0]? = some (.int k y) := by rw [h1]; rfl
 rw [List.getElem?_take_of_lt (by decide), List.getElem?_drop, Nat.add_zero, List.getElem?_take_of_lt hjm, List.getElem?_drop, Array.getElem?_toList, Nat.mul_comm (j / m) m, hdm] at h3
 have e1 : (rows[j / m]?.map fun r => (.agg (r.map fun x => .lit (.int k x)) : DataW Unit)) = some (xs[j / m]'(by omega)).1 := by
  rw [← List.getElem?_map, hx2, List.getElem?_map, List.getElem?_eq_getElem (by omega)]
  rfl
 have hr : j / m < rows.length := by omega
 rw [List.getElem?_eq_getElem hr, hy] at e1
 have e2 := DataW.agg.inj (Option.some.inj e1)
 have e3 : (rows[j / m]'hr)[j % m]? = some y := by
  have e4 : ((rows[j / m]'hr).map fun x => (.lit (.int k x) : DataW Unit))[j % m]? = some (.lit (.int k y)) := by
   rw [e2, List.getElem?_map, List.getElem?_eq_getElem (by omega), h2]
   rfl
  rw [List.getElem?_map] at e4
  cases e : (rows[j / m]'hr)[j % m]? with
  | none => rw [e] at e4; cases e4
  | some z =>
   rw [e] at e4
   simp only [Option.map_some, Option.some.injEq] at e4
   injection e4 with h5
   injection h5 with _ h6
   rw [h6]
 have e5 := flat_get m rows hm (j / m) (j % m) hr hjm
 rw [hdm, List.getElem?_eq_getElem hr, Option.getD_some, e3] at e5
 rw [List.getElem?_map, e5] at hv
 rw [h3]
 exact hv
set_option maxRecDepth 8000 in
theorem cells4' : Tryz.prog.cellsOf 63 = 1 := by kernel_rfl
set_option maxRecDepth 8000 in
theorem cells16' : Tryz.prog.cellsOf 99 = 16 := by kernel_rfl
def sgI : List (List Int) := sg7.map (List.map Int.ofNat)
set_option maxRecDepth 8000 in
theorem gIv : Tryz.prog.globalNamed "porthole/blake.iv" = some 3 := by kernel_rfl
set_option maxRecDepth 8000 in
theorem gIvType : (Tryz.prog.globals[3]?).map (·.type) = some 64 := by kernel_rfl
set_option maxRecDepth 8000 in
theorem gSg : Tryz.prog.globalNamed "porthole/blake.sigma" = some 4 := by kernel_rfl
set_option maxRecDepth 8000 in
theorem gSgType : (Tryz.prog.globals[4]?).map (·.type) = some 105 := by kernel_rfl
set_option maxRecDepth 8000 in
theorem sgI_map : sgI.flatten.map (Value.int .u8) = List.map nb8 sg7.flatten := by kernel_rfl
set_option maxRecDepth 100000 in
theorem gb_of_vars {W : World} {r : List (String × DataW Unit)} {ps : List MemPlace} (h : DataW.LaidVars Tryz.prog W (("porthole/blake.iv", Rows.laid_porthole_blake_iv) :: ("porthole/blake.sigma", Rows.laid_porthole_blake_sigma) :: r) ps) : Gb W ∧ ∃ ps', DataW.LaidVars Tryz.prog W r ps' := by
 obtain ⟨g, t, cs, fuel, p, q, hg, ht, hvar, hd, ⟨g2, t2, cs2, fuel2, p2, q2, hg2, ht2, hvar2, hd2, hr, _⟩, _⟩ := h
 obtain rfl := Option.some.inj (gIv.symm.trans hg)
 obtain rfl := Option.some.inj (gIvType.symm.trans ht)
 obtain rfl := Option.some.inj (gSg.symm.trans hg2)
 obtain rfl := Option.some.inj (gSgType.symm.trans ht2)
 refine ⟨⟨vector_of (k := .u32) iv7 rfl gIv hvar Tryz.underlying64 Tryz.underlying63 cells4' hd, ?_⟩, _, hr⟩
 rw [← sgI_map]
 exact matrix_of (k := .u8) sgI rfl (by decide) (by decide) gSg hvar2 Tryz.underlying105 Tryz.underlying99 Tryz.underlying5 cells5 cells16' hd2
set_option maxRecDepth 8000 in
theorem gb_of_laid {W : World} (h : laidMetH Tryz.prog [("porthole/blake.iv", Rows.laid_porthole_blake_iv), ("porthole/blake.sigma", Rows.laid_porthole_blake_sigma)] W) : Gb W := by
 have h' : laidMet Tryz.prog [("porthole/blake.iv", Rows.laid_porthole_blake_iv), ("porthole/blake.sigma", Rows.laid_porthole_blake_sigma)] W := h
 obtain ⟨ps, hv, _⟩ := h'
 exact (gb_of_vars hv).1
/-- The variables' blocks, as the text lays them; a world with them meets the condition. -/
def laidIv : Obj → Obj
 | .cells _ t frozen => .cells (iv7.map (Value.int .u32)).toArray t frozen
 | o => o
def laidSg : Obj → Obj
 | .cells _ t frozen => .cells (sg7.flatten.map nb8).toArray t frozen
 | o => o
set_option maxRecDepth 8000 in
theorem laidWorldB_met (os : Os) (args : Array Value) : laidMetH Tryz.prog [("porthole/blake.iv", Rows.laid_porthole_blake_iv), ("porthole/blake.sigma", Rows.laid_porthole_blake_sigma)] (({ World.holding Tryz.prog os ⟨#[], #[], []⟩ with heap := ((World.holding Tryz.prog os ⟨#[], #[], []⟩).heap.modify 3 laidIv).modify 4 laidSg } : World).forCall (fun _ _ => 0) ⟨#[], args, []⟩).memory :=
 laidMetH_of_parts (laidMet_of_run' 8 (by kernel_rfl) (by kernel_rfl)) (by kernel_rfl)
end Go.Proofs.YtmibjgkakolhiaaGreatDoor
