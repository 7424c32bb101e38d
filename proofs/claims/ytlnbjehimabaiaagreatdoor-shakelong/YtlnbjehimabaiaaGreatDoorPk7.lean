/-
  Several texts of one's own, laid together. No statement of the seat is proved here.
-/
import Derived.Test.YtlnbjehimabaiaaGreatDoorPk1
import Derived.Test.YtlnbjehimabaiaaGreatDoorBMix
import Derived.Test.YtlnbjehimabaiaaGreatDoorPk3
/-
 What blake's start and read do: the sixteen words that a block is mixed into, and the block's own. No statement of the seat is proved here.
-/
namespace Go.Proofs.YtlnbjehimabaiaaGreatDoor
open Go.RowKit
set_option maxRecDepth 8000

/-- The package's variables, as their text lays them. -/
structure Gb (w : World) : Prop where
 iv : w.rangeAt 5 0 (List.map (Value.int .u32) iv7)
 sg : w.rangeAt 6 0 (List.map nb8 sg7.flatten)
theorem Gb.later {u u' : World} (h : Gb u) (hb : Below u.heap.size u u') : Gb u' := ⟨range_later hb h.iv, range_later hb h.sg⟩
theorem Gb.ivAt {u : World} (h : Gb u) (k : Nat) (hk : k < 8) : u.cell? ⟨5, k, none⟩ = some (.int .u32 iv7[k]!) := by
 have hl : k < iv7.length := hk
 have := h.iv k (.int .u32 iv7[k]!) (by rw [List.getElem?_map, List.getElem?_eq_getElem hl, getElem!_pos iv7 k hl]; rfl)
 rwa [Nat.zero_add] at this
theorem Gb.ivlt {u : World} (h : Gb u) : 5 < u.heap.size := World.block_lt_of_cell? u _ (h.iv 0 (.int .u32 1779033703) rfl)
theorem Gb.sglt {u : World} (h : Gb u) : 6 < u.heap.size := World.block_lt_of_cell? u _ (h.sg 0 (nb8 0) rfl)
theorem Gb.extb {u u' : World} {b : Nat} (h : Gb u) (hb : ExtB b u u') (_h0 : 5 < b) (_h1 : 6 < b) : Gb u' := ⟨fun j v hv => hb.cell (by omega) (h.iv j v hv), fun j v hv => hb.cell (by omega) (h.sg j v hv)⟩
theorem Gb.set {u : World} (h : Gb u) (b i : Nat) (h0 : 5 < b) (h1 : 6 < b) (v : Value) : Gb (u.setCell ⟨b, i, none⟩ v) := h.extb ((ExtB.refl b u).set i v) h0 h1
theorem st_cells {L : List Int} (h : Wn 8 L) : (List.map (Value.int .u32) L).length = 8 ∧ (∀ v ∈ (List.map (Value.int .u32) L), v.oneCell' = true) ∧ (Tryz.prog.info? 138).map (·.size) = some (List.map (Value.int .u32) L).length := by
 have e := h.map_len
 exact ⟨e, ints_oneCell _ _, by rw [e]; kernel_rfl⟩
theorem idx7 (L : List Int) (hL : Wn 8 L) (k : Nat) (hk : k < 8) (w : World) : Sem.run Tryz.prog (Instr.index 138 (.agg (List.map (Value.int .u32) L).toArray) (.int .i64 (k : Int))) w = .ok (.int .u32 L[k]!) w := by
 have h2 : k < L.length := by rw [hL.len]; exact hk
 simp [Instr.index, run_underlying Tryz.underlying138, asIntOf, go_sem, hk, List.getElem?_eq_getElem h2]
structure Ms (w : World) (q6 b7 : Nat) (h L : List Int) (u : World) : Prop where
 st : Ar u w.heap.size 8 (List.map (Value.int .u32) h)
 v : Ar u b7 16 (List.map (Value.int .u32) L)
 res : u.there q6 0 16
 gb : Gb u
 bel : Below w.heap.size w u
theorem Ms.set {w : World} {q6 b7 : Nat} {h L : List Int} {u : World} (m : Ms w q6 b7 h L u) (h0 : w.heap.size < b7) (_h1 : 5 < w.heap.size) (_h2 : 6 < w.heap.size) (i : Nat) (hi : i < 16) (x : Int) : Ms w q6 b7 h (L.set i x) (u.setCell ⟨b7, i, none⟩ (.int .u32 x)) :=
 ⟨m.st.else _ _ (by omega) _, by rw [List.map_set]; exact m.v.set i hi _, there_set m.res _ _ _, m.gb.set _ _ (by omega) (by omega) _, m.bel.setCell (p := ⟨b7, i, none⟩) (by dsimp only; omega) _⟩
theorem Ms.drew {w : World} {q6 b7 : Nat} {h L : List Int} {u : World} (m : Ms w q6 b7 h L u) : Ms w q6 b7 h L u.drew := ⟨m.st.drew, m.v.drew, m.res, ⟨m.gb.iv, m.gb.sg⟩, m.bel.drew⟩
theorem not7 {x : Int} (h : W7 x) : bits .xor .u32 (if IntKind.u32.signed = true then -1 else IntKind.u32.max) x = 4294967295 - x := by
 have e : (if IntKind.u32.signed = true then (-1 : Int) else IntKind.u32.max) = ((4294967295 : Nat) : Int) := rfl
 obtain ⟨X, rfl⟩ := Int.eq_ofNat_of_zero_le h.1
 have h1 := h.2
 rw [e, u32_xor_nat _ X (by decide) (by omega)]
 have e2 := congrArg BitVec.toNat (BitVec.allOnes_xor (x := BitVec.ofNat 32 X))
 rw [BitVec.toNat_xor, BitVec.toNat_allOnes, BitVec.toNat_not, BitVec.toNat_ofNat, Nat.mod_eq_of_lt (by omega)] at e2
 have e3 : (4294967295 : Nat) ^^^ X = 4294967295 - X := e2
 rw [e3]
 omega
def z8w : List Int := [0, 0, 0, 0, 0, 0, 0, 0]
theorem z8w_w : Wn 8 z8w := zr_w 8
def vk7 (h : List Int) (k : Nat) : List Int := mk7 h z8w k ++ mk7 iv7 z8w k
theorem vk7_zero (h : List Int) : vk7 h 0 = List.replicate 16 0 := by unfold vk7; rw [mk7_zero, mk7_zero]; rfl
theorem vk7_all {h : List Int} (hh : Wn 8 h) : vk7 h 8 = va7 h := by
 unfold vk7 va7
 rw [mk7_all (by rw [hh.len]; decide) 8 hh.len.symm, mk7_all (by decide) 8 rfl]
theorem vk7_w {h : List Int} (hh : Wn 8 h) (k : Nat) : Wn 16 (vk7 h k) := app_w (mk7_w hh z8w_w k) (mk7_w iv7_w z8w_w k)
theorem vk7_step {h : List Int} (hh : Wn 8 h) (k : Nat) (hk : k < 8) {x y : Int} (hx : x = h[k]!) (hy : y = iv7[k]!) : ((vk7 h k).set k x).set (k + 8) y = vk7 h (k + 1) := by
 unfold vk7
 have l1 : (mk7 h z8w k).length = 8 := mk7_len hh.len rfl k
 have l2 : (mk7 h z8w (k + 1)).length = 8 := mk7_len hh.len rfl _
 rw [List.set_append_left _ _ (by omega), mk7_set (by rw [hh.len]; exact hk) (by exact hk) hx, List.set_append_right _ _ (by omega), l2, Nat.add_sub_cancel, mk7_set (by exact hk) (by exact hk) hy]

set_option maxHeartbeats 4000000 in
theorem start7_c (h : List Int) (t : Int) (last : Bool) (hh : Wn 8 h) (ht : 0 ≤ t ∧ t < 18446744073709551616) (w : World) (hg : Gb w) :
  Calls Tryz.prog 165 #[(.agg (List.map (Value.int .u32) h).toArray), .int .u64 t, .bool last] w fun e w' => ∃ L', e = .returned (.agg (List.map (Value.int .u32) L').toArray) ∧ Hid (L' = vs7 h t last) ∧ Wn 16 L' ∧ Below w.heap.size w w' := by
 have HW : Hid (Wn 8 h) := hh
 have g0 := hg.ivlt
 have g1 := hg.sglt
 obtain ⟨t0, t1⟩ := ht
 clear hh
 obtain ⟨_, _, hi8⟩ := st_cells HW.out
 go_enter Tryz.func165, Tryz.ntmps165
 go_upto_region 2 with fail
 obtain ⟨W0, hW0⟩ : ∃ W, W = ((w.alloc (.cells (List.map (Value.int .u32) h).toArray 138)).alloc (.cells zw16 199)).alloc (.cells zw16 199) := ⟨_, rfl⟩
 obtain ⟨q6, hq6⟩ : ∃ q, q = w.heap.size + 1 := ⟨_, rfl⟩
 obtain ⟨b7, hb7⟩ : ∃ q, q = w.heap.size + 1 + 1 := ⟨_, rfl⟩
 rw [← hb7, ← hq6, ← hW0]
 have HM : Hid (Ms w q6 b7 h (vk7 h 0) W0) := by
  unfold Hid
  rw [hW0, hq6, hb7, vk7_zero]
  refine ⟨(ar_box w _ 8 HW.out.map_len _).later (bel2 _ _ _), ?_, ?_, hg.later (bel3 _ _ _ _), bel3 _ _ _ _⟩
  ·have := ar_box ((w.alloc (.cells (List.map (Value.int .u32) h).toArray 138)).alloc (.cells zw16 199)) (List.map (Value.int .u32) (List.replicate 16 0)) 16 rfl 199; simpa using this
  ·have := there_later (bel1 _ (.cells zw16 199)) (there_new (w.alloc (.cells (List.map (Value.int .u32) h).toArray 138)) 16 zw16 rfl 199); simpa using this
 have k1 : w.heap.size < q6 := by omega
 have k2 : q6 < b7 := by omega
 clear hW0 hq6 hb7 hg
 go_wp2_with (refine wpList_load_mid rfl 138 (.tmp 3) rfl w.heap.size 0 rfl (List.map (Value.int .u32) h) _ HM.out.st.rng Tryz.underlying138 rfl hi8 ?_)
 clear hi8
 go_loopw [11] (fun i wr => ∃ k : Nat, k ≤ 8 ∧ i = .int .i64 k ∧ Hid (Ms w q6 b7 h (vk7 h k) wr)) (fun i _ => 8 - (intOf i).toNat)
 case atStart => exact ⟨0, by decide, rfl, HM⟩
 case round =>
  clear HM
  obtain ⟨k, hk, rfl, HM⟩ := hrel
  by_cases hlt : k < 8
  ·have c1 : (k : Int) < 8 := by omega
   have hix := idx7 h HW.out k hlt
   obtain ⟨x, HX⟩ : ∃ x, Hid (x = h[k]!) := ⟨_, rfl⟩
   rw [← HX.out] at hix
   have cg := HM.out.gb.ivAt k hlt
   obtain ⟨y, HY⟩ : ∃ y, Hid (y = iv7[k]!) := ⟨_, rfl⟩
   rw [← HY.out] at cg
   have xg : ∀ u, ExtB b7 wr u → u.cell? ⟨5, k, none⟩ = some (.int .u32 y) := fun u hu => hu.cell (by omega) cg
   have hw8 : IntKind.i64.wrap ((k : Int) + 8) = (k : Int) + 8 := by rw [IntKind.wrap_i64]; omega
   have hn8 : ((k : Int) + 8).toNat = k + 8 := by omega
   have c2 : (k : Int) < 16 := by omega
   have c3 : (k : Int) + 8 < 16 := by omega
   have c4 : 0 ≤ (k : Int) + 8 := by omega
   obtain ⟨v0, cv0, fv0, -, -⟩ := wn_word HM.out.v (vk7_w HW.out k) k (by omega)
   obtain ⟨v1, cv1, fv1, -, -⟩ := wn_word HM.out.v (vk7_w HW.out k) (k + 8) (by omega)
   go_upto_region 5 with fail
   refine wp_region_noPanic ?_
   refine wp_region_held_drew (S := ExtB b7 wr) (by kernel_rfl) (ExtB.refl _ _).drew (fun hH => ?_)
   change wpAnyH _ _ _ _ _ _ #[false, false, false, false, false, false, false, false, false, false, false] _ _
   refine tn 0 ?_
   refine tn 1 ?_
   refine tn 2 ?_
   refine tn 3 ?_
   refine tn 4 ?_
   refine tn 5 ?_
   refine tn 6 ?_ (hy := by (intro u hu; (have hx := xg u hu; go_simp) <;> with_reducible rfl))
   refine tn 7 ?_
   clear xg hix cg
   refine rdy 8 (fun K hK => ?_)
   go_simp
   refine ko hK (hH.set k _) fun hH => ?_; clear hK K
   refine tn 9 ?_
   refine rdy 10 (fun K hK => ?_)
   go_simp
   refine ko hK (hH.set (k + 8) _) fun hH => ?_; clear hK K
   refine wpAnyH_done (by kernel_rfl) ?_ _
   refine NoPanic.normal ?_
   go_wp2
   go_roundw
   case rel => exact ⟨k + 1, by omega, by go_num, by
    have := (HM.out.drew.set (by omega) g0 g1 k (by omega) x).set (by omega) g0 g1 (k + 8) (by omega) y
    rw [vk7_step HW.out k hlt HX.out HY.out] at this
    exact this⟩
   case measure => simp [intOf]; omega
  ·have e : k = 8 := by omega
   subst e
   rw [vk7_all HW.out] at HM
   clear hlt hk
   obtain ⟨x12, c12, f12, r12, H12⟩ := wn_word HM.out.v (va7_w HW.out) 12 (by decide)
   have hwt : IntKind.u32.wrap t = t % 4294967296 := by rw [IntKind.wrap_u32']
   go_upto_region 8 with fail
   obtain ⟨V1, hV1⟩ : ∃ V, V = wr.setCell ⟨b7, 12, none⟩ (.int .u32 (bits .xor .u32 x12 (t % 4294967296))) := ⟨_, rfl⟩
   rw [← hV1]
   replace HM : Hid (Ms w q6 b7 h (vb7 h t) V1) := by
    unfold Hid
    rw [hV1, vb7, ← H12.out]
    exact HM.out.set (by omega) g0 g1 12 (by decide) _
   clear hV1 c12 f12 r12 H12 hwt
   obtain ⟨x13, c13, f13, r13, H13⟩ := wn_word HM.out.v (vb7_w HW.out t) 13 (by decide)
   have hwt : IntKind.u32.wrap (t / 4294967296) = t / 4294967296 % 4294967296 := by rw [IntKind.wrap_u32']
   go_upto_region 9 with fail
   obtain ⟨V2, hV2⟩ : ∃ V, V = V1.setCell ⟨b7, 13, none⟩ (.int .u32 (bits .xor .u32 x13 (t / 4294967296 % 4294967296))) := ⟨_, rfl⟩
   rw [← hV2]
   replace HM : Hid (Ms w q6 b7 h (vc7 h t) V2) := by
    unfold Hid
    rw [hV2, vc7, ← H13.out]
    exact HM.out.set (by omega) g0 g1 13 (by decide) _
   clear hV2 c13 f13 r13 H13 hwt
   cases last
   case false =>
    obtain ⟨S, HS⟩ : ∃ L, Hid (L = vs7 h t false) := ⟨_, rfl⟩
    have HSW : Hid (Wn 16 S) := by unfold Hid; rw [HS.out]; exact vs7_w HW.out t _
    rw [← vs7_not, ← HS.out] at HM
    obtain ⟨hlen, hone, hi⟩ := ws_cells HSW.out
    obtain ⟨cs, hcs⟩ : ∃ cs, cs = (List.map (Value.int .u32) S) := ⟨_, rfl⟩
    have HC : Hid (cs = (List.map (Value.int .u32) S)) := hcs
    rw [← hcs] at hlen hone hi
    clear hcs
    have hrg : V2.rangeAt b7 0 cs := by rw [HC.out]; exact HM.out.v.rng
    have hth := HM.out.res
    go_wp2_with (first
     | (refine wpList_load_mid rfl 199 (.tmp 7) rfl b7 0 rfl cs _ hrg Tryz.underlying199 rfl hi ?_)
     | (refine wpList_store_mid rfl 199 (.tmp 6) (.tmp 43) rfl q6 0 cs.toArray rfl rfl (by simpa [hlen] using hth) (by simpa using hi) (all_oneCell_toArray hone) ?_))
    have HR2 : Hid ((V2.setCells q6 0 cs).rangeAt q6 0 cs) := World.rangeAt_setCells_same _ _ _ _ (by rw [hlen]; exact hth)
    have hld := run_loadVar_mid (P := Tryz.prog) _ _ 0 199 _ _ HR2.out Tryz.underlying199 rfl hi
    exact bodyPost_ret (v := .agg cs.toArray) (by simp [results, Tryz.results165]; exact hld) rfl ⟨S, by rw [HC.out], HS, HSW.out, below_setCells _ (by omega) _ _ _ HM.out.bel⟩
   case true =>
    obtain ⟨x14, c14, f14, r14, H14⟩ := wn_word HM.out.v (vc7_w HW.out t) 14 (by decide)
    obtain ⟨n0, n1⟩ := r14
    have hnt := not7 ⟨n0, n1⟩
    go_upto_region 11 with fail
    try rw [hnt]
    clear hnt
    obtain ⟨V3, hV3⟩ : ∃ V, V = V2.setCell ⟨b7, 14, none⟩ (.int .u32 (4294967295 - x14)) := ⟨_, rfl⟩
    rw [← hV3]
    replace HM : Hid (Ms w q6 b7 h (vd7 h t) V3) := by
     unfold Hid
     rw [hV3, vd7, ← H14.out]
     exact HM.out.set (by omega) g0 g1 14 (by decide) _
    clear hV3 c14 f14 H14 n0 n1
    obtain ⟨S, HS⟩ : ∃ L, Hid (L = vs7 h t true) := ⟨_, rfl⟩
    have HSW : Hid (Wn 16 S) := by unfold Hid; rw [HS.out]; exact vs7_w HW.out t _
    rw [← vs7_last, ← HS.out] at HM
    obtain ⟨hlen, hone, hi⟩ := ws_cells HSW.out
    obtain ⟨cs, hcs⟩ : ∃ cs, cs = (List.map (Value.int .u32) S) := ⟨_, rfl⟩
    have HC : Hid (cs = (List.map (Value.int .u32) S)) := hcs
    rw [← hcs] at hlen hone hi
    clear hcs
    have hrg : V3.rangeAt b7 0 cs := by rw [HC.out]; exact HM.out.v.rng
    have hth := HM.out.res
    go_wp2_with (first
     | (refine wpList_load_mid rfl 199 (.tmp 7) rfl b7 0 rfl cs _ hrg Tryz.underlying199 rfl hi ?_)
     | (refine wpList_store_mid rfl 199 (.tmp 6) (.tmp 43) rfl q6 0 cs.toArray rfl rfl (by simpa [hlen] using hth) (by simpa using hi) (all_oneCell_toArray hone) ?_))
    have HR2 : Hid ((V3.setCells q6 0 cs).rangeAt q6 0 cs) := World.rangeAt_setCells_same _ _ _ _ (by rw [hlen]; exact hth)
    have hld := run_loadVar_mid (P := Tryz.prog) _ _ 0 199 _ _ HR2.out Tryz.underlying199 rfl hi
    exact bodyPost_ret (v := .agg cs.toArray) (by simp [results, Tryz.results165]; exact hld) rfl ⟨S, by rw [HC.out], HS, HSW.out, below_setCells _ (by omega) _ _ _ HM.out.bel⟩

structure Mr7 (w : World) (q2 b3 : Nat) (bl L : List Int) (u : World) : Prop where
 blk : Ar u w.heap.size 64 (List.map (Value.int .u8) bl)
 m : Ar u b3 16 (List.map (Value.int .u32) L)
 res : u.there q2 0 16
 bel : Below w.heap.size w u
theorem Mr7.set {w : World} {q2 b3 : Nat} {bl L : List Int} {u : World} (m : Mr7 w q2 b3 bl L u) (h0 : w.heap.size < b3) (i : Nat) (hi : i < 16) (x : Int) : Mr7 w q2 b3 bl (L.set i x) (u.setCell ⟨b3, i, none⟩ (.int .u32 x)) :=
 ⟨m.blk.else _ _ (by omega) _, by rw [List.map_set]; exact m.m.set i hi _, there_set m.res _ _ _, m.bel.setCell (p := ⟨b3, i, none⟩) (by dsimp only; omega) _⟩
def z16w : List Int := [0, 0, 0, 0, 0, 0, 0, 0, 0, 0, 0, 0, 0, 0, 0, 0]
theorem z16w_w : Wn 16 z16w := zr_w 16
theorem got4_cut (l : List Int) (n : Nat) (h : 4 ≤ n) (hl : 4 ≤ l.length) : got 4 (l.take n) = leN (l.take 4) := by
 unfold got
 rw [if_pos (by rw [List.length_take]; omega), List.take_take, Nat.min_eq_left h]

set_option maxHeartbeats 4000000 in
theorem read7_c (bl : List Int) (hb : Bn 64 bl) (w : World) :
  Calls Tryz.prog 166 #[(.agg (List.map (Value.int .u8) bl).toArray)] w fun e w' => ∃ L', e = .returned (.agg (List.map (Value.int .u32) L').toArray) ∧ Hid (L' = wd7 bl 16) ∧ Wn 16 L' ∧ Below w.heap.size w w' := by
 have HN : Hid (Bn 64 bl) := hb
 have HWD : Hid (Wn 16 (wd7 bl 16)) := wd7_w hb.byt 16
 clear hb
 go_enter Tryz.func166, Tryz.ntmps166
 go_upto_region 2 with fail
 obtain ⟨W0, hW0⟩ : ∃ W, W = ((w.alloc (.cells (List.map (Value.int .u8) bl).toArray 163)).alloc (.cells zw16 199)).alloc (.cells zw16 199) := ⟨_, rfl⟩
 obtain ⟨q2, hq2⟩ : ∃ q, q = w.heap.size + 1 := ⟨_, rfl⟩
 obtain ⟨b3, hb3⟩ : ∃ q, q = w.heap.size + 1 + 1 := ⟨_, rfl⟩
 rw [← hb3, ← hq2, ← hW0]
 have HM : Hid (Mr7 w q2 b3 bl (mk7 (wd7 bl 16) z16w 0) W0) := by
  unfold Hid
  rw [hW0, hq2, hb3, mk7_zero, show z16w = List.replicate 16 0 from rfl]
  refine ⟨(ar_box w _ 64 HN.out.map_len _).later (bel2 _ _ _), ?_, ?_, bel3 _ _ _ _⟩
  ·have := ar_box ((w.alloc (.cells (List.map (Value.int .u8) bl).toArray 163)).alloc (.cells zw16 199)) (List.map (Value.int .u32) (List.replicate 16 0)) 16 rfl 199; simpa using this
  ·have := there_later (bel1 _ (.cells zw16 199)) (there_new (w.alloc (.cells (List.map (Value.int .u8) bl).toArray 163)) 16 zw16 rfl 199); simpa using this
 have k1 : w.heap.size < q2 := by omega
 have k2 : q2 < b3 := by omega
 clear hW0 hq2 hb3
 go_wp2
 go_loopw [5] (fun i wr => ∃ k : Nat, k ≤ 16 ∧ i = .int .i64 k ∧ Hid (Mr7 w q2 b3 bl (mk7 (wd7 bl 16) z16w k) wr)) (fun i _ => 16 - (intOf i).toNat)
 case atStart => exact ⟨0, by decide, rfl, HM⟩
 case round =>
  clear HM
  obtain ⟨k, hk, rfl, HM⟩ := hrel
  by_cases hlt : k < 16
  ·have c1 : (k : Int) < 16 := by omega
   have g2 : 4 * (k : Int) ≤ 64 := by omega
   have g4 : 0 ≤ 4 * (k : Int) := by omega
   have hw4 : IntKind.i64.wrap (4 * (k : Int)) = 4 * k := by rw [IntKind.wrap_i64]; omega
   have t1 : (4 * (k : Int)).toNat = 4 * k := by omega
   have t4 : ¬ 64 = 4 * k := by omega
   have hR : Rd wr (some ⟨w.heap.size, 4 * k, none⟩) (64 - 4 * k) (64 - 4 * k) ((bl.drop (4 * k)).take (64 - 4 * k)) := HM.out.blk.rd HN.out.byt (4 * k) (64 - 4 * k) (64 - 4 * k) (by omega) (by omega)
   have HR : Hid _ := hR
   clear hR
   obtain ⟨v0, cv0, fv0, -, -⟩ := wn_word HM.out.m (mk7_w HWD.out z16w_w k) k hlt
   go_wp2_with fail
   refine (get32_any _ _ _ _ _ HR.out (by omega)).mono ?_
   rintro e V ⟨rfl, hV⟩
   rw [hV, got4_cut _ _ (by omega) (by rw [List.length_drop, HN.out.len]; omega), ← wd7_at bl 16 k hlt]
   clear hV V HR
   obtain ⟨x, HX⟩ : ∃ x, Hid (x = (wd7 bl 16)[k]!) := ⟨_, rfl⟩
   rw [← HX.out]
   have hx : W7 x := by rw [HX.out]; exact getW7 HWD.out.wd k
   obtain ⟨x0, x1⟩ := hx
   go_wp2
   go_roundw
   case rel => exact ⟨k + 1, by omega, by go_num, by
    have := HM.out.set (by omega) k hlt x
    rw [mk7_set (by rw [HWD.out.len]; exact hlt) (by exact hlt) HX.out] at this
    exact this⟩
   case measure => simp [intOf]; omega
  ·have e : k = 16 := by omega
   subst e
   rw [mk7_all (by rw [HWD.out.len]; decide) 16 HWD.out.len.symm] at HM
   clear hlt hk
   obtain ⟨S, HS⟩ : ∃ L, Hid (L = wd7 bl 16) := ⟨_, rfl⟩
   rw [← HS.out] at HM HWD
   obtain ⟨hlen, hone, hi⟩ := ws_cells HWD.out
   obtain ⟨cs, hcs⟩ : ∃ cs, cs = (List.map (Value.int .u32) S) := ⟨_, rfl⟩
   have HC : Hid (cs = (List.map (Value.int .u32) S)) := hcs
   rw [← hcs] at hlen hone hi
   clear hcs
   have hrg : wr.rangeAt b3 0 cs := by rw [HC.out]; exact HM.out.m.rng
   have hth := HM.out.res
   go_wp2_with (first
    | (refine wpList_load_mid rfl 199 (.tmp 3) rfl b3 0 rfl cs _ hrg Tryz.underlying199 rfl hi ?_)
    | (refine wpList_store_mid rfl 199 (.tmp 2) (.tmp 18) rfl q2 0 cs.toArray rfl rfl (by simpa [hlen] using hth) (by simpa using hi) (all_oneCell_toArray hone) ?_))
   have HR2 : Hid ((wr.setCells q2 0 cs).rangeAt q2 0 cs) := World.rangeAt_setCells_same _ _ _ _ (by rw [hlen]; exact hth)
   have hld := run_loadVar_mid (P := Tryz.prog) _ _ 0 199 _ _ HR2.out Tryz.underlying199 rfl hi
   exact bodyPost_ret (v := .agg cs.toArray) (by simp [results, Tryz.results166]; exact hld) rfl ⟨S, by rw [HC.out], HS, HWD.out, below_setCells _ (by omega) _ _ _ HM.out.bel⟩
end Go.Proofs.YtlnbjehimabaiaaGreatDoor
/-
  A Hash in memory: its state, how much it took, the block that waits, how much of it is held. No statement of the seat is proved here.
-/
namespace Go.Proofs.YtlnbjehimabaiaaGreatDoor
open Go.RowKit
set_option maxRecDepth 8000

/-- A Hash's cells. -/
def hc7 (st : List Int) (t : Int) (bl : List Int) (k : Nat) : List Value := List.map (Value.int .u32) st ++ (.int .u64 t :: (List.map (Value.int .u8) bl ++ [.int .i64 k]))
theorem hc7_len {st : List Int} {t : Int} {bl : List Int} {k : Nat} (h1 : st.length = 8) (h2 : bl.length = 64) : (hc7 st t bl k).length = 74 := by
  unfold hc7
  simp [h1, h2]
theorem hc7_st {st : List Int} {t : Int} {bl : List Int} {k : Nat} (h1 : st.length = 8) (i : Nat) (hi : i < 8) (x : Int) : (hc7 st t bl k).set i (.int .u32 x) = hc7 (st.set i x) t bl k := by
  unfold hc7
  rw [List.set_append_left _ _ (by rw [List.length_map]; omega), List.map_set]
theorem hc7_t {st : List Int} {t : Int} {bl : List Int} {k : Nat} (h1 : st.length = 8) (t' : Int) : (hc7 st t bl k).set 8 (.int .u64 t') = hc7 st t' bl k := by
  unfold hc7
  rw [List.set_append_right _ _ (by rw [List.length_map]; omega), List.length_map, h1]
  rfl
theorem hc7_k {st : List Int} {t : Int} {bl : List Int} {k : Nat} (h1 : st.length = 8) (h2 : bl.length = 64) (k' : Nat) : (hc7 st t bl k).set 73 (.int .i64 k') = hc7 st t bl k' := by
  unfold hc7
  rw [List.set_append_right _ _ (by rw [List.length_map]; omega), List.length_map, h1, show 73 - 8 = 64 + 1 from rfl, List.set_cons_succ, List.set_append_right _ _ (by rw [List.length_map]; omega), List.length_map, h2]
  rfl
theorem hc7_take8 {st : List Int} {t : Int} {bl : List Int} {k : Nat} (h1 : st.length = 8) : (hc7 st t bl k).take 8 = List.map (Value.int .u32) st := by
  unfold hc7
  rw [List.take_append_of_le_length (by rw [List.length_map]; omega), List.take_of_length_le (by rw [List.length_map]; omega)]
theorem hc7_drop9 {st : List Int} {t : Int} {bl : List Int} {k : Nat} (h1 : st.length = 8) : (hc7 st t bl k).drop 9 = List.map (Value.int .u8) bl ++ [.int .i64 k] := by
  unfold hc7
  rw [List.drop_append, List.drop_eq_nil_of_le (by rw [List.length_map]; omega), List.nil_append, List.length_map, h1]
  rfl
theorem hc7_blk {st : List Int} {t : Int} {bl : List Int} {k : Nat} (h1 : st.length = 8) (h2 : bl.length = 64) : ((hc7 st t bl k).drop 9).take 64 = List.map (Value.int .u8) bl := by
  rw [hc7_drop9 h1, List.take_append_of_le_length (by rw [List.length_map]; omega), List.take_of_length_le (by rw [List.length_map]; omega)]
/-- What a part of the block turns. -/
theorem hc7_part {st : List Int} {t : Int} {bl : List Int} {k : Nat} (h1 : st.length = 8) (h2 : bl.length = 64) (o : Nat) (l : List Int) (ho : o + l.length ≤ 64) :
    (hc7 st t bl k).take (9 + o) ++ (List.map (Value.int .u8) l ++ (hc7 st t bl k).drop (9 + o + (List.map (Value.int .u8) l).length)) = hc7 st t (bl.take o ++ (l ++ bl.drop (o + l.length))) k := by
  have e1 : (hc7 st t bl k).take (9 + o) = List.map (Value.int .u32) st ++ (.int .u64 t :: List.map (Value.int .u8) (bl.take o)) := by
    unfold hc7
    rw [List.take_append, List.take_of_length_le (by rw [List.length_map]; omega), List.length_map, h1, show 9 + o - 8 = o + 1 by omega, List.take_succ_cons, List.take_append_of_le_length (by rw [List.length_map]; omega), List.map_take]
  have e2 : (hc7 st t bl k).drop (9 + o + (List.map (Value.int .u8) l).length) = List.map (Value.int .u8) (bl.drop (o + l.length)) ++ [.int .i64 k] := by
    rw [List.length_map, Nat.add_assoc, ← List.drop_drop, hc7_drop9 h1, List.drop_append_of_le_length (by rw [List.length_map]; omega), List.map_drop]
  rw [e1, e2]
  unfold hc7
  simp only [List.map_append, List.append_assoc, List.cons_append]
structure Hs (u : World) (b : Nat) (st : List Int) (t : Int) (bl : List Int) (k : Nat) : Prop where
  ar : Ar u b 74 (hc7 st t bl k)
  wst : Wn 8 st
  wt : 0 ≤ t ∧ t < 18446744073709551616
  wbl : Bn 64 bl
  wk : k ≤ 64
section
variable {u u' : World} {b : Nat} {st : List Int} {t : Int} {bl : List Int} {k : Nat}
theorem Hs.later (h : Hs u b st t bl k) (hb : Below u.heap.size u u') : Hs u' b st t bl k := ⟨h.ar.later hb, h.wst, h.wt, h.wbl, h.wk⟩
theorem Hs.extb {bo : Nat} (h : Hs u b st t bl k) (hb : ExtB bo u u') (hne : b ≠ bo) : Hs u' b st t bl k := ⟨h.ar.extb hb hne, h.wst, h.wt, h.wbl, h.wk⟩
theorem Hs.drew (h : Hs u b st t bl k) : Hs u.drew b st t bl k := ⟨h.ar.drew, h.wst, h.wt, h.wbl, h.wk⟩
theorem Hs.else (h : Hs u b st t bl k) (c i : Nat) (hc : b ≠ c) (v : Value) : Hs (u.setCell ⟨c, i, none⟩ v) b st t bl k := ⟨h.ar.else c i hc v, h.wst, h.wt, h.wbl, h.wk⟩
theorem Hs.else_cells (h : Hs u b st t bl k) (c o : Nat) (hc : b ≠ c) (vs : List Value) : Hs (u.setCells c o vs) b st t bl k := ⟨Ar.else_cells hc vs o h.ar, h.wst, h.wt, h.wbl, h.wk⟩
theorem Hs.lt (h : Hs u b st t bl k) : b < u.heap.size := h.ar.lt (by decide)
theorem Hs.state (h : Hs u b st t bl k) : u.rangeAt b 0 (List.map (Value.int .u32) st) := by
  have := range_sub h.ar.rng 0 8
  rwa [List.drop_zero, hc7_take8 h.wst.len] at this
theorem Hs.stateAr (h : Hs u b st t bl k) : Ar u b 8 (List.map (Value.int .u32) st) := ⟨h.state, there_part h.ar.all 0 8 (by decide), h.wst.map_len⟩
theorem Hs.block (h : Hs u b st t bl k) : u.rangeAt b 9 (List.map (Value.int .u8) bl) := by
  have := range_sub h.ar.rng 9 64
  rwa [hc7_blk h.wst.len h.wbl.len] at this
theorem Hs.blockThere (h : Hs u b st t bl k) : u.there b 9 64 := there_part h.ar.all 9 64 (by decide)
theorem Hs.word (h : Hs u b st t bl k) (i : Nat) (hi : i < 8) : ∃ x, u.cell? ⟨b, i, none⟩ = some (.int .u32 x) ∧ u.frozen? ⟨b, i, none⟩ = false ∧ W7 x ∧ Hid (x = st[i]!) := wn_word h.stateAr h.wst i hi
theorem Hs.taken (h : Hs u b st t bl k) : u.cell? ⟨b, 8, none⟩ = some (.int .u64 t) ∧ u.frozen? ⟨b, 8, none⟩ = false := by
  obtain ⟨h1, h2⟩ := h.ar.cell 8 (by decide)
  refine ⟨?_, h2⟩
  have e : (hc7 st t bl k)[8]? = some (.int .u64 t) := by
    unfold hc7
    rw [List.getElem?_append_right (by rw [List.length_map, h.wst.len]; exact Nat.le_refl _), List.length_map, h.wst.len]
    rfl
  rw [h1, ← e, List.getElem?_eq_getElem]
theorem Hs.held (h : Hs u b st t bl k) : u.cell? ⟨b, 73, none⟩ = some (.int .i64 k) ∧ u.frozen? ⟨b, 73, none⟩ = false := by
  obtain ⟨h1, h2⟩ := h.ar.cell 73 (by decide)
  refine ⟨?_, h2⟩
  have e : (hc7 st t bl k)[73]? = some (.int .i64 k) := by
    unfold hc7
    rw [List.getElem?_append_right (by rw [List.length_map, h.wst.len]; decide), List.length_map, h.wst.len, show 73 - 8 = 64 + 1 from rfl, List.getElem?_cons_succ, List.getElem?_append_right (by rw [List.length_map, h.wbl.len]; exact Nat.le_refl _), List.length_map, h.wbl.len]
    rfl
  rw [h1, ← e, List.getElem?_eq_getElem]
theorem Hs.setSt (h : Hs u b st t bl k) (i : Nat) (hi : i < 8) {x : Int} (hx : W7 x) : Hs (u.setCell ⟨b, i, none⟩ (.int .u32 x)) b (st.set i x) t bl k :=
  ⟨by rw [← hc7_st h.wst.len i hi]; exact h.ar.set i (by omega) _, h.wst.set i hx, h.wt, h.wbl, h.wk⟩
theorem Hs.setT (h : Hs u b st t bl k) {t' : Int} (ht : 0 ≤ t' ∧ t' < 18446744073709551616) : Hs (u.setCell ⟨b, 8, none⟩ (.int .u64 t')) b st t' bl k :=
  ⟨by rw [← hc7_t h.wst.len t']; exact h.ar.set 8 (by decide) _, h.wst, ht, h.wbl, h.wk⟩
theorem Hs.setK (h : Hs u b st t bl k) {k' : Nat} (hk : k' ≤ 64) : Hs (u.setCell ⟨b, 73, none⟩ (.int .i64 k')) b st t bl k' :=
  ⟨by rw [← hc7_k h.wst.len h.wbl.len k']; exact h.ar.set 73 (by decide) _, h.wst, h.wt, h.wbl, hk⟩
theorem Hs.part (h : Hs u b st t bl k) (o : Nat) (l : List Int) (ho : o + l.length ≤ 64) (hl : Byt l) : Hs (u.setCells b (9 + o) (List.map (Value.int .u8) l)) b st t (bl.take o ++ (l ++ bl.drop (o + l.length))) k :=
  ⟨by rw [← hc7_part h.wst.len h.wbl.len o l ho]; exact h.ar.part (9 + o) _ (by rw [List.length_map]; omega), h.wst, h.wt,
   ⟨by simp [h.wbl.len]; omega, (h.wbl.byt.take o).app (hl.app (h.wbl.byt.drop _))⟩, h.wk⟩
theorem Hs.setBl (h : Hs u b st t bl k) (l : List Int) (hl : Bn 64 l) : Hs (u.setCells b 9 (List.map (Value.int .u8) l)) b st t l k := by
  have := h.part 0 l (by rw [hl.len]; decide) hl.byt
  rwa [List.take_zero, List.nil_append, hl.len, List.drop_eq_nil_of_le (by rw [h.wbl.len]; decide), List.append_nil] at this
end
theorem bn64_cells7 {l : List Int} (h : Bn 64 l) : (List.map (Value.int .u8) l).length = 64 ∧ (∀ v ∈ (List.map (Value.int .u8) l), v.oneCell' = true) ∧ (Tryz.prog.info? 163).map (·.size) = some (List.map (Value.int .u8) l).length :=
  ⟨h.map_len, bytes_oneCell _, by rw [h.map_len]; kernel_rfl⟩
theorem so_cells {s : List Nat} (h : So s) : (List.map nb8 s).length = 16 ∧ (∀ v ∈ (List.map nb8 s), v.oneCell' = true) ∧ (Tryz.prog.info? 122).map (·.size) = some (List.map nb8 s).length := by
  have e : (List.map nb8 s).length = 16 := by rw [List.length_map, h.len]
  exact ⟨e, fun v hv => by obtain ⟨n, _, rfl⟩ := List.mem_map.1 hv; rfl, by rw [e]; kernel_rfl⟩
def sgL : List Value := List.map nb8 sg7.flatten
theorem sg_cells : sgL.length = 160 ∧ (Tryz.prog.info? 202).map (·.size) = some sgL.length := by
  have e : sgL.length = 160 := rfl
  exact ⟨e, by rw [e]; kernel_rfl⟩
theorem sg_row0 (w : World) : Sem.run Tryz.prog (Instr.index 202 (.agg sgL.toArray) (.int .i64 ((0 : Nat) : Int))) w = .ok (.agg (List.map nb8 sg7[0]!).toArray) w := by kernel_rfl
theorem sg_row1 (w : World) : Sem.run Tryz.prog (Instr.index 202 (.agg sgL.toArray) (.int .i64 ((1 : Nat) : Int))) w = .ok (.agg (List.map nb8 sg7[1]!).toArray) w := by kernel_rfl
theorem sg_row2 (w : World) : Sem.run Tryz.prog (Instr.index 202 (.agg sgL.toArray) (.int .i64 ((2 : Nat) : Int))) w = .ok (.agg (List.map nb8 sg7[2]!).toArray) w := by kernel_rfl
theorem sg_row3 (w : World) : Sem.run Tryz.prog (Instr.index 202 (.agg sgL.toArray) (.int .i64 ((3 : Nat) : Int))) w = .ok (.agg (List.map nb8 sg7[3]!).toArray) w := by kernel_rfl
theorem sg_row4 (w : World) : Sem.run Tryz.prog (Instr.index 202 (.agg sgL.toArray) (.int .i64 ((4 : Nat) : Int))) w = .ok (.agg (List.map nb8 sg7[4]!).toArray) w := by kernel_rfl
theorem sg_row5 (w : World) : Sem.run Tryz.prog (Instr.index 202 (.agg sgL.toArray) (.int .i64 ((5 : Nat) : Int))) w = .ok (.agg (List.map nb8 sg7[5]!).toArray) w := by kernel_rfl
theorem sg_row6 (w : World) : Sem.run Tryz.prog (Instr.index 202 (.agg sgL.toArray) (.int .i64 ((6 : Nat) : Int))) w = .ok (.agg (List.map nb8 sg7[6]!).toArray) w := by kernel_rfl
theorem sg_row7 (w : World) : Sem.run Tryz.prog (Instr.index 202 (.agg sgL.toArray) (.int .i64 ((7 : Nat) : Int))) w = .ok (.agg (List.map nb8 sg7[7]!).toArray) w := by kernel_rfl
theorem sg_row8 (w : World) : Sem.run Tryz.prog (Instr.index 202 (.agg sgL.toArray) (.int .i64 ((8 : Nat) : Int))) w = .ok (.agg (List.map nb8 sg7[8]!).toArray) w := by kernel_rfl
theorem sg_row9 (w : World) : Sem.run Tryz.prog (Instr.index 202 (.agg sgL.toArray) (.int .i64 ((9 : Nat) : Int))) w = .ok (.agg (List.map nb8 sg7[9]!).toArray) w := by kernel_rfl
theorem sg_row (k : Nat) (hk : k < 10) (w : World) : Sem.run Tryz.prog (Instr.index 202 (.agg sgL.toArray) (.int .i64 (k : Int))) w = .ok (.agg (List.map nb8 sg7[k]!).toArray) w := by
  match k, hk with
  | 0, _ => exact sg_row0 w
  | 1, _ => exact sg_row1 w
  | 2, _ => exact sg_row2 w
  | 3, _ => exact sg_row3 w
  | 4, _ => exact sg_row4 w
  | 5, _ => exact sg_row5 w
  | 6, _ => exact sg_row6 w
  | 7, _ => exact sg_row7 w
  | 8, _ => exact sg_row8 w
  | 9, _ => exact sg_row9 w
end Go.Proofs.YtlnbjehimabaiaaGreatDoor
