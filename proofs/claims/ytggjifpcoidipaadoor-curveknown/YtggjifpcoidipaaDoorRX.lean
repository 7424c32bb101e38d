/-
  What the reference's X does. No statement of the seat is proved here.
-/
import Derived.Test.YtggjifpcoidipaaDoorRSub
import Derived.Test.YtggjifpcoidipaaDoorRClamp
import Derived.Deep.CutRange
import Derived.Test.YtggjifpcoidipaaDoorCLaw
namespace Go.Proofs.YtggjifpcoidipaaDoor
open Go.RowKit

def d0 : List Int := List.replicate 16 0
def d1 : List Int := 1 :: List.replicate 15 0
def d24 : List Int := 56129 :: 1 :: List.replicate 14 0
theorem d0_len : d0.length = 16 := rfl
theorem d1_len : d1.length = 16 := rfl
theorem d0_dg : Hid (d0 = dg 16 0) := by unfold Hid; decide
theorem d1_dg : Hid (d1 = dg 16 1) := by unfold Hid; decide
theorem d24_dg : Hid (d24 = dg 16 121665) := by unfold Hid; decide
theorem el24 : El 121665 := ⟨by decide, by decide⟩
theorem d24_arr : (.agg #[.int .u64 56129, .int .u64 1, .int .u64 0, .int .u64 0, .int .u64 0, .int .u64 0, .int .u64 0, .int .u64 0, .int .u64 0, .int .u64 0, .int .u64 0, .int .u64 0, .int .u64 0, .int .u64 0, .int .u64 0, .int .u64 0] : Value) = .agg (List.map (Value.int .u64) d24).toArray := rfl
def ExtN (b : Nat) (a u : World) : Prop := ExtB b a u
theorem ExtN.of {b : Nat} {a u : World} (h : Ext a u) : ExtN b a u := ⟨h.os, h.tape, h.output, h.size, fun k hk _ => h.block k hk⟩
theorem ExtN.range {b c : Nat} {a u : World} {cs : List Value} (h : ExtN b a u) (hc : c ≠ b) (hr : a.rangeAt c 0 cs) : u.rangeAt c 0 cs := fun j v hv => ExtB.cell h hc (hr j v hv)
theorem ExtN.setCells {b : Nat} {a : World} (vs : List Value) (o : Nat) (u : World) (h : ExtN b a u) : ExtN b a (u.setCells b o vs) := extB_setCells vs o u h

set_option maxRecDepth 8000 in
theorem and1F : ∀ t : Fin 256, bits .and .u8 ((t.val : Nat) : Int) 1 = ((t.val % 2 : Nat) : Int) := by decide +kernel
theorem and1 (d : Int) (h : 0 ≤ d ∧ d ≤ 255) : bits .and .u8 d 1 = d % 2 := by
  obtain ⟨n, rfl⟩ := Int.eq_ofNat_of_zero_le h.1
  have := and1F ⟨n, by omega⟩
  simp only at this
  rw [this]
  omega

set_option maxRecDepth 8000 in
set_option maxHeartbeats 32000000 in
theorem rx_c (k l : List Int) (hk : By k) (hl : By l) (w : World) (hg : Gp w) :
    Calls Tryd.prog 23 #[(.agg (List.map (Value.int .u8) k).toArray), (.agg (List.map (Value.int .u8) l).toArray)] w fun e w' => e = .returned (.agg (List.map (Value.int .u8) (lay 32 (xn (leN (cl k)) (num l)))).toArray) ∧ Below w.heap.size w w' := by
  go_enter Tryd.func23, Tryd.ntmps23
  go_upto_region 1 with fail
  have A2 : Hid (Arr (((w.alloc (.cells (List.map (Value.int .u8) k).toArray 22)).alloc (.cells (List.map (Value.int .u8) l).toArray 22)).alloc (.cells #[.int .u8 0, .int .u8 0, .int .u8 0, .int .u8 0, .int .u8 0, .int .u8 0, .int .u8 0, .int .u8 0, .int .u8 0, .int .u8 0, .int .u8 0, .int .u8 0, .int .u8 0, .int .u8 0, .int .u8 0, .int .u8 0, .int .u8 0, .int .u8 0, .int .u8 0, .int .u8 0, .int .u8 0, .int .u8 0, .int .u8 0, .int .u8 0, .int .u8 0, .int .u8 0, .int .u8 0, .int .u8 0, .int .u8 0, .int .u8 0, .int .u8 0, .int .u8 0] 22)) (w.heap.size) (List.map (Value.int .u8) k)) := ((arr_box w k hk).later (bel1 _ _)).later (bel1 _ _)
  have A3 : Hid (Arr (((w.alloc (.cells (List.map (Value.int .u8) k).toArray 22)).alloc (.cells (List.map (Value.int .u8) l).toArray 22)).alloc (.cells #[.int .u8 0, .int .u8 0, .int .u8 0, .int .u8 0, .int .u8 0, .int .u8 0, .int .u8 0, .int .u8 0, .int .u8 0, .int .u8 0, .int .u8 0, .int .u8 0, .int .u8 0, .int .u8 0, .int .u8 0, .int .u8 0, .int .u8 0, .int .u8 0, .int .u8 0, .int .u8 0, .int .u8 0, .int .u8 0, .int .u8 0, .int .u8 0, .int .u8 0, .int .u8 0, .int .u8 0, .int .u8 0, .int .u8 0, .int .u8 0, .int .u8 0, .int .u8 0] 22)) (w.heap.size + 1) (List.map (Value.int .u8) l)) := by
    have := (arr_box (w.alloc (.cells (List.map (Value.int .u8) k).toArray 22)) l hl).later (bel1 _ (.cells #[.int .u8 0, .int .u8 0, .int .u8 0, .int .u8 0, .int .u8 0, .int .u8 0, .int .u8 0, .int .u8 0, .int .u8 0, .int .u8 0, .int .u8 0, .int .u8 0, .int .u8 0, .int .u8 0, .int .u8 0, .int .u8 0, .int .u8 0, .int .u8 0, .int .u8 0, .int .u8 0, .int .u8 0, .int .u8 0, .int .u8 0, .int .u8 0, .int .u8 0, .int .u8 0, .int .u8 0, .int .u8 0, .int .u8 0, .int .u8 0, .int .u8 0, .int .u8 0] 22))
    simpa [Hid] using this
  have A4 : Hid (Arr (((w.alloc (.cells (List.map (Value.int .u8) k).toArray 22)).alloc (.cells (List.map (Value.int .u8) l).toArray 22)).alloc (.cells #[.int .u8 0, .int .u8 0, .int .u8 0, .int .u8 0, .int .u8 0, .int .u8 0, .int .u8 0, .int .u8 0, .int .u8 0, .int .u8 0, .int .u8 0, .int .u8 0, .int .u8 0, .int .u8 0, .int .u8 0, .int .u8 0, .int .u8 0, .int .u8 0, .int .u8 0, .int .u8 0, .int .u8 0, .int .u8 0, .int .u8 0, .int .u8 0, .int .u8 0, .int .u8 0, .int .u8 0, .int .u8 0, .int .u8 0, .int .u8 0, .int .u8 0, .int .u8 0] 22)) (w.heap.size + 1 + 1) (List.map (Value.int .u8) (List.replicate 32 0))) := by
    have := arr_box ((w.alloc (.cells (List.map (Value.int .u8) k).toArray 22)).alloc (.cells (List.map (Value.int .u8) l).toArray 22)) (List.replicate 32 0) ⟨List.length_replicate, fun x hx => by rw [(List.mem_replicate.1 hx).2]; decide⟩
    have e : (List.map (Value.int .u8) (List.replicate 32 (0 : Int))).toArray = #[.int .u8 0, .int .u8 0, .int .u8 0, .int .u8 0, .int .u8 0, .int .u8 0, .int .u8 0, .int .u8 0, .int .u8 0, .int .u8 0, .int .u8 0, .int .u8 0, .int .u8 0, .int .u8 0, .int .u8 0, .int .u8 0, .int .u8 0, .int .u8 0, .int .u8 0, .int .u8 0, .int .u8 0, .int .u8 0, .int .u8 0, .int .u8 0, .int .u8 0, .int .u8 0, .int .u8 0, .int .u8 0, .int .u8 0, .int .u8 0, .int .u8 0, .int .u8 0] := rfl
    rw [e] at this
    simpa [Hid] using this
  have HB : Hid (Below w.heap.size w (((w.alloc (.cells (List.map (Value.int .u8) k).toArray 22)).alloc (.cells (List.map (Value.int .u8) l).toArray 22)).alloc (.cells #[.int .u8 0, .int .u8 0, .int .u8 0, .int .u8 0, .int .u8 0, .int .u8 0, .int .u8 0, .int .u8 0, .int .u8 0, .int .u8 0, .int .u8 0, .int .u8 0, .int .u8 0, .int .u8 0, .int .u8 0, .int .u8 0, .int .u8 0, .int .u8 0, .int .u8 0, .int .u8 0, .int .u8 0, .int .u8 0, .int .u8 0, .int .u8 0, .int .u8 0, .int .u8 0, .int .u8 0, .int .u8 0, .int .u8 0, .int .u8 0, .int .u8 0, .int .u8 0] 22))) := bel3 _ _ _ _
  have HG : Hid (Gp (((w.alloc (.cells (List.map (Value.int .u8) k).toArray 22)).alloc (.cells (List.map (Value.int .u8) l).toArray 22)).alloc (.cells #[.int .u8 0, .int .u8 0, .int .u8 0, .int .u8 0, .int .u8 0, .int .u8 0, .int .u8 0, .int .u8 0, .int .u8 0, .int .u8 0, .int .u8 0, .int .u8 0, .int .u8 0, .int .u8 0, .int .u8 0, .int .u8 0, .int .u8 0, .int .u8 0, .int .u8 0, .int .u8 0, .int .u8 0, .int .u8 0, .int .u8 0, .int .u8 0, .int .u8 0, .int .u8 0, .int .u8 0, .int .u8 0, .int .u8 0, .int .u8 0, .int .u8 0, .int .u8 0] 22))) := ((hg.later (bel1 _ _)).later (bel1 _ _)).later (bel1 _ _)
  have hpos : 0 < w.heap.size := hg.pos
  generalize ((w.alloc (.cells (List.map (Value.int .u8) k).toArray 22)).alloc (.cells (List.map (Value.int .u8) l).toArray 22)).alloc (.cells #[.int .u8 0, .int .u8 0, .int .u8 0, .int .u8 0, .int .u8 0, .int .u8 0, .int .u8 0, .int .u8 0, .int .u8 0, .int .u8 0, .int .u8 0, .int .u8 0, .int .u8 0, .int .u8 0, .int .u8 0, .int .u8 0, .int .u8 0, .int .u8 0, .int .u8 0, .int .u8 0, .int .u8 0, .int .u8 0, .int .u8 0, .int .u8 0, .int .u8 0, .int .u8 0, .int .u8 0, .int .u8 0, .int .u8 0, .int .u8 0, .int .u8 0, .int .u8 0] 22) = W0 at *
  have hq1 : w.heap.size < w.heap.size + 1 := by omega
  have hq2 : w.heap.size + 1 < w.heap.size + 1 + 1 := by omega
  generalize w.heap.size + 1 + 1 = q2 at *
  generalize w.heap.size + 1 = q1 at *
  go_wp2_with (first | (refine wpList_load_mid rfl 22 (.tmp 2) rfl (w.heap.size) 0 rfl (List.map (Value.int .u8) k) _ A2.out.rng Tryd.underlying22 rfl (by_cells hk).2.2 ?_))
  refine (rclamp_c k hk _).mono ?_
  rintro e u1_0 ⟨rfl, hb1_0⟩
  have hc1_1 : Hid (Below W0.heap.size W0 u1_0) := hb1_0
  clear hb1_0
  replace A2 : Hid (Arr u1_0 (w.heap.size) (List.map (Value.int .u8) k)) := A2.out.later hc1_1.out
  replace A3 : Hid (Arr u1_0 q1 (List.map (Value.int .u8) l)) := A3.out.later hc1_1.out
  replace A4 : Hid (Arr u1_0 q2 (List.map (Value.int .u8) (List.replicate 32 0))) := A4.out.later hc1_1.out
  replace HG : Hid (Gp u1_0) := HG.out.later hc1_1.out
  replace HB : Hid (Below w.heap.size w u1_0) := HB.out.trans (Below.mono hc1_1.out HB.out.size)
  clear hc1_1
  obtain ⟨hlenS, honeS, hiS⟩ := by_cells (cl_by hk)
  have A2n : Hid (Arr (u1_0.setCells (w.heap.size) 0 (List.map (Value.int .u8) (cl k))) (w.heap.size) (List.map (Value.int .u8) (cl k))) := ⟨World.rangeAt_setCells_same _ _ _ _ (by rw [hlenS]; exact A2.out.all), World.there_setCells A2.out.all _ _ _⟩
  have A3n : Hid (Arr (u1_0.setCells (w.heap.size) 0 (List.map (Value.int .u8) (cl k))) q1 (List.map (Value.int .u8) l)) := ⟨World.rangeAt_setCells_apart A3.out.rng _ _ _ (.inl (by omega)), World.there_setCells A3.out.all _ _ _⟩
  have A4n : Hid (Arr (u1_0.setCells (w.heap.size) 0 (List.map (Value.int .u8) (cl k))) q2 (List.map (Value.int .u8) (List.replicate 32 0))) := ⟨World.rangeAt_setCells_apart A4.out.rng _ _ _ (.inl (by omega)), World.there_setCells A4.out.all _ _ _⟩
  have HGn : Hid (Gp (u1_0.setCells (w.heap.size) 0 (List.map (Value.int .u8) (cl k)))) := World.rangeAt_setCells_apart HG.out _ _ _ (.inl (by omega))
  have HBn : Hid (Below w.heap.size w (u1_0.setCells (w.heap.size) 0 (List.map (Value.int .u8) (cl k)))) := below_setCells _ (by omega) _ _ _ HB.out
  generalize hcs : (List.map (Value.int .u8) (cl k)) = cs1 at *
  go_upto_region 2 with (refine wpList_store_mid rfl 22 (.tmp 2) (.tmp 20) rfl (w.heap.size) 0 cs1.toArray rfl rfl (by simpa [hlenS] using A2.out.all) (by simpa using hiS) (all_oneCell_toArray honeS) ?_)
  clear hlenS honeS hiS HB HG A2 A3 A4
  generalize u1_0.setCells (w.heap.size) 0 cs1 = W1 at *
  subst hcs
  have A2 := A2n
  clear A2n
  have A3 := A3n
  clear A3n
  have A4 := A4n
  clear A4n
  have HG := HGn
  clear HGn
  have HB := HBn
  clear HBn
  go_wp2_with (first | (refine wpList_load_mid rfl 22 (.tmp 3) rfl q1 0 rfl (List.map (Value.int .u8) l) _ A3.out.rng Tryd.underlying22 rfl (by_cells hl).2.2 ?_))
  refine (rfrom_any l hl _ HG.out).mono ?_
  rintro e u2_0 ⟨z22, rfl, Hz22, hb2_0⟩
  have hc2_1 : Hid (Below W1.heap.size W1 u2_0) := hb2_0
  clear hb2_0
  have hgw5 : W1.heap.size ≤ u2_0.heap.size := hc2_1.out.size
  have ln5_A2 : (w.heap.size) < u2_0.heap.size := Nat.lt_of_lt_of_le A2.out.lt hgw5
  have ln5_A3 : q1 < u2_0.heap.size := Nat.lt_of_lt_of_le A3.out.lt hgw5
  have ln5_A4 : q2 < u2_0.heap.size := Nat.lt_of_lt_of_le A4.out.lt hgw5
  have hlz5 : z22.length = 16 := by rw [Hz22.out, dg_length]
  obtain ⟨hlenS, honeS, hiS⟩ := no_cells hlz5
  have hth := there_new u2_0 16 #[.int .u64 0, .int .u64 0, .int .u64 0, .int .u64 0, .int .u64 0, .int .u64 0, .int .u64 0, .int .u64 0, .int .u64 0, .int .u64 0, .int .u64 0, .int .u64 0, .int .u64 0, .int .u64 0, .int .u64 0, .int .u64 0] rfl 31
  have N5 : Hid (Wrd ((u2_0.alloc (.cells #[.int .u64 0, .int .u64 0, .int .u64 0, .int .u64 0, .int .u64 0, .int .u64 0, .int .u64 0, .int .u64 0, .int .u64 0, .int .u64 0, .int .u64 0, .int .u64 0, .int .u64 0, .int .u64 0, .int .u64 0, .int .u64 0] 31)).setCells u2_0.heap.size 0 (List.map (Value.int .u64) z22)) (u2_0.heap.size) z22) := wrd_store hth z22 hlz5
  have hX : Hid (Below W1.heap.size W1 ((u2_0.alloc (.cells #[.int .u64 0, .int .u64 0, .int .u64 0, .int .u64 0, .int .u64 0, .int .u64 0, .int .u64 0, .int .u64 0, .int .u64 0, .int .u64 0, .int .u64 0, .int .u64 0, .int .u64 0, .int .u64 0, .int .u64 0, .int .u64 0] 31)).setCells u2_0.heap.size 0 (List.map (Value.int .u64) z22))) := hc2_1.out.trans ((below_setCells _ (Nat.le_refl _) _ _ _ (bel1 _ _)).mono hc2_1.out.size)
  generalize hcs : (List.map (Value.int .u64) z22) = cs2 at *
  go_upto_region 3 with (refine wpList_store_mid rfl 31 (.tmp 5) (.tmp 22) rfl (u2_0.heap.size) 0 cs2.toArray rfl rfl (by simpa [hlenS] using hth) (by simpa using hiS) (all_oneCell_toArray honeS) ?_)
  clear hth hlenS honeS hiS hc2_1
  generalize (u2_0.alloc (.cells #[.int .u64 0, .int .u64 0, .int .u64 0, .int .u64 0, .int .u64 0, .int .u64 0, .int .u64 0, .int .u64 0, .int .u64 0, .int .u64 0, .int .u64 0, .int .u64 0, .int .u64 0, .int .u64 0, .int .u64 0, .int .u64 0] 31)).setCells u2_0.heap.size 0 cs2 = W5 at *
  generalize u2_0.heap.size = b5 at *
  subst hcs
  replace A2 : Hid (Arr W5 (w.heap.size) (List.map (Value.int .u8) (cl k))) := A2.out.later hX.out
  replace A3 : Hid (Arr W5 q1 (List.map (Value.int .u8) l)) := A3.out.later hX.out
  replace A4 : Hid (Arr W5 q2 (List.map (Value.int .u8) (List.replicate 32 0))) := A4.out.later hX.out
  replace HG : Hid (Gp W5) := HG.out.later hX.out
  replace HB : Hid (Below w.heap.size w W5) := HB.out.trans (Below.mono hX.out HB.out.size)
  clear hX
  obtain ⟨hlenS, honeS, hiS⟩ := no_cells (d1_len)
  have hth := there_new W5 16 #[.int .u64 0, .int .u64 0, .int .u64 0, .int .u64 0, .int .u64 0, .int .u64 0, .int .u64 0, .int .u64 0, .int .u64 0, .int .u64 0, .int .u64 0, .int .u64 0, .int .u64 0, .int .u64 0, .int .u64 0, .int .u64 0] rfl 31
  have N6 : Hid (Wrd ((W5.alloc (.cells #[.int .u64 0, .int .u64 0, .int .u64 0, .int .u64 0, .int .u64 0, .int .u64 0, .int .u64 0, .int .u64 0, .int .u64 0, .int .u64 0, .int .u64 0, .int .u64 0, .int .u64 0, .int .u64 0, .int .u64 0, .int .u64 0] 31)).setCells W5.heap.size 0 (List.map (Value.int .u64) d1)) (W5.heap.size) d1) := wrd_store hth d1 d1_len
  have hX : Hid (Below W5.heap.size W5 ((W5.alloc (.cells #[.int .u64 0, .int .u64 0, .int .u64 0, .int .u64 0, .int .u64 0, .int .u64 0, .int .u64 0, .int .u64 0, .int .u64 0, .int .u64 0, .int .u64 0, .int .u64 0, .int .u64 0, .int .u64 0, .int .u64 0, .int .u64 0] 31)).setCells W5.heap.size 0 (List.map (Value.int .u64) d1))) := below_setCells _ (Nat.le_refl _) _ _ _ (bel1 _ _)
  have lt6_A2 : (w.heap.size) < W5.heap.size := A2.out.lt
  have lt6_A3 : q1 < W5.heap.size := A3.out.lt
  have lt6_A4 : q2 < W5.heap.size := A4.out.lt
  have lt6_N5 : b5 < W5.heap.size := N5.out.lt
  go_upto_region 4 with (refine wpList_store_mid rfl 31 (.tmp 6) (.tmp 23) rfl (W5.heap.size) 0 (List.map (Value.int .u64) d1).toArray rfl rfl (by simpa [hlenS] using hth) (by simpa using hiS) (all_oneCell_toArray honeS) ?_)
  clear hth hlenS honeS hiS
  generalize (W5.alloc (.cells #[.int .u64 0, .int .u64 0, .int .u64 0, .int .u64 0, .int .u64 0, .int .u64 0, .int .u64 0, .int .u64 0, .int .u64 0, .int .u64 0, .int .u64 0, .int .u64 0, .int .u64 0, .int .u64 0, .int .u64 0, .int .u64 0] 31)).setCells W5.heap.size 0 (List.map (Value.int .u64) d1) = W6 at *
  obtain ⟨b6, hs6⟩ : ∃ b, b = W5.heap.size := ⟨_, rfl⟩
  replace A2 : Hid (Arr W6 (w.heap.size) (List.map (Value.int .u8) (cl k))) := A2.out.later hX.out
  replace A3 : Hid (Arr W6 q1 (List.map (Value.int .u8) l)) := A3.out.later hX.out
  replace A4 : Hid (Arr W6 q2 (List.map (Value.int .u8) (List.replicate 32 0))) := A4.out.later hX.out
  replace N5 : Hid (Wrd W6 b5 z22) := N5.out.later hX.out
  replace HG : Hid (Gp W6) := HG.out.later hX.out
  replace HB : Hid (Below w.heap.size w W6) := HB.out.trans (Below.mono hX.out HB.out.size)
  clear hX
  rw [← hs6] at N6 lt6_A2 lt6_A3 lt6_A4 lt6_N5 ⊢
  clear hs6
  obtain ⟨hlenS, honeS, hiS⟩ := no_cells (d0_len)
  have hth := there_new W6 16 #[.int .u64 0, .int .u64 0, .int .u64 0, .int .u64 0, .int .u64 0, .int .u64 0, .int .u64 0, .int .u64 0, .int .u64 0, .int .u64 0, .int .u64 0, .int .u64 0, .int .u64 0, .int .u64 0, .int .u64 0, .int .u64 0] rfl 31
  have N7 : Hid (Wrd ((W6.alloc (.cells #[.int .u64 0, .int .u64 0, .int .u64 0, .int .u64 0, .int .u64 0, .int .u64 0, .int .u64 0, .int .u64 0, .int .u64 0, .int .u64 0, .int .u64 0, .int .u64 0, .int .u64 0, .int .u64 0, .int .u64 0, .int .u64 0] 31)).setCells W6.heap.size 0 (List.map (Value.int .u64) d0)) (W6.heap.size) d0) := wrd_store hth d0 d0_len
  have hX : Hid (Below W6.heap.size W6 ((W6.alloc (.cells #[.int .u64 0, .int .u64 0, .int .u64 0, .int .u64 0, .int .u64 0, .int .u64 0, .int .u64 0, .int .u64 0, .int .u64 0, .int .u64 0, .int .u64 0, .int .u64 0, .int .u64 0, .int .u64 0, .int .u64 0, .int .u64 0] 31)).setCells W6.heap.size 0 (List.map (Value.int .u64) d0))) := below_setCells _ (Nat.le_refl _) _ _ _ (bel1 _ _)
  have lt7_A2 : (w.heap.size) < W6.heap.size := A2.out.lt
  have lt7_A3 : q1 < W6.heap.size := A3.out.lt
  have lt7_A4 : q2 < W6.heap.size := A4.out.lt
  have lt7_N5 : b5 < W6.heap.size := N5.out.lt
  have lt7_N6 : b6 < W6.heap.size := N6.out.lt
  go_upto_region 5 with (refine wpList_store_mid rfl 31 (.tmp 7) (.tmp 24) rfl (W6.heap.size) 0 (List.map (Value.int .u64) d0).toArray rfl rfl (by simpa [hlenS] using hth) (by simpa using hiS) (all_oneCell_toArray honeS) ?_)
  clear hth hlenS honeS hiS
  generalize (W6.alloc (.cells #[.int .u64 0, .int .u64 0, .int .u64 0, .int .u64 0, .int .u64 0, .int .u64 0, .int .u64 0, .int .u64 0, .int .u64 0, .int .u64 0, .int .u64 0, .int .u64 0, .int .u64 0, .int .u64 0, .int .u64 0, .int .u64 0] 31)).setCells W6.heap.size 0 (List.map (Value.int .u64) d0) = W7 at *
  obtain ⟨b7, hs7⟩ : ∃ b, b = W6.heap.size := ⟨_, rfl⟩
  replace A2 : Hid (Arr W7 (w.heap.size) (List.map (Value.int .u8) (cl k))) := A2.out.later hX.out
  replace A3 : Hid (Arr W7 q1 (List.map (Value.int .u8) l)) := A3.out.later hX.out
  replace A4 : Hid (Arr W7 q2 (List.map (Value.int .u8) (List.replicate 32 0))) := A4.out.later hX.out
  replace N5 : Hid (Wrd W7 b5 z22) := N5.out.later hX.out
  replace N6 : Hid (Wrd W7 b6 d1) := N6.out.later hX.out
  replace HG : Hid (Gp W7) := HG.out.later hX.out
  replace HB : Hid (Below w.heap.size w W7) := HB.out.trans (Below.mono hX.out HB.out.size)
  clear hX
  rw [← hs7] at N7 lt7_A2 lt7_A3 lt7_A4 lt7_N5 lt7_N6 ⊢
  clear hs7
  obtain ⟨hlenS, honeS, hiS⟩ := no_cells hlz5
  have hth := there_new W7 16 #[.int .u64 0, .int .u64 0, .int .u64 0, .int .u64 0, .int .u64 0, .int .u64 0, .int .u64 0, .int .u64 0, .int .u64 0, .int .u64 0, .int .u64 0, .int .u64 0, .int .u64 0, .int .u64 0, .int .u64 0, .int .u64 0] rfl 31
  have N8 : Hid (Wrd ((W7.alloc (.cells #[.int .u64 0, .int .u64 0, .int .u64 0, .int .u64 0, .int .u64 0, .int .u64 0, .int .u64 0, .int .u64 0, .int .u64 0, .int .u64 0, .int .u64 0, .int .u64 0, .int .u64 0, .int .u64 0, .int .u64 0, .int .u64 0] 31)).setCells W7.heap.size 0 (List.map (Value.int .u64) z22)) (W7.heap.size) z22) := wrd_store hth z22 hlz5
  have hX : Hid (Below W7.heap.size W7 ((W7.alloc (.cells #[.int .u64 0, .int .u64 0, .int .u64 0, .int .u64 0, .int .u64 0, .int .u64 0, .int .u64 0, .int .u64 0, .int .u64 0, .int .u64 0, .int .u64 0, .int .u64 0, .int .u64 0, .int .u64 0, .int .u64 0, .int .u64 0] 31)).setCells W7.heap.size 0 (List.map (Value.int .u64) z22))) := below_setCells _ (Nat.le_refl _) _ _ _ (bel1 _ _)
  have lt8_A2 : (w.heap.size) < W7.heap.size := A2.out.lt
  have lt8_A3 : q1 < W7.heap.size := A3.out.lt
  have lt8_A4 : q2 < W7.heap.size := A4.out.lt
  have lt8_N5 : b5 < W7.heap.size := N5.out.lt
  have lt8_N6 : b6 < W7.heap.size := N6.out.lt
  have lt8_N7 : b7 < W7.heap.size := N7.out.lt
  generalize hcs5 : (List.map (Value.int .u64) z22) = cs5 at *
  have N5r : Hid (W7.rangeAt b5 0 cs5) := by have := N5.out.rng; rwa [hcs5] at this
  go_upto_region 6 with (first | (refine wpList_load_mid rfl 31 (.tmp 5) rfl b5 0 rfl cs5 _ N5r.out Tryd.underlying31 rfl hiS ?_) | (refine wpList_store_mid rfl 31 (.tmp 8) (.tmp 25) rfl (W7.heap.size) 0 cs5.toArray rfl rfl (by simpa [hlenS] using hth) (by simpa using hiS) (all_oneCell_toArray honeS) ?_))
  clear hth hlenS honeS hiS N5r
  generalize (W7.alloc (.cells #[.int .u64 0, .int .u64 0, .int .u64 0, .int .u64 0, .int .u64 0, .int .u64 0, .int .u64 0, .int .u64 0, .int .u64 0, .int .u64 0, .int .u64 0, .int .u64 0, .int .u64 0, .int .u64 0, .int .u64 0, .int .u64 0] 31)).setCells W7.heap.size 0 cs5 = W8 at *
  obtain ⟨b8, hs8⟩ : ∃ b, b = W7.heap.size := ⟨_, rfl⟩
  subst hcs5
  replace A2 : Hid (Arr W8 (w.heap.size) (List.map (Value.int .u8) (cl k))) := A2.out.later hX.out
  replace A3 : Hid (Arr W8 q1 (List.map (Value.int .u8) l)) := A3.out.later hX.out
  replace A4 : Hid (Arr W8 q2 (List.map (Value.int .u8) (List.replicate 32 0))) := A4.out.later hX.out
  replace N5 : Hid (Wrd W8 b5 z22) := N5.out.later hX.out
  replace N6 : Hid (Wrd W8 b6 d1) := N6.out.later hX.out
  replace N7 : Hid (Wrd W8 b7 d0) := N7.out.later hX.out
  replace HG : Hid (Gp W8) := HG.out.later hX.out
  replace HB : Hid (Below w.heap.size w W8) := HB.out.trans (Below.mono hX.out HB.out.size)
  clear hX
  rw [← hs8] at N8 lt8_A2 lt8_A3 lt8_A4 lt8_N5 lt8_N6 lt8_N7 ⊢
  clear hs8
  obtain ⟨hlenS, honeS, hiS⟩ := no_cells (d1_len)
  have hth := there_new W8 16 #[.int .u64 0, .int .u64 0, .int .u64 0, .int .u64 0, .int .u64 0, .int .u64 0, .int .u64 0, .int .u64 0, .int .u64 0, .int .u64 0, .int .u64 0, .int .u64 0, .int .u64 0, .int .u64 0, .int .u64 0, .int .u64 0] rfl 31
  have N9 : Hid (Wrd ((W8.alloc (.cells #[.int .u64 0, .int .u64 0, .int .u64 0, .int .u64 0, .int .u64 0, .int .u64 0, .int .u64 0, .int .u64 0, .int .u64 0, .int .u64 0, .int .u64 0, .int .u64 0, .int .u64 0, .int .u64 0, .int .u64 0, .int .u64 0] 31)).setCells W8.heap.size 0 (List.map (Value.int .u64) d1)) (W8.heap.size) d1) := wrd_store hth d1 d1_len
  have hX : Hid (Below W8.heap.size W8 ((W8.alloc (.cells #[.int .u64 0, .int .u64 0, .int .u64 0, .int .u64 0, .int .u64 0, .int .u64 0, .int .u64 0, .int .u64 0, .int .u64 0, .int .u64 0, .int .u64 0, .int .u64 0, .int .u64 0, .int .u64 0, .int .u64 0, .int .u64 0] 31)).setCells W8.heap.size 0 (List.map (Value.int .u64) d1))) := below_setCells _ (Nat.le_refl _) _ _ _ (bel1 _ _)
  have lt9_A2 : (w.heap.size) < W8.heap.size := A2.out.lt
  have lt9_A3 : q1 < W8.heap.size := A3.out.lt
  have lt9_A4 : q2 < W8.heap.size := A4.out.lt
  have lt9_N5 : b5 < W8.heap.size := N5.out.lt
  have lt9_N6 : b6 < W8.heap.size := N6.out.lt
  have lt9_N7 : b7 < W8.heap.size := N7.out.lt
  have lt9_N8 : b8 < W8.heap.size := N8.out.lt
  go_upto_region 7 with (refine wpList_store_mid rfl 31 (.tmp 9) (.tmp 26) rfl (W8.heap.size) 0 (List.map (Value.int .u64) d1).toArray rfl rfl (by simpa [hlenS] using hth) (by simpa using hiS) (all_oneCell_toArray honeS) ?_)
  clear hth hlenS honeS hiS
  generalize (W8.alloc (.cells #[.int .u64 0, .int .u64 0, .int .u64 0, .int .u64 0, .int .u64 0, .int .u64 0, .int .u64 0, .int .u64 0, .int .u64 0, .int .u64 0, .int .u64 0, .int .u64 0, .int .u64 0, .int .u64 0, .int .u64 0, .int .u64 0] 31)).setCells W8.heap.size 0 (List.map (Value.int .u64) d1) = W9 at *
  obtain ⟨b9, hs9⟩ : ∃ b, b = W8.heap.size := ⟨_, rfl⟩
  replace A2 : Hid (Arr W9 (w.heap.size) (List.map (Value.int .u8) (cl k))) := A2.out.later hX.out
  replace A3 : Hid (Arr W9 q1 (List.map (Value.int .u8) l)) := A3.out.later hX.out
  replace A4 : Hid (Arr W9 q2 (List.map (Value.int .u8) (List.replicate 32 0))) := A4.out.later hX.out
  replace N5 : Hid (Wrd W9 b5 z22) := N5.out.later hX.out
  replace N6 : Hid (Wrd W9 b6 d1) := N6.out.later hX.out
  replace N7 : Hid (Wrd W9 b7 d0) := N7.out.later hX.out
  replace N8 : Hid (Wrd W9 b8 z22) := N8.out.later hX.out
  replace HG : Hid (Gp W9) := HG.out.later hX.out
  replace HB : Hid (Below w.heap.size w W9) := HB.out.trans (Below.mono hX.out HB.out.size)
  clear hX
  rw [← hs9] at N9 lt9_A2 lt9_A3 lt9_A4 lt9_N5 lt9_N6 lt9_N7 lt9_N8 ⊢
  clear hs9
  have hK := cl_by hk
  generalize hKe : cl k = K at *
  have HKe : Hid (cl k = K) := hKe
  clear hKe
  obtain ⟨s1, hs1⟩ : ∃ s : Int, s = num l := ⟨_, rfl⟩
  have he1 : El s1 := by rw [hs1]; exact num_el l
  have HS1 : Hid (s1 = num l) := hs1
  rw [← hs1] at Hz22
  clear hs1
  have H5 : Hid (z22 = dg 16 s1) := Hz22
  clear Hz22 A3
  have hl5 := hlz5
  generalize z22 = l5 at *
  have E6 := d1_dg
  have E7 := d0_dg
  generalize d1 = l6 at *
  generalize d0 = l7 at *
  go_wp2
  go_loopw [10, 11, 12, 13, 14, 15, 16, 17, 18] (fun i s11 s12 s13 s14 s15 s16 s17 s18 wl => ∃ (t : Nat) (x2 z2 x3 z3 : Int) (l6 l7 l8 l9 : List Int) (u11 u12 u13 u14 u15 u16 u17 u18 : Value), t ≤ 255 ∧ i = .int .i64 ((t : Int) - 1) ∧ s11 = u11 ∧ s12 = u12 ∧ s13 = u13 ∧ s14 = u14 ∧ s15 = u15 ∧ s16 = u16 ∧ s17 = u17 ∧ s18 = u18 ∧ El x2 ∧ El z2 ∧ El x3 ∧ El z3 ∧ Hid (lad (leN K) s1 (255 - t) = (x2, z2, x3, z3)) ∧ Hid (l6 = dg 16 x2) ∧ Hid (l7 = dg 16 z2) ∧ Hid (l8 = dg 16 x3) ∧ Hid (l9 = dg 16 z3) ∧ Hid (Wrd wl b5 l5) ∧ Hid (Wrd wl b6 l6) ∧ Hid (Wrd wl b7 l7) ∧ Hid (Wrd wl b8 l8) ∧ Hid (Wrd wl b9 l9) ∧ Hid (Arr wl (w.heap.size) (List.map (Value.int .u8) K)) ∧ Hid (Arr wl q2 (List.map (Value.int .u8) (List.replicate 32 0))) ∧ Hid (Gp wl) ∧ Hid (Below w.heap.size w wl)) (fun i _ _ _ _ _ _ _ _ _ => (intOf i + 1).toNat)
  case atStart => exact ⟨255, 1, 0, s1, 1, l6, l7, l5, l6, _, _, _, _, _, _, _, _, by decide, rfl, rfl, rfl, rfl, rfl, rfl, rfl, rfl, rfl, El.one, El.zero, he1, El.one, rfl, E6, E7, H5, E6, N5, N6, N7, N8, N9, A2, A4, HG, HB⟩
  case round =>
    clear N5 N6 N7 N8 N9 A2 A4 HG HB E6 E7
    obtain ⟨t, x2, z2, x3, z3, l6, l7, l8, l9, u11, u12, u13, u14, u15, u16, u17, u18, ht, rfl, rfl, rfl, rfl, rfl, rfl, rfl, rfl, rfl, hx2, hz2, hx3, hz3, HLD, E6, E7, E8, E9, N5, N6, N7, N8, N9, A2, A4, HG, HB⟩ := hrel
    have hl6 : l6.length = 16 := by rw [E6.out, dg_length]
    have hl7 : l7.length = 16 := by rw [E7.out, dg_length]
    have hl8 : l8.length = 16 := by rw [E8.out, dg_length]
    have hl9 : l9.length = 16 := by rw [E9.out, dg_length]
    by_cases h0 : 0 < t
    · obtain ⟨m, rfl⟩ : ∃ m, t = m + 1 := ⟨t - 1, by omega⟩
      have em : (((m + 1 : Nat) : Int) - 1) = (m : Int) := by omega
      rw [em]
      have hm : m < 255 := by omega
      have h1 : m / 8 < K.length := by rw [hK.len]; omega
      have HV : Hid (leN K / 2 ^ m % 2 = K[m / 8] / 2 ^ (m % 8) % 2) := bit_leN K hK.byt m h1
      have r1 := hK.byt _ (List.getElem_mem h1)
      have c1 := (arr_cell A2.out (m / 8) h1 (by omega)).1
      have HLS : Hid (lad (leN K) s1 (255 - m) = lst s1 (leN K / 2 ^ m % 2) (x2, z2, x3, z3)) := by
        unfold Hid
        rw [show 255 - m = (255 - (m + 1)) + 1 by omega, lad, HLD.out, show 254 - (255 - (m + 1)) = m by omega]
      generalize K[m / 8] = r at *
      have hd : 0 ≤ r / 2 ^ (m % 8) ∧ r / 2 ^ (m % 8) ≤ 255 := ⟨Int.ediv_nonneg r1.1 (Int.le_of_lt (Int.pow_pos (by decide))), Int.le_trans (Int.ediv_le_self _ r1.1) r1.2⟩
      have hbit : bits .and .u8 (r / 2 ^ (m % 8)) 1 = leN K / 2 ^ m % 2 := by
        rw [HV.out]
        generalize r / 2 ^ (m % 8) = dd at *
        exact and1 dd hd
      have hv := bit01 (leN K / 2 ^ m)
      have HM : Hid (m < 255) := hm
      generalize leN K / 2 ^ m % 2 = v at *
      go_upto_region 11 with fail
      clear hbit hd c1 r1 h1 hm HV em ht h0
      rcases hv with rfl | rfl
      · go_upto_region 14 with fail
        go_wp2_with (first | (refine wpList_load_mid rfl 31 (.tmp 6) rfl b6 0 rfl (List.map (Value.int .u64) l6) _ N6.out.rng Tryd.underlying31 rfl (no_cells hl6).2.2 ?_) | (refine wpList_load_mid rfl 31 (.tmp 7) rfl b7 0 rfl (List.map (Value.int .u64) l7) _ N7.out.rng Tryd.underlying31 rfl (no_cells hl7).2.2 ?_))
        refine (radd_el l6 l7 x2 z2 hx2 hz2 E6 E7 _ HG.out).mono ?_
        rintro e u14v0_0 ⟨z48, rfl, Hz48, hb14_0⟩
        have hc14_1 : Hid (Below wr.heap.size wr u14v0_0) := hb14_0
        clear hb14_0
        have hgw12 : wr.heap.size ≤ u14v0_0.heap.size := hc14_1.out.size
        have ln12_A2 : (w.heap.size) < u14v0_0.heap.size := Nat.lt_of_lt_of_le A2.out.lt hgw12
        have ln12_A4 : q2 < u14v0_0.heap.size := Nat.lt_of_lt_of_le A4.out.lt hgw12
        have ln12_N5 : b5 < u14v0_0.heap.size := Nat.lt_of_lt_of_le N5.out.lt hgw12
        have ln12_N6 : b6 < u14v0_0.heap.size := Nat.lt_of_lt_of_le N6.out.lt hgw12
        have ln12_N7 : b7 < u14v0_0.heap.size := Nat.lt_of_lt_of_le N7.out.lt hgw12
        have ln12_N8 : b8 < u14v0_0.heap.size := Nat.lt_of_lt_of_le N8.out.lt hgw12
        have ln12_N9 : b9 < u14v0_0.heap.size := Nat.lt_of_lt_of_le N9.out.lt hgw12
        have hlz12 : z48.length = 16 := by rw [Hz48.out, dg_length]
        obtain ⟨hlenS, honeS, hiS⟩ := no_cells hlz12
        have hth := there_new u14v0_0 16 #[.int .u64 0, .int .u64 0, .int .u64 0, .int .u64 0, .int .u64 0, .int .u64 0, .int .u64 0, .int .u64 0, .int .u64 0, .int .u64 0, .int .u64 0, .int .u64 0, .int .u64 0, .int .u64 0, .int .u64 0, .int .u64 0] rfl 31
        have N12 : Hid (Wrd ((u14v0_0.alloc (.cells #[.int .u64 0, .int .u64 0, .int .u64 0, .int .u64 0, .int .u64 0, .int .u64 0, .int .u64 0, .int .u64 0, .int .u64 0, .int .u64 0, .int .u64 0, .int .u64 0, .int .u64 0, .int .u64 0, .int .u64 0, .int .u64 0] 31)).setCells u14v0_0.heap.size 0 (List.map (Value.int .u64) z48)) (u14v0_0.heap.size) z48) := wrd_store hth z48 hlz12
        have hX : Hid (Below wr.heap.size wr ((u14v0_0.alloc (.cells #[.int .u64 0, .int .u64 0, .int .u64 0, .int .u64 0, .int .u64 0, .int .u64 0, .int .u64 0, .int .u64 0, .int .u64 0, .int .u64 0, .int .u64 0, .int .u64 0, .int .u64 0, .int .u64 0, .int .u64 0, .int .u64 0] 31)).setCells u14v0_0.heap.size 0 (List.map (Value.int .u64) z48))) := hc14_1.out.trans ((below_setCells _ (Nat.le_refl _) _ _ _ (bel1 _ _)).mono hc14_1.out.size)
        generalize hcs : (List.map (Value.int .u64) z48) = cs14 at *
        go_upto_region 15 with (refine wpList_store_mid rfl 31 (.tmp 12) (.tmp 48) rfl (u14v0_0.heap.size) 0 cs14.toArray rfl rfl (by simpa [hlenS] using hth) (by simpa using hiS) (all_oneCell_toArray honeS) ?_)
        clear hth hlenS honeS hiS hc14_1
        generalize (u14v0_0.alloc (.cells #[.int .u64 0, .int .u64 0, .int .u64 0, .int .u64 0, .int .u64 0, .int .u64 0, .int .u64 0, .int .u64 0, .int .u64 0, .int .u64 0, .int .u64 0, .int .u64 0, .int .u64 0, .int .u64 0, .int .u64 0, .int .u64 0] 31)).setCells u14v0_0.heap.size 0 cs14 = W12 at *
        generalize u14v0_0.heap.size = b12 at *
        subst hcs
        replace A2 : Hid (Arr W12 (w.heap.size) (List.map (Value.int .u8) K)) := A2.out.later hX.out
        replace A4 : Hid (Arr W12 q2 (List.map (Value.int .u8) (List.replicate 32 0))) := A4.out.later hX.out
        replace N5 : Hid (Wrd W12 b5 l5) := N5.out.later hX.out
        replace N6 : Hid (Wrd W12 b6 l6) := N6.out.later hX.out
        replace N7 : Hid (Wrd W12 b7 l7) := N7.out.later hX.out
        replace N8 : Hid (Wrd W12 b8 l8) := N8.out.later hX.out
        replace N9 : Hid (Wrd W12 b9 l9) := N9.out.later hX.out
        replace HG : Hid (Gp W12) := HG.out.later hX.out
        replace HB : Hid (Below w.heap.size w W12) := HB.out.trans (Below.mono hX.out HB.out.size)
        clear hX
        obtain ⟨n12, hn12⟩ : ∃ n : Int, n = ((x2 + z2) % 57896044618658097711785492504343953926634992332820282019728792003956564819949) := ⟨_, rfl⟩
        have Hn12 : Hid (n12 = fa x2 z2) := hn12
        have en12 : El n12 := by rw [hn12]; exact (El.mod (x2 + z2))
        rw [← hn12] at Hz48
        clear hn12
        go_wp2_with (first | (refine wpList_load_mid rfl 31 (.tmp 6) rfl b6 0 rfl (List.map (Value.int .u64) l6) _ N6.out.rng Tryd.underlying31 rfl (no_cells hl6).2.2 ?_) | (refine wpList_load_mid rfl 31 (.tmp 7) rfl b7 0 rfl (List.map (Value.int .u64) l7) _ N7.out.rng Tryd.underlying31 rfl (no_cells hl7).2.2 ?_))
        refine (rsub_el l6 l7 x2 z2 hx2 hz2 E6 E7 _ HG.out).mono ?_
        rintro e u15v0_0 ⟨z51, rfl, Hz51, hb15_0⟩
        have hc15_1 : Hid (Below W12.heap.size W12 u15v0_0) := hb15_0
        clear hb15_0
        have hgw13 : W12.heap.size ≤ u15v0_0.heap.size := hc15_1.out.size
        have ln13_A2 : (w.heap.size) < u15v0_0.heap.size := Nat.lt_of_lt_of_le A2.out.lt hgw13
        have ln13_A4 : q2 < u15v0_0.heap.size := Nat.lt_of_lt_of_le A4.out.lt hgw13
        have ln13_N5 : b5 < u15v0_0.heap.size := Nat.lt_of_lt_of_le N5.out.lt hgw13
        have ln13_N6 : b6 < u15v0_0.heap.size := Nat.lt_of_lt_of_le N6.out.lt hgw13
        have ln13_N7 : b7 < u15v0_0.heap.size := Nat.lt_of_lt_of_le N7.out.lt hgw13
        have ln13_N8 : b8 < u15v0_0.heap.size := Nat.lt_of_lt_of_le N8.out.lt hgw13
        have ln13_N9 : b9 < u15v0_0.heap.size := Nat.lt_of_lt_of_le N9.out.lt hgw13
        have ln13_N12 : b12 < u15v0_0.heap.size := Nat.lt_of_lt_of_le N12.out.lt hgw13
        have hlz13 : z51.length = 16 := by rw [Hz51.out, dg_length]
        obtain ⟨hlenS, honeS, hiS⟩ := no_cells hlz13
        have hth := there_new u15v0_0 16 #[.int .u64 0, .int .u64 0, .int .u64 0, .int .u64 0, .int .u64 0, .int .u64 0, .int .u64 0, .int .u64 0, .int .u64 0, .int .u64 0, .int .u64 0, .int .u64 0, .int .u64 0, .int .u64 0, .int .u64 0, .int .u64 0] rfl 31
        have N13 : Hid (Wrd ((u15v0_0.alloc (.cells #[.int .u64 0, .int .u64 0, .int .u64 0, .int .u64 0, .int .u64 0, .int .u64 0, .int .u64 0, .int .u64 0, .int .u64 0, .int .u64 0, .int .u64 0, .int .u64 0, .int .u64 0, .int .u64 0, .int .u64 0, .int .u64 0] 31)).setCells u15v0_0.heap.size 0 (List.map (Value.int .u64) z51)) (u15v0_0.heap.size) z51) := wrd_store hth z51 hlz13
        have hX : Hid (Below W12.heap.size W12 ((u15v0_0.alloc (.cells #[.int .u64 0, .int .u64 0, .int .u64 0, .int .u64 0, .int .u64 0, .int .u64 0, .int .u64 0, .int .u64 0, .int .u64 0, .int .u64 0, .int .u64 0, .int .u64 0, .int .u64 0, .int .u64 0, .int .u64 0, .int .u64 0] 31)).setCells u15v0_0.heap.size 0 (List.map (Value.int .u64) z51))) := hc15_1.out.trans ((below_setCells _ (Nat.le_refl _) _ _ _ (bel1 _ _)).mono hc15_1.out.size)
        generalize hcs : (List.map (Value.int .u64) z51) = cs15 at *
        go_upto_region 16 with (refine wpList_store_mid rfl 31 (.tmp 13) (.tmp 51) rfl (u15v0_0.heap.size) 0 cs15.toArray rfl rfl (by simpa [hlenS] using hth) (by simpa using hiS) (all_oneCell_toArray honeS) ?_)
        clear hth hlenS honeS hiS hc15_1
        generalize (u15v0_0.alloc (.cells #[.int .u64 0, .int .u64 0, .int .u64 0, .int .u64 0, .int .u64 0, .int .u64 0, .int .u64 0, .int .u64 0, .int .u64 0, .int .u64 0, .int .u64 0, .int .u64 0, .int .u64 0, .int .u64 0, .int .u64 0, .int .u64 0] 31)).setCells u15v0_0.heap.size 0 cs15 = W13 at *
        generalize u15v0_0.heap.size = b13 at *
        subst hcs
        replace A2 : Hid (Arr W13 (w.heap.size) (List.map (Value.int .u8) K)) := A2.out.later hX.out
        replace A4 : Hid (Arr W13 q2 (List.map (Value.int .u8) (List.replicate 32 0))) := A4.out.later hX.out
        replace N5 : Hid (Wrd W13 b5 l5) := N5.out.later hX.out
        replace N6 : Hid (Wrd W13 b6 l6) := N6.out.later hX.out
        replace N7 : Hid (Wrd W13 b7 l7) := N7.out.later hX.out
        replace N8 : Hid (Wrd W13 b8 l8) := N8.out.later hX.out
        replace N9 : Hid (Wrd W13 b9 l9) := N9.out.later hX.out
        replace N12 : Hid (Wrd W13 b12 z48) := N12.out.later hX.out
        replace HG : Hid (Gp W13) := HG.out.later hX.out
        replace HB : Hid (Below w.heap.size w W13) := HB.out.trans (Below.mono hX.out HB.out.size)
        clear hX
        obtain ⟨n13, hn13⟩ : ∃ n : Int, n = ((x2 - z2) % 57896044618658097711785492504343953926634992332820282019728792003956564819949) := ⟨_, rfl⟩
        have Hn13 : Hid (n13 = fs x2 z2) := hn13
        have en13 : El n13 := by rw [hn13]; exact (El.mod (x2 - z2))
        rw [← hn13] at Hz51
        clear hn13
        go_wp2_with (first | (refine wpList_load_mid rfl 31 (.tmp 12) rfl b12 0 rfl (List.map (Value.int .u64) z48) _ N12.out.rng Tryd.underlying31 rfl (no_cells hlz12).2.2 ?_) | (refine wpList_load_mid rfl 31 (.tmp 12) rfl b12 0 rfl (List.map (Value.int .u64) z48) _ N12.out.rng Tryd.underlying31 rfl (no_cells hlz12).2.2 ?_))
        refine (rmul_el z48 z48 n12 n12 en12 en12 Hz48 Hz48 _ HG.out).mono ?_
        rintro e u16v0_0 ⟨z54, rfl, Hz54, hb16_0⟩
        have hc16_1 : Hid (Below W13.heap.size W13 u16v0_0) := hb16_0
        clear hb16_0
        have hgw14 : W13.heap.size ≤ u16v0_0.heap.size := hc16_1.out.size
        have ln14_A2 : (w.heap.size) < u16v0_0.heap.size := Nat.lt_of_lt_of_le A2.out.lt hgw14
        have ln14_A4 : q2 < u16v0_0.heap.size := Nat.lt_of_lt_of_le A4.out.lt hgw14
        have ln14_N5 : b5 < u16v0_0.heap.size := Nat.lt_of_lt_of_le N5.out.lt hgw14
        have ln14_N6 : b6 < u16v0_0.heap.size := Nat.lt_of_lt_of_le N6.out.lt hgw14
        have ln14_N7 : b7 < u16v0_0.heap.size := Nat.lt_of_lt_of_le N7.out.lt hgw14
        have ln14_N8 : b8 < u16v0_0.heap.size := Nat.lt_of_lt_of_le N8.out.lt hgw14
        have ln14_N9 : b9 < u16v0_0.heap.size := Nat.lt_of_lt_of_le N9.out.lt hgw14
        have ln14_N12 : b12 < u16v0_0.heap.size := Nat.lt_of_lt_of_le N12.out.lt hgw14
        have ln14_N13 : b13 < u16v0_0.heap.size := Nat.lt_of_lt_of_le N13.out.lt hgw14
        have hlz14 : z54.length = 16 := by rw [Hz54.out, dg_length]
        obtain ⟨hlenS, honeS, hiS⟩ := no_cells hlz14
        have hth := there_new u16v0_0 16 #[.int .u64 0, .int .u64 0, .int .u64 0, .int .u64 0, .int .u64 0, .int .u64 0, .int .u64 0, .int .u64 0, .int .u64 0, .int .u64 0, .int .u64 0, .int .u64 0, .int .u64 0, .int .u64 0, .int .u64 0, .int .u64 0] rfl 31
        have N14 : Hid (Wrd ((u16v0_0.alloc (.cells #[.int .u64 0, .int .u64 0, .int .u64 0, .int .u64 0, .int .u64 0, .int .u64 0, .int .u64 0, .int .u64 0, .int .u64 0, .int .u64 0, .int .u64 0, .int .u64 0, .int .u64 0, .int .u64 0, .int .u64 0, .int .u64 0] 31)).setCells u16v0_0.heap.size 0 (List.map (Value.int .u64) z54)) (u16v0_0.heap.size) z54) := wrd_store hth z54 hlz14
        have hX : Hid (Below W13.heap.size W13 ((u16v0_0.alloc (.cells #[.int .u64 0, .int .u64 0, .int .u64 0, .int .u64 0, .int .u64 0, .int .u64 0, .int .u64 0, .int .u64 0, .int .u64 0, .int .u64 0, .int .u64 0, .int .u64 0, .int .u64 0, .int .u64 0, .int .u64 0, .int .u64 0] 31)).setCells u16v0_0.heap.size 0 (List.map (Value.int .u64) z54))) := hc16_1.out.trans ((below_setCells _ (Nat.le_refl _) _ _ _ (bel1 _ _)).mono hc16_1.out.size)
        generalize hcs : (List.map (Value.int .u64) z54) = cs16 at *
        go_upto_region 17 with (refine wpList_store_mid rfl 31 (.tmp 14) (.tmp 54) rfl (u16v0_0.heap.size) 0 cs16.toArray rfl rfl (by simpa [hlenS] using hth) (by simpa using hiS) (all_oneCell_toArray honeS) ?_)
        clear hth hlenS honeS hiS hc16_1
        generalize (u16v0_0.alloc (.cells #[.int .u64 0, .int .u64 0, .int .u64 0, .int .u64 0, .int .u64 0, .int .u64 0, .int .u64 0, .int .u64 0, .int .u64 0, .int .u64 0, .int .u64 0, .int .u64 0, .int .u64 0, .int .u64 0, .int .u64 0, .int .u64 0] 31)).setCells u16v0_0.heap.size 0 cs16 = W14 at *
        generalize u16v0_0.heap.size = b14 at *
        subst hcs
        replace A2 : Hid (Arr W14 (w.heap.size) (List.map (Value.int .u8) K)) := A2.out.later hX.out
        replace A4 : Hid (Arr W14 q2 (List.map (Value.int .u8) (List.replicate 32 0))) := A4.out.later hX.out
        replace N5 : Hid (Wrd W14 b5 l5) := N5.out.later hX.out
        replace N6 : Hid (Wrd W14 b6 l6) := N6.out.later hX.out
        replace N7 : Hid (Wrd W14 b7 l7) := N7.out.later hX.out
        replace N8 : Hid (Wrd W14 b8 l8) := N8.out.later hX.out
        replace N9 : Hid (Wrd W14 b9 l9) := N9.out.later hX.out
        replace N12 : Hid (Wrd W14 b12 z48) := N12.out.later hX.out
        replace N13 : Hid (Wrd W14 b13 z51) := N13.out.later hX.out
        replace HG : Hid (Gp W14) := HG.out.later hX.out
        replace HB : Hid (Below w.heap.size w W14) := HB.out.trans (Below.mono hX.out HB.out.size)
        clear hX
        obtain ⟨n14, hn14⟩ : ∃ n : Int, n = (n12 * n12 % 57896044618658097711785492504343953926634992332820282019728792003956564819949) := ⟨_, rfl⟩
        have Hn14 : Hid (n14 = fm n12 n12) := hn14
        have en14 : El n14 := by rw [hn14]; exact (El.mod (n12 * n12))
        rw [← hn14] at Hz54
        clear hn14
        go_wp2_with (first | (refine wpList_load_mid rfl 31 (.tmp 13) rfl b13 0 rfl (List.map (Value.int .u64) z51) _ N13.out.rng Tryd.underlying31 rfl (no_cells hlz13).2.2 ?_) | (refine wpList_load_mid rfl 31 (.tmp 13) rfl b13 0 rfl (List.map (Value.int .u64) z51) _ N13.out.rng Tryd.underlying31 rfl (no_cells hlz13).2.2 ?_))
        refine (rmul_el z51 z51 n13 n13 en13 en13 Hz51 Hz51 _ HG.out).mono ?_
        rintro e u17v0_0 ⟨z57, rfl, Hz57, hb17_0⟩
        have hc17_1 : Hid (Below W14.heap.size W14 u17v0_0) := hb17_0
        clear hb17_0
        have hgw15 : W14.heap.size ≤ u17v0_0.heap.size := hc17_1.out.size
        have ln15_A2 : (w.heap.size) < u17v0_0.heap.size := Nat.lt_of_lt_of_le A2.out.lt hgw15
        have ln15_A4 : q2 < u17v0_0.heap.size := Nat.lt_of_lt_of_le A4.out.lt hgw15
        have ln15_N5 : b5 < u17v0_0.heap.size := Nat.lt_of_lt_of_le N5.out.lt hgw15
        have ln15_N6 : b6 < u17v0_0.heap.size := Nat.lt_of_lt_of_le N6.out.lt hgw15
        have ln15_N7 : b7 < u17v0_0.heap.size := Nat.lt_of_lt_of_le N7.out.lt hgw15
        have ln15_N8 : b8 < u17v0_0.heap.size := Nat.lt_of_lt_of_le N8.out.lt hgw15
        have ln15_N9 : b9 < u17v0_0.heap.size := Nat.lt_of_lt_of_le N9.out.lt hgw15
        have ln15_N12 : b12 < u17v0_0.heap.size := Nat.lt_of_lt_of_le N12.out.lt hgw15
        have ln15_N13 : b13 < u17v0_0.heap.size := Nat.lt_of_lt_of_le N13.out.lt hgw15
        have ln15_N14 : b14 < u17v0_0.heap.size := Nat.lt_of_lt_of_le N14.out.lt hgw15
        have hlz15 : z57.length = 16 := by rw [Hz57.out, dg_length]
        obtain ⟨hlenS, honeS, hiS⟩ := no_cells hlz15
        have hth := there_new u17v0_0 16 #[.int .u64 0, .int .u64 0, .int .u64 0, .int .u64 0, .int .u64 0, .int .u64 0, .int .u64 0, .int .u64 0, .int .u64 0, .int .u64 0, .int .u64 0, .int .u64 0, .int .u64 0, .int .u64 0, .int .u64 0, .int .u64 0] rfl 31
        have N15 : Hid (Wrd ((u17v0_0.alloc (.cells #[.int .u64 0, .int .u64 0, .int .u64 0, .int .u64 0, .int .u64 0, .int .u64 0, .int .u64 0, .int .u64 0, .int .u64 0, .int .u64 0, .int .u64 0, .int .u64 0, .int .u64 0, .int .u64 0, .int .u64 0, .int .u64 0] 31)).setCells u17v0_0.heap.size 0 (List.map (Value.int .u64) z57)) (u17v0_0.heap.size) z57) := wrd_store hth z57 hlz15
        have hX : Hid (Below W14.heap.size W14 ((u17v0_0.alloc (.cells #[.int .u64 0, .int .u64 0, .int .u64 0, .int .u64 0, .int .u64 0, .int .u64 0, .int .u64 0, .int .u64 0, .int .u64 0, .int .u64 0, .int .u64 0, .int .u64 0, .int .u64 0, .int .u64 0, .int .u64 0, .int .u64 0] 31)).setCells u17v0_0.heap.size 0 (List.map (Value.int .u64) z57))) := hc17_1.out.trans ((below_setCells _ (Nat.le_refl _) _ _ _ (bel1 _ _)).mono hc17_1.out.size)
        generalize hcs : (List.map (Value.int .u64) z57) = cs17 at *
        go_upto_region 18 with (refine wpList_store_mid rfl 31 (.tmp 15) (.tmp 57) rfl (u17v0_0.heap.size) 0 cs17.toArray rfl rfl (by simpa [hlenS] using hth) (by simpa using hiS) (all_oneCell_toArray honeS) ?_)
        clear hth hlenS honeS hiS hc17_1
        generalize (u17v0_0.alloc (.cells #[.int .u64 0, .int .u64 0, .int .u64 0, .int .u64 0, .int .u64 0, .int .u64 0, .int .u64 0, .int .u64 0, .int .u64 0, .int .u64 0, .int .u64 0, .int .u64 0, .int .u64 0, .int .u64 0, .int .u64 0, .int .u64 0] 31)).setCells u17v0_0.heap.size 0 cs17 = W15 at *
        generalize u17v0_0.heap.size = b15 at *
        subst hcs
        replace A2 : Hid (Arr W15 (w.heap.size) (List.map (Value.int .u8) K)) := A2.out.later hX.out
        replace A4 : Hid (Arr W15 q2 (List.map (Value.int .u8) (List.replicate 32 0))) := A4.out.later hX.out
        replace N5 : Hid (Wrd W15 b5 l5) := N5.out.later hX.out
        replace N6 : Hid (Wrd W15 b6 l6) := N6.out.later hX.out
        replace N7 : Hid (Wrd W15 b7 l7) := N7.out.later hX.out
        replace N8 : Hid (Wrd W15 b8 l8) := N8.out.later hX.out
        replace N9 : Hid (Wrd W15 b9 l9) := N9.out.later hX.out
        replace N12 : Hid (Wrd W15 b12 z48) := N12.out.later hX.out
        replace N13 : Hid (Wrd W15 b13 z51) := N13.out.later hX.out
        replace N14 : Hid (Wrd W15 b14 z54) := N14.out.later hX.out
        replace HG : Hid (Gp W15) := HG.out.later hX.out
        replace HB : Hid (Below w.heap.size w W15) := HB.out.trans (Below.mono hX.out HB.out.size)
        clear hX
        obtain ⟨n15, hn15⟩ : ∃ n : Int, n = (n13 * n13 % 57896044618658097711785492504343953926634992332820282019728792003956564819949) := ⟨_, rfl⟩
        have Hn15 : Hid (n15 = fm n13 n13) := hn15
        have en15 : El n15 := by rw [hn15]; exact (El.mod (n13 * n13))
        rw [← hn15] at Hz57
        clear hn15
        go_wp2_with (first | (refine wpList_load_mid rfl 31 (.tmp 14) rfl b14 0 rfl (List.map (Value.int .u64) z54) _ N14.out.rng Tryd.underlying31 rfl (no_cells hlz14).2.2 ?_) | (refine wpList_load_mid rfl 31 (.tmp 15) rfl b15 0 rfl (List.map (Value.int .u64) z57) _ N15.out.rng Tryd.underlying31 rfl (no_cells hlz15).2.2 ?_))
        refine (rsub_el z54 z57 n14 n15 en14 en15 Hz54 Hz57 _ HG.out).mono ?_
        rintro e u18v0_0 ⟨z60, rfl, Hz60, hb18_0⟩
        have hc18_1 : Hid (Below W15.heap.size W15 u18v0_0) := hb18_0
        clear hb18_0
        have hgw16 : W15.heap.size ≤ u18v0_0.heap.size := hc18_1.out.size
        have ln16_A2 : (w.heap.size) < u18v0_0.heap.size := Nat.lt_of_lt_of_le A2.out.lt hgw16
        have ln16_A4 : q2 < u18v0_0.heap.size := Nat.lt_of_lt_of_le A4.out.lt hgw16
        have ln16_N5 : b5 < u18v0_0.heap.size := Nat.lt_of_lt_of_le N5.out.lt hgw16
        have ln16_N6 : b6 < u18v0_0.heap.size := Nat.lt_of_lt_of_le N6.out.lt hgw16
        have ln16_N7 : b7 < u18v0_0.heap.size := Nat.lt_of_lt_of_le N7.out.lt hgw16
        have ln16_N8 : b8 < u18v0_0.heap.size := Nat.lt_of_lt_of_le N8.out.lt hgw16
        have ln16_N9 : b9 < u18v0_0.heap.size := Nat.lt_of_lt_of_le N9.out.lt hgw16
        have ln16_N12 : b12 < u18v0_0.heap.size := Nat.lt_of_lt_of_le N12.out.lt hgw16
        have ln16_N13 : b13 < u18v0_0.heap.size := Nat.lt_of_lt_of_le N13.out.lt hgw16
        have ln16_N14 : b14 < u18v0_0.heap.size := Nat.lt_of_lt_of_le N14.out.lt hgw16
        have ln16_N15 : b15 < u18v0_0.heap.size := Nat.lt_of_lt_of_le N15.out.lt hgw16
        have hlz16 : z60.length = 16 := by rw [Hz60.out, dg_length]
        obtain ⟨hlenS, honeS, hiS⟩ := no_cells hlz16
        have hth := there_new u18v0_0 16 #[.int .u64 0, .int .u64 0, .int .u64 0, .int .u64 0, .int .u64 0, .int .u64 0, .int .u64 0, .int .u64 0, .int .u64 0, .int .u64 0, .int .u64 0, .int .u64 0, .int .u64 0, .int .u64 0, .int .u64 0, .int .u64 0] rfl 31
        have N16 : Hid (Wrd ((u18v0_0.alloc (.cells #[.int .u64 0, .int .u64 0, .int .u64 0, .int .u64 0, .int .u64 0, .int .u64 0, .int .u64 0, .int .u64 0, .int .u64 0, .int .u64 0, .int .u64 0, .int .u64 0, .int .u64 0, .int .u64 0, .int .u64 0, .int .u64 0] 31)).setCells u18v0_0.heap.size 0 (List.map (Value.int .u64) z60)) (u18v0_0.heap.size) z60) := wrd_store hth z60 hlz16
        have hX : Hid (Below W15.heap.size W15 ((u18v0_0.alloc (.cells #[.int .u64 0, .int .u64 0, .int .u64 0, .int .u64 0, .int .u64 0, .int .u64 0, .int .u64 0, .int .u64 0, .int .u64 0, .int .u64 0, .int .u64 0, .int .u64 0, .int .u64 0, .int .u64 0, .int .u64 0, .int .u64 0] 31)).setCells u18v0_0.heap.size 0 (List.map (Value.int .u64) z60))) := hc18_1.out.trans ((below_setCells _ (Nat.le_refl _) _ _ _ (bel1 _ _)).mono hc18_1.out.size)
        generalize hcs : (List.map (Value.int .u64) z60) = cs18 at *
        go_upto_region 19 with (refine wpList_store_mid rfl 31 (.tmp 16) (.tmp 60) rfl (u18v0_0.heap.size) 0 cs18.toArray rfl rfl (by simpa [hlenS] using hth) (by simpa using hiS) (all_oneCell_toArray honeS) ?_)
        clear hth hlenS honeS hiS hc18_1
        generalize (u18v0_0.alloc (.cells #[.int .u64 0, .int .u64 0, .int .u64 0, .int .u64 0, .int .u64 0, .int .u64 0, .int .u64 0, .int .u64 0, .int .u64 0, .int .u64 0, .int .u64 0, .int .u64 0, .int .u64 0, .int .u64 0, .int .u64 0, .int .u64 0] 31)).setCells u18v0_0.heap.size 0 cs18 = W16 at *
        generalize u18v0_0.heap.size = b16 at *
        subst hcs
        replace A2 : Hid (Arr W16 (w.heap.size) (List.map (Value.int .u8) K)) := A2.out.later hX.out
        replace A4 : Hid (Arr W16 q2 (List.map (Value.int .u8) (List.replicate 32 0))) := A4.out.later hX.out
        replace N5 : Hid (Wrd W16 b5 l5) := N5.out.later hX.out
        replace N6 : Hid (Wrd W16 b6 l6) := N6.out.later hX.out
        replace N7 : Hid (Wrd W16 b7 l7) := N7.out.later hX.out
        replace N8 : Hid (Wrd W16 b8 l8) := N8.out.later hX.out
        replace N9 : Hid (Wrd W16 b9 l9) := N9.out.later hX.out
        replace N12 : Hid (Wrd W16 b12 z48) := N12.out.later hX.out
        replace N13 : Hid (Wrd W16 b13 z51) := N13.out.later hX.out
        replace N14 : Hid (Wrd W16 b14 z54) := N14.out.later hX.out
        replace N15 : Hid (Wrd W16 b15 z57) := N15.out.later hX.out
        replace HG : Hid (Gp W16) := HG.out.later hX.out
        replace HB : Hid (Below w.heap.size w W16) := HB.out.trans (Below.mono hX.out HB.out.size)
        clear hX
        obtain ⟨n16, hn16⟩ : ∃ n : Int, n = ((n14 - n15) % 57896044618658097711785492504343953926634992332820282019728792003956564819949) := ⟨_, rfl⟩
        have Hn16 : Hid (n16 = fs n14 n15) := hn16
        have en16 : El n16 := by rw [hn16]; exact (El.mod (n14 - n15))
        rw [← hn16] at Hz60
        clear hn16
        have lw19v0_A2 : (w.heap.size) < W16.heap.size := A2.out.lt
        have lw19v0_A4 : q2 < W16.heap.size := A4.out.lt
        have lw19v0_N5 : b5 < W16.heap.size := N5.out.lt
        have lw19v0_N6 : b6 < W16.heap.size := N6.out.lt
        have lw19v0_N7 : b7 < W16.heap.size := N7.out.lt
        have lw19v0_N8 : b8 < W16.heap.size := N8.out.lt
        have lw19v0_N9 : b9 < W16.heap.size := N9.out.lt
        have lw19v0_N12 : b12 < W16.heap.size := N12.out.lt
        have lw19v0_N13 : b13 < W16.heap.size := N13.out.lt
        have lw19v0_N14 : b14 < W16.heap.size := N14.out.lt
        have lw19v0_N15 : b15 < W16.heap.size := N15.out.lt
        have lw19v0_N16 : b16 < W16.heap.size := N16.out.lt
        try simp only [Act.put]
        go_cut [17] from 27 to 102 (fun tv wc => ∃ (b : Nat) (zl : List Int), tv = .pointer (some ⟨b, 0, none⟩) ∧ Hid (zl = dg 16 (fm (fs x3 z3) n12)) ∧ Hid (Wrd wc b zl) ∧ W16.heap.size ≤ b ∧ Hid (Below W16.heap.size W16 wc))
        case first =>
          refine wp_region_noPanic ?_
          refine wp_region_held_drew (S := Ext W16) (by kernel_rfl) (Ext.refl _).drew (fun hH => ?_)
          change wpAnyH _ _ _ _ _ _ #[false, false, false, false, false, false, false] _ _
          generalize W16.drew = y0 at *
          refine wpAnyH_take (i := 0) (oi := ?o019v0n1) (v := .agg (List.map (Value.int .u64) l8).toArray) ?h019v0n1 (by kernel_rfl) ?f019v0n1 ?r019v0n1 (fun _ _ _ h => h) ?y019v0n1 (by assumption) ?t019v0n1
          case h019v0n1 => simp only [List.getElem?_toArray]; rfl
          case f019v0n1 => kernel_rfl
          case r019v0n1 => kernel_rfl
          case y019v0n1 => exact yieldsIf_load_mid (by rfl) 31 (.tmp 8) rfl b8 0 rfl (List.map (Value.int .u64) l8) _ (fun u hu => range_later hu N8.out.rng) Tryd.underlying31 rfl (no_cells hl8).2.2
          try simp only [Act.put, List.setIfInBounds_toArray, List.set_cons_zero, List.set_cons_succ]
          refine wpAnyH_take (i := 1) (oi := ?o119v0n2) (v := .agg (List.map (Value.int .u64) l9).toArray) ?h119v0n2 (by kernel_rfl) ?f119v0n2 ?r119v0n2 (fun _ _ _ h => h) ?y119v0n2 (by assumption) ?t119v0n2
          case h119v0n2 => simp only [List.getElem?_toArray]; rfl
          case f119v0n2 => kernel_rfl
          case r119v0n2 => kernel_rfl
          case y119v0n2 => exact yieldsIf_load_mid (by rfl) 31 (.tmp 9) rfl b9 0 rfl (List.map (Value.int .u64) l9) _ (fun u hu => range_later hu N9.out.rng) Tryd.underlying31 rfl (no_cells hl9).2.2
          try simp only [Act.put, List.setIfInBounds_toArray, List.set_cons_zero, List.set_cons_succ]
          refine wpAnyH_take (i := 3) (oi := ?o319v0n3) (v := .agg (List.map (Value.int .u64) z48).toArray) ?h319v0n3 (by kernel_rfl) ?f319v0n3 ?r319v0n3 (fun _ _ _ h => h) ?y319v0n3 (by assumption) ?t319v0n3
          case h319v0n3 => simp only [List.getElem?_toArray]; rfl
          case f319v0n3 => kernel_rfl
          case r319v0n3 => kernel_rfl
          case y319v0n3 => exact yieldsIf_load_mid (by rfl) 31 (.tmp 12) rfl b12 0 rfl (List.map (Value.int .u64) z48) _ (fun u hu => range_later hu N12.out.rng) Tryd.underlying31 rfl (no_cells hlz12).2.2
          try simp only [Act.put, List.setIfInBounds_toArray, List.set_cons_zero, List.set_cons_succ]
          refine wpAnyH_ready (rs := [2, 5]) (by kernel_rfl) (by simp) ?_
          refine AllReadyH.cons (o := ?o219v0n4) ?h219v0n4 (fun K hK => ?c219v0n4) (AllReadyH.cons (o := ?o519v0n4) ?h519v0n4 (fun K hK => ?c519v0n4) AllReadyH.nil)
          case h219v0n4 => simp only [List.getElem?_toArray]; rfl
          case h519v0n4 => simp only [List.getElem?_toArray]; rfl
          case c219v0n4 =>
            go_simp
            refine (rsub_el l8 l9 x3 z3 hx3 hz3 E8 E9 _ (Gp.later HG.out hH)).mono ?_
            rintro e y19v0n5 ⟨z63, rfl, Hz63, hb19v0n5⟩
            refine hK.out _ _ (hH.trans hb19v0n5) (fun hH' => ?_)
            clear hK K hH
            have hH := hH'
            clear hH'
            try simp only [List.setIfInBounds_toArray, List.set]
            clear hb19v0n5
            refine wpAnyH_ready (rs := [4, 5]) (by kernel_rfl) (by simp) ?_
            refine AllReadyH.cons (o := ?o419v0n6) ?h419v0n6 (fun K hK => ?c419v0n6) (AllReadyH.cons (o := ?o519v0n6) ?h519v0n6 (fun K hK => ?c519v0n6) AllReadyH.nil)
            case h419v0n6 => simp only [List.getElem?_toArray]; rfl
            case h519v0n6 => simp only [List.getElem?_toArray]; rfl
            case c419v0n6 =>
              go_simp
              refine (rmul_el z63 z48 ((x3 - z3) % 57896044618658097711785492504343953926634992332820282019728792003956564819949) n12 (El.mod (x3 - z3)) en12 Hz63 Hz48 _ (Gp.later HG.out hH)).mono ?_
              rintro e y19v0n7 ⟨z65, rfl, Hz65, hb19v0n7⟩
              refine hK.out _ _ (hH.trans hb19v0n7) (fun hH' => ?_)
              clear hK K hH
              have hH := hH'
              clear hH'
              try simp only [List.setIfInBounds_toArray, List.set]
              clear hb19v0n7
              refine wpAnyH_ready (rs := [5]) (by kernel_rfl) (by simp) ?_
              refine AllReadyH.cons (o := ?o519v0n8) ?h519v0n8 (fun K hK => ?_) AllReadyH.nil
              case h519v0n8 => simp only [List.getElem?_toArray]; rfl
              go_simp
              have hLw : W16.heap.size ≤ y19v0n7.heap.size := hH.size
              refine hK.out _ _ (hH.trans (bel1 _ _)) (fun hH' => ?_)
              clear hK K hH
              have hH := hH'
              clear hH'
              try simp only [List.setIfInBounds_toArray, List.set]
              have hD : Hid ((y19v0n7.alloc (.cells #[.int .u64 0, .int .u64 0, .int .u64 0, .int .u64 0, .int .u64 0, .int .u64 0, .int .u64 0, .int .u64 0, .int .u64 0, .int .u64 0, .int .u64 0, .int .u64 0, .int .u64 0, .int .u64 0, .int .u64 0, .int .u64 0] 31)).there y19v0n7.heap.size 0 16) := there_new y19v0n7 16 #[.int .u64 0, .int .u64 0, .int .u64 0, .int .u64 0, .int .u64 0, .int .u64 0, .int .u64 0, .int .u64 0, .int .u64 0, .int .u64 0, .int .u64 0, .int .u64 0, .int .u64 0, .int .u64 0, .int .u64 0, .int .u64 0] rfl 31
              generalize y19v0n7.alloc (.cells #[.int .u64 0, .int .u64 0, .int .u64 0, .int .u64 0, .int .u64 0, .int .u64 0, .int .u64 0, .int .u64 0, .int .u64 0, .int .u64 0, .int .u64 0, .int .u64 0, .int .u64 0, .int .u64 0, .int .u64 0, .int .u64 0] 31) = x19v0n9 at *
              generalize y19v0n7.heap.size = bw at *
              have hlw : z65.length = 16 := by rw [Hz65.out, dg_length]
              obtain ⟨hlenw, honew, hiw⟩ := no_cells hlw
              have HPw : Hid (z65 = dg 16 (fm (fs x3 z3) n12)) := by unfold Hid; rw [Hz65.out]; rfl
              have hWw : Hid (Wrd (x19v0n9.setCells bw 0 (List.map (Value.int .u64) z65)) bw z65) := wrd_store hD.out z65 hlw
              generalize (List.map (Value.int .u64) z65) = csw at *
              refine wpAnyH_ready (rs := [6]) (by kernel_rfl) (by simp) ?_
              refine AllReadyH.cons (o := ?o19v0n10) ?h19v0n10 (fun K hK => ?_) AllReadyH.nil
              case h19v0n10 => simp only [List.getElem?_toArray]; rfl
              refine wp_store_mid 31 (.tmp 17) (.tmp 65) rfl bw 0 csw.toArray rfl rfl (by simpa [hlenw] using hD.out) (by simpa using hiw) (all_oneCell_toArray honew) ?_
              refine hK.out _ _ (below_setCells _ (by omega) _ _ _ hH) (fun hH' => ?_)
              clear hK K hH
              have hH := hH'
              clear hH'
              try simp only [List.setIfInBounds_toArray, List.set]
              refine wpAnyH_done (by kernel_rfl) ?_ _
              refine NoPanic.normal ?_
              go_wp2_with fail
              go_meet
              case rel => exact ⟨bw, z65, rfl, HPw, hWw, hLw, hH⟩
            case c519v0n6 =>
              go_simp
              have hLw : W16.heap.size ≤ y19v0n5.heap.size := hH.size
              refine hK.out _ _ (hH.trans (bel1 _ _)) (fun hH' => ?_)
              clear hK K hH
              have hH := hH'
              clear hH'
              try simp only [List.setIfInBounds_toArray, List.set]
              have hD : Hid ((y19v0n5.alloc (.cells #[.int .u64 0, .int .u64 0, .int .u64 0, .int .u64 0, .int .u64 0, .int .u64 0, .int .u64 0, .int .u64 0, .int .u64 0, .int .u64 0, .int .u64 0, .int .u64 0, .int .u64 0, .int .u64 0, .int .u64 0, .int .u64 0] 31)).there y19v0n5.heap.size 0 16) := there_new y19v0n5 16 #[.int .u64 0, .int .u64 0, .int .u64 0, .int .u64 0, .int .u64 0, .int .u64 0, .int .u64 0, .int .u64 0, .int .u64 0, .int .u64 0, .int .u64 0, .int .u64 0, .int .u64 0, .int .u64 0, .int .u64 0, .int .u64 0] rfl 31
              generalize y19v0n5.alloc (.cells #[.int .u64 0, .int .u64 0, .int .u64 0, .int .u64 0, .int .u64 0, .int .u64 0, .int .u64 0, .int .u64 0, .int .u64 0, .int .u64 0, .int .u64 0, .int .u64 0, .int .u64 0, .int .u64 0, .int .u64 0, .int .u64 0] 31) = x19v0n11 at *
              generalize y19v0n5.heap.size = bw at *
              refine wpAnyH_ready (rs := [4]) (by kernel_rfl) (by simp) ?_
              refine AllReadyH.cons (o := ?o419v0n12) ?h419v0n12 (fun K hK => ?_) AllReadyH.nil
              case h419v0n12 => simp only [List.getElem?_toArray]; rfl
              go_simp
              refine (rmul_el z63 z48 ((x3 - z3) % 57896044618658097711785492504343953926634992332820282019728792003956564819949) n12 (El.mod (x3 - z3)) en12 Hz63 Hz48 _ (Gp.later HG.out hH)).mono ?_
              rintro e y19v0n13 ⟨z65, rfl, Hz65, hb19v0n13⟩
              refine hK.out _ _ (hH.trans hb19v0n13) (fun hH' => ?_)
              clear hK K hH
              have hH := hH'
              clear hH'
              try simp only [List.setIfInBounds_toArray, List.set]
              replace hD : Hid (y19v0n13.there bw 0 16) := there_later hb19v0n13 hD.out
              clear hb19v0n13
              have hlw : z65.length = 16 := by rw [Hz65.out, dg_length]
              obtain ⟨hlenw, honew, hiw⟩ := no_cells hlw
              have HPw : Hid (z65 = dg 16 (fm (fs x3 z3) n12)) := by unfold Hid; rw [Hz65.out]; rfl
              have hWw : Hid (Wrd (y19v0n13.setCells bw 0 (List.map (Value.int .u64) z65)) bw z65) := wrd_store hD.out z65 hlw
              generalize (List.map (Value.int .u64) z65) = csw at *
              refine wpAnyH_ready (rs := [6]) (by kernel_rfl) (by simp) ?_
              refine AllReadyH.cons (o := ?o19v0n14) ?h19v0n14 (fun K hK => ?_) AllReadyH.nil
              case h19v0n14 => simp only [List.getElem?_toArray]; rfl
              refine wp_store_mid 31 (.tmp 17) (.tmp 65) rfl bw 0 csw.toArray rfl rfl (by simpa [hlenw] using hD.out) (by simpa using hiw) (all_oneCell_toArray honew) ?_
              refine hK.out _ _ (below_setCells _ (by omega) _ _ _ hH) (fun hH' => ?_)
              clear hK K hH
              have hH := hH'
              clear hH'
              try simp only [List.setIfInBounds_toArray, List.set]
              refine wpAnyH_done (by kernel_rfl) ?_ _
              refine NoPanic.normal ?_
              go_wp2_with fail
              go_meet
              case rel => exact ⟨bw, z65, rfl, HPw, hWw, hLw, hH⟩
          case c519v0n4 =>
            go_simp
            have hLw : W16.heap.size ≤ y0.heap.size := hH.size
            refine hK.out _ _ (hH.trans (bel1 _ _)) (fun hH' => ?_)
            clear hK K hH
            have hH := hH'
            clear hH'
            try simp only [List.setIfInBounds_toArray, List.set]
            have hD : Hid ((y0.alloc (.cells #[.int .u64 0, .int .u64 0, .int .u64 0, .int .u64 0, .int .u64 0, .int .u64 0, .int .u64 0, .int .u64 0, .int .u64 0, .int .u64 0, .int .u64 0, .int .u64 0, .int .u64 0, .int .u64 0, .int .u64 0, .int .u64 0] 31)).there y0.heap.size 0 16) := there_new y0 16 #[.int .u64 0, .int .u64 0, .int .u64 0, .int .u64 0, .int .u64 0, .int .u64 0, .int .u64 0, .int .u64 0, .int .u64 0, .int .u64 0, .int .u64 0, .int .u64 0, .int .u64 0, .int .u64 0, .int .u64 0, .int .u64 0] rfl 31
            generalize y0.alloc (.cells #[.int .u64 0, .int .u64 0, .int .u64 0, .int .u64 0, .int .u64 0, .int .u64 0, .int .u64 0, .int .u64 0, .int .u64 0, .int .u64 0, .int .u64 0, .int .u64 0, .int .u64 0, .int .u64 0, .int .u64 0, .int .u64 0] 31) = x19v0n15 at *
            generalize y0.heap.size = bw at *
            refine wpAnyH_ready (rs := [2]) (by kernel_rfl) (by simp) ?_
            refine AllReadyH.cons (o := ?o219v0n16) ?h219v0n16 (fun K hK => ?_) AllReadyH.nil
            case h219v0n16 => simp only [List.getElem?_toArray]; rfl
            go_simp
            refine (rsub_el l8 l9 x3 z3 hx3 hz3 E8 E9 _ (Gp.later HG.out hH)).mono ?_
            rintro e y19v0n17 ⟨z63, rfl, Hz63, hb19v0n17⟩
            refine hK.out _ _ (hH.trans hb19v0n17) (fun hH' => ?_)
            clear hK K hH
            have hH := hH'
            clear hH'
            try simp only [List.setIfInBounds_toArray, List.set]
            replace hD : Hid (y19v0n17.there bw 0 16) := there_later hb19v0n17 hD.out
            clear hb19v0n17
            refine wpAnyH_ready (rs := [4]) (by kernel_rfl) (by simp) ?_
            refine AllReadyH.cons (o := ?o419v0n18) ?h419v0n18 (fun K hK => ?_) AllReadyH.nil
            case h419v0n18 => simp only [List.getElem?_toArray]; rfl
            go_simp
            refine (rmul_el z63 z48 ((x3 - z3) % 57896044618658097711785492504343953926634992332820282019728792003956564819949) n12 (El.mod (x3 - z3)) en12 Hz63 Hz48 _ (Gp.later HG.out hH)).mono ?_
            rintro e y19v0n19 ⟨z65, rfl, Hz65, hb19v0n19⟩
            refine hK.out _ _ (hH.trans hb19v0n19) (fun hH' => ?_)
            clear hK K hH
            have hH := hH'
            clear hH'
            try simp only [List.setIfInBounds_toArray, List.set]
            replace hD : Hid (y19v0n19.there bw 0 16) := there_later hb19v0n19 hD.out
            clear hb19v0n19
            have hlw : z65.length = 16 := by rw [Hz65.out, dg_length]
            obtain ⟨hlenw, honew, hiw⟩ := no_cells hlw
            have HPw : Hid (z65 = dg 16 (fm (fs x3 z3) n12)) := by unfold Hid; rw [Hz65.out]; rfl
            have hWw : Hid (Wrd (y19v0n19.setCells bw 0 (List.map (Value.int .u64) z65)) bw z65) := wrd_store hD.out z65 hlw
            generalize (List.map (Value.int .u64) z65) = csw at *
            refine wpAnyH_ready (rs := [6]) (by kernel_rfl) (by simp) ?_
            refine AllReadyH.cons (o := ?o19v0n20) ?h19v0n20 (fun K hK => ?_) AllReadyH.nil
            case h19v0n20 => simp only [List.getElem?_toArray]; rfl
            refine wp_store_mid 31 (.tmp 17) (.tmp 65) rfl bw 0 csw.toArray rfl rfl (by simpa [hlenw] using hD.out) (by simpa using hiw) (all_oneCell_toArray honew) ?_
            refine hK.out _ _ (below_setCells _ (by omega) _ _ _ hH) (fun hH' => ?_)
            clear hK K hH
            have hH := hH'
            clear hH'
            try simp only [List.setIfInBounds_toArray, List.set]
            refine wpAnyH_done (by kernel_rfl) ?_ _
            refine NoPanic.normal ?_
            go_wp2_with fail
            go_meet
            case rel => exact ⟨bw, z65, rfl, HPw, hWw, hLw, hH⟩
        obtain ⟨b17, z17l, rfl, Hz17l, N17, hge17, hX⟩ := hcut
        have hlz17 : z17l.length = 16 := by rw [Hz17l.out, dg_length]
        generalize wc = W17v0 at *
        replace A2 : Hid (Arr W17v0 (w.heap.size) (List.map (Value.int .u8) K)) := A2.out.later hX.out
        replace A4 : Hid (Arr W17v0 q2 (List.map (Value.int .u8) (List.replicate 32 0))) := A4.out.later hX.out
        replace N5 : Hid (Wrd W17v0 b5 l5) := N5.out.later hX.out
        replace N6 : Hid (Wrd W17v0 b6 l6) := N6.out.later hX.out
        replace N7 : Hid (Wrd W17v0 b7 l7) := N7.out.later hX.out
        replace N8 : Hid (Wrd W17v0 b8 l8) := N8.out.later hX.out
        replace N9 : Hid (Wrd W17v0 b9 l9) := N9.out.later hX.out
        replace N12 : Hid (Wrd W17v0 b12 z48) := N12.out.later hX.out
        replace N13 : Hid (Wrd W17v0 b13 z51) := N13.out.later hX.out
        replace N14 : Hid (Wrd W17v0 b14 z54) := N14.out.later hX.out
        replace N15 : Hid (Wrd W17v0 b15 z57) := N15.out.later hX.out
        replace N16 : Hid (Wrd W17v0 b16 z60) := N16.out.later hX.out
        replace HG : Hid (Gp W17v0) := HG.out.later hX.out
        replace HB : Hid (Below w.heap.size w W17v0) := HB.out.trans (Below.mono hX.out HB.out.size)
        clear hX
        go_upto_region 20 with fail
        obtain ⟨n17, hn17⟩ : ∃ n : Int, n = (fm (fs x3 z3) n12) := ⟨_, rfl⟩
        have Hn17 : Hid (n17 = fm (fs x3 z3) n12) := hn17
        have en17 : El n17 := by rw [hn17]; exact (El.mod _)
        rw [← hn17] at Hz17l
        clear hn17
        have lw20v0_A2 : (w.heap.size) < W17v0.heap.size := A2.out.lt
        have lw20v0_A4 : q2 < W17v0.heap.size := A4.out.lt
        have lw20v0_N5 : b5 < W17v0.heap.size := N5.out.lt
        have lw20v0_N6 : b6 < W17v0.heap.size := N6.out.lt
        have lw20v0_N7 : b7 < W17v0.heap.size := N7.out.lt
        have lw20v0_N8 : b8 < W17v0.heap.size := N8.out.lt
        have lw20v0_N9 : b9 < W17v0.heap.size := N9.out.lt
        have lw20v0_N12 : b12 < W17v0.heap.size := N12.out.lt
        have lw20v0_N13 : b13 < W17v0.heap.size := N13.out.lt
        have lw20v0_N14 : b14 < W17v0.heap.size := N14.out.lt
        have lw20v0_N15 : b15 < W17v0.heap.size := N15.out.lt
        have lw20v0_N16 : b16 < W17v0.heap.size := N16.out.lt
        have lw20v0_N17 : b17 < W17v0.heap.size := N17.out.lt
        try simp only [Act.put]
        go_cut [18] from 27 to 102 (fun tv wc => ∃ (b : Nat) (zl : List Int), tv = .pointer (some ⟨b, 0, none⟩) ∧ Hid (zl = dg 16 (fm (fa x3 z3) n13)) ∧ Hid (Wrd wc b zl) ∧ W17v0.heap.size ≤ b ∧ Hid (Below W17v0.heap.size W17v0 wc))
        case first =>
          refine wp_region_noPanic ?_
          refine wp_region_held_drew (S := Ext W17v0) (by kernel_rfl) (Ext.refl _).drew (fun hH => ?_)
          change wpAnyH _ _ _ _ _ _ #[false, false, false, false, false, false, false] _ _
          generalize W17v0.drew = y0 at *
          refine wpAnyH_take (i := 0) (oi := ?o020v0n1) (v := .agg (List.map (Value.int .u64) l8).toArray) ?h020v0n1 (by kernel_rfl) ?f020v0n1 ?r020v0n1 (fun _ _ _ h => h) ?y020v0n1 (by assumption) ?t020v0n1
          case h020v0n1 => simp only [List.getElem?_toArray]; rfl
          case f020v0n1 => kernel_rfl
          case r020v0n1 => kernel_rfl
          case y020v0n1 => exact yieldsIf_load_mid (by rfl) 31 (.tmp 8) rfl b8 0 rfl (List.map (Value.int .u64) l8) _ (fun u hu => range_later hu N8.out.rng) Tryd.underlying31 rfl (no_cells hl8).2.2
          try simp only [Act.put, List.setIfInBounds_toArray, List.set_cons_zero, List.set_cons_succ]
          refine wpAnyH_take (i := 1) (oi := ?o120v0n2) (v := .agg (List.map (Value.int .u64) l9).toArray) ?h120v0n2 (by kernel_rfl) ?f120v0n2 ?r120v0n2 (fun _ _ _ h => h) ?y120v0n2 (by assumption) ?t120v0n2
          case h120v0n2 => simp only [List.getElem?_toArray]; rfl
          case f120v0n2 => kernel_rfl
          case r120v0n2 => kernel_rfl
          case y120v0n2 => exact yieldsIf_load_mid (by rfl) 31 (.tmp 9) rfl b9 0 rfl (List.map (Value.int .u64) l9) _ (fun u hu => range_later hu N9.out.rng) Tryd.underlying31 rfl (no_cells hl9).2.2
          try simp only [Act.put, List.setIfInBounds_toArray, List.set_cons_zero, List.set_cons_succ]
          refine wpAnyH_take (i := 3) (oi := ?o320v0n3) (v := .agg (List.map (Value.int .u64) z51).toArray) ?h320v0n3 (by kernel_rfl) ?f320v0n3 ?r320v0n3 (fun _ _ _ h => h) ?y320v0n3 (by assumption) ?t320v0n3
          case h320v0n3 => simp only [List.getElem?_toArray]; rfl
          case f320v0n3 => kernel_rfl
          case r320v0n3 => kernel_rfl
          case y320v0n3 => exact yieldsIf_load_mid (by rfl) 31 (.tmp 13) rfl b13 0 rfl (List.map (Value.int .u64) z51) _ (fun u hu => range_later hu N13.out.rng) Tryd.underlying31 rfl (no_cells hlz13).2.2
          try simp only [Act.put, List.setIfInBounds_toArray, List.set_cons_zero, List.set_cons_succ]
          refine wpAnyH_ready (rs := [2, 5]) (by kernel_rfl) (by simp) ?_
          refine AllReadyH.cons (o := ?o220v0n4) ?h220v0n4 (fun K hK => ?c220v0n4) (AllReadyH.cons (o := ?o520v0n4) ?h520v0n4 (fun K hK => ?c520v0n4) AllReadyH.nil)
          case h220v0n4 => simp only [List.getElem?_toArray]; rfl
          case h520v0n4 => simp only [List.getElem?_toArray]; rfl
          case c220v0n4 =>
            go_simp
            refine (radd_el l8 l9 x3 z3 hx3 hz3 E8 E9 _ (Gp.later HG.out hH)).mono ?_
            rintro e y20v0n5 ⟨z68, rfl, Hz68, hb20v0n5⟩
            refine hK.out _ _ (hH.trans hb20v0n5) (fun hH' => ?_)
            clear hK K hH
            have hH := hH'
            clear hH'
            try simp only [List.setIfInBounds_toArray, List.set]
            clear hb20v0n5
            refine wpAnyH_ready (rs := [4, 5]) (by kernel_rfl) (by simp) ?_
            refine AllReadyH.cons (o := ?o420v0n6) ?h420v0n6 (fun K hK => ?c420v0n6) (AllReadyH.cons (o := ?o520v0n6) ?h520v0n6 (fun K hK => ?c520v0n6) AllReadyH.nil)
            case h420v0n6 => simp only [List.getElem?_toArray]; rfl
            case h520v0n6 => simp only [List.getElem?_toArray]; rfl
            case c420v0n6 =>
              go_simp
              refine (rmul_el z68 z51 ((x3 + z3) % 57896044618658097711785492504343953926634992332820282019728792003956564819949) n13 (El.mod (x3 + z3)) en13 Hz68 Hz51 _ (Gp.later HG.out hH)).mono ?_
              rintro e y20v0n7 ⟨z70, rfl, Hz70, hb20v0n7⟩
              refine hK.out _ _ (hH.trans hb20v0n7) (fun hH' => ?_)
              clear hK K hH
              have hH := hH'
              clear hH'
              try simp only [List.setIfInBounds_toArray, List.set]
              clear hb20v0n7
              refine wpAnyH_ready (rs := [5]) (by kernel_rfl) (by simp) ?_
              refine AllReadyH.cons (o := ?o520v0n8) ?h520v0n8 (fun K hK => ?_) AllReadyH.nil
              case h520v0n8 => simp only [List.getElem?_toArray]; rfl
              go_simp
              have hLw : W17v0.heap.size ≤ y20v0n7.heap.size := hH.size
              refine hK.out _ _ (hH.trans (bel1 _ _)) (fun hH' => ?_)
              clear hK K hH
              have hH := hH'
              clear hH'
              try simp only [List.setIfInBounds_toArray, List.set]
              have hD : Hid ((y20v0n7.alloc (.cells #[.int .u64 0, .int .u64 0, .int .u64 0, .int .u64 0, .int .u64 0, .int .u64 0, .int .u64 0, .int .u64 0, .int .u64 0, .int .u64 0, .int .u64 0, .int .u64 0, .int .u64 0, .int .u64 0, .int .u64 0, .int .u64 0] 31)).there y20v0n7.heap.size 0 16) := there_new y20v0n7 16 #[.int .u64 0, .int .u64 0, .int .u64 0, .int .u64 0, .int .u64 0, .int .u64 0, .int .u64 0, .int .u64 0, .int .u64 0, .int .u64 0, .int .u64 0, .int .u64 0, .int .u64 0, .int .u64 0, .int .u64 0, .int .u64 0] rfl 31
              generalize y20v0n7.alloc (.cells #[.int .u64 0, .int .u64 0, .int .u64 0, .int .u64 0, .int .u64 0, .int .u64 0, .int .u64 0, .int .u64 0, .int .u64 0, .int .u64 0, .int .u64 0, .int .u64 0, .int .u64 0, .int .u64 0, .int .u64 0, .int .u64 0] 31) = x20v0n9 at *
              generalize y20v0n7.heap.size = bw at *
              have hlw : z70.length = 16 := by rw [Hz70.out, dg_length]
              obtain ⟨hlenw, honew, hiw⟩ := no_cells hlw
              have HPw : Hid (z70 = dg 16 (fm (fa x3 z3) n13)) := by unfold Hid; rw [Hz70.out]; rfl
              have hWw : Hid (Wrd (x20v0n9.setCells bw 0 (List.map (Value.int .u64) z70)) bw z70) := wrd_store hD.out z70 hlw
              generalize (List.map (Value.int .u64) z70) = csw at *
              refine wpAnyH_ready (rs := [6]) (by kernel_rfl) (by simp) ?_
              refine AllReadyH.cons (o := ?o20v0n10) ?h20v0n10 (fun K hK => ?_) AllReadyH.nil
              case h20v0n10 => simp only [List.getElem?_toArray]; rfl
              refine wp_store_mid 31 (.tmp 18) (.tmp 70) rfl bw 0 csw.toArray rfl rfl (by simpa [hlenw] using hD.out) (by simpa using hiw) (all_oneCell_toArray honew) ?_
              refine hK.out _ _ (below_setCells _ (by omega) _ _ _ hH) (fun hH' => ?_)
              clear hK K hH
              have hH := hH'
              clear hH'
              try simp only [List.setIfInBounds_toArray, List.set]
              refine wpAnyH_done (by kernel_rfl) ?_ _
              refine NoPanic.normal ?_
              go_wp2_with fail
              go_meet
              case rel => exact ⟨bw, z70, rfl, HPw, hWw, hLw, hH⟩
            case c520v0n6 =>
              go_simp
              have hLw : W17v0.heap.size ≤ y20v0n5.heap.size := hH.size
              refine hK.out _ _ (hH.trans (bel1 _ _)) (fun hH' => ?_)
              clear hK K hH
              have hH := hH'
              clear hH'
              try simp only [List.setIfInBounds_toArray, List.set]
              have hD : Hid ((y20v0n5.alloc (.cells #[.int .u64 0, .int .u64 0, .int .u64 0, .int .u64 0, .int .u64 0, .int .u64 0, .int .u64 0, .int .u64 0, .int .u64 0, .int .u64 0, .int .u64 0, .int .u64 0, .int .u64 0, .int .u64 0, .int .u64 0, .int .u64 0] 31)).there y20v0n5.heap.size 0 16) := there_new y20v0n5 16 #[.int .u64 0, .int .u64 0, .int .u64 0, .int .u64 0, .int .u64 0, .int .u64 0, .int .u64 0, .int .u64 0, .int .u64 0, .int .u64 0, .int .u64 0, .int .u64 0, .int .u64 0, .int .u64 0, .int .u64 0, .int .u64 0] rfl 31
              generalize y20v0n5.alloc (.cells #[.int .u64 0, .int .u64 0, .int .u64 0, .int .u64 0, .int .u64 0, .int .u64 0, .int .u64 0, .int .u64 0, .int .u64 0, .int .u64 0, .int .u64 0, .int .u64 0, .int .u64 0, .int .u64 0, .int .u64 0, .int .u64 0] 31) = x20v0n11 at *
              generalize y20v0n5.heap.size = bw at *
              refine wpAnyH_ready (rs := [4]) (by kernel_rfl) (by simp) ?_
              refine AllReadyH.cons (o := ?o420v0n12) ?h420v0n12 (fun K hK => ?_) AllReadyH.nil
              case h420v0n12 => simp only [List.getElem?_toArray]; rfl
              go_simp
              refine (rmul_el z68 z51 ((x3 + z3) % 57896044618658097711785492504343953926634992332820282019728792003956564819949) n13 (El.mod (x3 + z3)) en13 Hz68 Hz51 _ (Gp.later HG.out hH)).mono ?_
              rintro e y20v0n13 ⟨z70, rfl, Hz70, hb20v0n13⟩
              refine hK.out _ _ (hH.trans hb20v0n13) (fun hH' => ?_)
              clear hK K hH
              have hH := hH'
              clear hH'
              try simp only [List.setIfInBounds_toArray, List.set]
              replace hD : Hid (y20v0n13.there bw 0 16) := there_later hb20v0n13 hD.out
              clear hb20v0n13
              have hlw : z70.length = 16 := by rw [Hz70.out, dg_length]
              obtain ⟨hlenw, honew, hiw⟩ := no_cells hlw
              have HPw : Hid (z70 = dg 16 (fm (fa x3 z3) n13)) := by unfold Hid; rw [Hz70.out]; rfl
              have hWw : Hid (Wrd (y20v0n13.setCells bw 0 (List.map (Value.int .u64) z70)) bw z70) := wrd_store hD.out z70 hlw
              generalize (List.map (Value.int .u64) z70) = csw at *
              refine wpAnyH_ready (rs := [6]) (by kernel_rfl) (by simp) ?_
              refine AllReadyH.cons (o := ?o20v0n14) ?h20v0n14 (fun K hK => ?_) AllReadyH.nil
              case h20v0n14 => simp only [List.getElem?_toArray]; rfl
              refine wp_store_mid 31 (.tmp 18) (.tmp 70) rfl bw 0 csw.toArray rfl rfl (by simpa [hlenw] using hD.out) (by simpa using hiw) (all_oneCell_toArray honew) ?_
              refine hK.out _ _ (below_setCells _ (by omega) _ _ _ hH) (fun hH' => ?_)
              clear hK K hH
              have hH := hH'
              clear hH'
              try simp only [List.setIfInBounds_toArray, List.set]
              refine wpAnyH_done (by kernel_rfl) ?_ _
              refine NoPanic.normal ?_
              go_wp2_with fail
              go_meet
              case rel => exact ⟨bw, z70, rfl, HPw, hWw, hLw, hH⟩
          case c520v0n4 =>
            go_simp
            have hLw : W17v0.heap.size ≤ y0.heap.size := hH.size
            refine hK.out _ _ (hH.trans (bel1 _ _)) (fun hH' => ?_)
            clear hK K hH
            have hH := hH'
            clear hH'
            try simp only [List.setIfInBounds_toArray, List.set]
            have hD : Hid ((y0.alloc (.cells #[.int .u64 0, .int .u64 0, .int .u64 0, .int .u64 0, .int .u64 0, .int .u64 0, .int .u64 0, .int .u64 0, .int .u64 0, .int .u64 0, .int .u64 0, .int .u64 0, .int .u64 0, .int .u64 0, .int .u64 0, .int .u64 0] 31)).there y0.heap.size 0 16) := there_new y0 16 #[.int .u64 0, .int .u64 0, .int .u64 0, .int .u64 0, .int .u64 0, .int .u64 0, .int .u64 0, .int .u64 0, .int .u64 0, .int .u64 0, .int .u64 0, .int .u64 0, .int .u64 0, .int .u64 0, .int .u64 0, .int .u64 0] rfl 31
            generalize y0.alloc (.cells #[.int .u64 0, .int .u64 0, .int .u64 0, .int .u64 0, .int .u64 0, .int .u64 0, .int .u64 0, .int .u64 0, .int .u64 0, .int .u64 0, .int .u64 0, .int .u64 0, .int .u64 0, .int .u64 0, .int .u64 0, .int .u64 0] 31) = x20v0n15 at *
            generalize y0.heap.size = bw at *
            refine wpAnyH_ready (rs := [2]) (by kernel_rfl) (by simp) ?_
            refine AllReadyH.cons (o := ?o220v0n16) ?h220v0n16 (fun K hK => ?_) AllReadyH.nil
            case h220v0n16 => simp only [List.getElem?_toArray]; rfl
            go_simp
            refine (radd_el l8 l9 x3 z3 hx3 hz3 E8 E9 _ (Gp.later HG.out hH)).mono ?_
            rintro e y20v0n17 ⟨z68, rfl, Hz68, hb20v0n17⟩
            refine hK.out _ _ (hH.trans hb20v0n17) (fun hH' => ?_)
            clear hK K hH
            have hH := hH'
            clear hH'
            try simp only [List.setIfInBounds_toArray, List.set]
            replace hD : Hid (y20v0n17.there bw 0 16) := there_later hb20v0n17 hD.out
            clear hb20v0n17
            refine wpAnyH_ready (rs := [4]) (by kernel_rfl) (by simp) ?_
            refine AllReadyH.cons (o := ?o420v0n18) ?h420v0n18 (fun K hK => ?_) AllReadyH.nil
            case h420v0n18 => simp only [List.getElem?_toArray]; rfl
            go_simp
            refine (rmul_el z68 z51 ((x3 + z3) % 57896044618658097711785492504343953926634992332820282019728792003956564819949) n13 (El.mod (x3 + z3)) en13 Hz68 Hz51 _ (Gp.later HG.out hH)).mono ?_
            rintro e y20v0n19 ⟨z70, rfl, Hz70, hb20v0n19⟩
            refine hK.out _ _ (hH.trans hb20v0n19) (fun hH' => ?_)
            clear hK K hH
            have hH := hH'
            clear hH'
            try simp only [List.setIfInBounds_toArray, List.set]
            replace hD : Hid (y20v0n19.there bw 0 16) := there_later hb20v0n19 hD.out
            clear hb20v0n19
            have hlw : z70.length = 16 := by rw [Hz70.out, dg_length]
            obtain ⟨hlenw, honew, hiw⟩ := no_cells hlw
            have HPw : Hid (z70 = dg 16 (fm (fa x3 z3) n13)) := by unfold Hid; rw [Hz70.out]; rfl
            have hWw : Hid (Wrd (y20v0n19.setCells bw 0 (List.map (Value.int .u64) z70)) bw z70) := wrd_store hD.out z70 hlw
            generalize (List.map (Value.int .u64) z70) = csw at *
            refine wpAnyH_ready (rs := [6]) (by kernel_rfl) (by simp) ?_
            refine AllReadyH.cons (o := ?o20v0n20) ?h20v0n20 (fun K hK => ?_) AllReadyH.nil
            case h20v0n20 => simp only [List.getElem?_toArray]; rfl
            refine wp_store_mid 31 (.tmp 18) (.tmp 70) rfl bw 0 csw.toArray rfl rfl (by simpa [hlenw] using hD.out) (by simpa using hiw) (all_oneCell_toArray honew) ?_
            refine hK.out _ _ (below_setCells _ (by omega) _ _ _ hH) (fun hH' => ?_)
            clear hK K hH
            have hH := hH'
            clear hH'
            try simp only [List.setIfInBounds_toArray, List.set]
            refine wpAnyH_done (by kernel_rfl) ?_ _
            refine NoPanic.normal ?_
            go_wp2_with fail
            go_meet
            case rel => exact ⟨bw, z70, rfl, HPw, hWw, hLw, hH⟩
        obtain ⟨b18, z18l, rfl, Hz18l, N18, hge18, hX⟩ := hcut
        have hlz18 : z18l.length = 16 := by rw [Hz18l.out, dg_length]
        generalize wc = W18v0 at *
        replace A2 : Hid (Arr W18v0 (w.heap.size) (List.map (Value.int .u8) K)) := A2.out.later hX.out
        replace A4 : Hid (Arr W18v0 q2 (List.map (Value.int .u8) (List.replicate 32 0))) := A4.out.later hX.out
        replace N5 : Hid (Wrd W18v0 b5 l5) := N5.out.later hX.out
        replace N6 : Hid (Wrd W18v0 b6 l6) := N6.out.later hX.out
        replace N7 : Hid (Wrd W18v0 b7 l7) := N7.out.later hX.out
        replace N8 : Hid (Wrd W18v0 b8 l8) := N8.out.later hX.out
        replace N9 : Hid (Wrd W18v0 b9 l9) := N9.out.later hX.out
        replace N12 : Hid (Wrd W18v0 b12 z48) := N12.out.later hX.out
        replace N13 : Hid (Wrd W18v0 b13 z51) := N13.out.later hX.out
        replace N14 : Hid (Wrd W18v0 b14 z54) := N14.out.later hX.out
        replace N15 : Hid (Wrd W18v0 b15 z57) := N15.out.later hX.out
        replace N16 : Hid (Wrd W18v0 b16 z60) := N16.out.later hX.out
        replace N17 : Hid (Wrd W18v0 b17 z17l) := N17.out.later hX.out
        replace HG : Hid (Gp W18v0) := HG.out.later hX.out
        replace HB : Hid (Below w.heap.size w W18v0) := HB.out.trans (Below.mono hX.out HB.out.size)
        clear hX
        go_upto_region 21 with fail
        obtain ⟨n18, hn18⟩ : ∃ n : Int, n = (fm (fa x3 z3) n13) := ⟨_, rfl⟩
        have Hn18 : Hid (n18 = fm (fa x3 z3) n13) := hn18
        have en18 : El n18 := by rw [hn18]; exact (El.mod _)
        rw [← hn18] at Hz18l
        clear hn18
        refine wp_region_noPanic ?_
        refine wp_region_held_drew (S := ExtN b8 W18v0) (by kernel_rfl) (ExtN.of (Ext.refl _).drew) (fun hN => ?_)
        change wpAnyH _ _ _ _ _ _ #[false, false, false, false, false, false, false, false] _ _
        have hH : Ext W18v0 W18v0.drew := (Ext.refl _).drew
        generalize W18v0.drew = y21v0 at *
        refine wpAnyH_take (i := 0) (oi := ?o0s21v0_1) (v := .agg (List.map (Value.int .u64) z17l).toArray) ?h0s21v0_1 (by kernel_rfl) ?f0s21v0_1 ?r0s21v0_1 (fun _ _ _ h => h) ?y0s21v0_1 (by assumption) ?t0s21v0_1
        case h0s21v0_1 => simp only [List.getElem?_toArray]; rfl
        case f0s21v0_1 => kernel_rfl
        case r0s21v0_1 => kernel_rfl
        case y0s21v0_1 => exact yieldsIf_load_mid (by rfl) 31 (.tmp 17) rfl b17 0 rfl (List.map (Value.int .u64) z17l) _ (fun u hu => hu.range (by omega) N17.out.rng) Tryd.underlying31 rfl (no_cells hlz17).2.2
        try simp only [Act.put, List.setIfInBounds_toArray, List.set_cons_zero, List.set_cons_succ]
        refine wpAnyH_take (i := 1) (oi := ?o1s21v0_2) (v := .agg (List.map (Value.int .u64) z18l).toArray) ?h1s21v0_2 (by kernel_rfl) ?f1s21v0_2 ?r1s21v0_2 (fun _ _ _ h => h) ?y1s21v0_2 (by assumption) ?t1s21v0_2
        case h1s21v0_2 => simp only [List.getElem?_toArray]; rfl
        case f1s21v0_2 => kernel_rfl
        case r1s21v0_2 => kernel_rfl
        case y1s21v0_2 => exact yieldsIf_load_mid (by rfl) 31 (.tmp 18) rfl b18 0 rfl (List.map (Value.int .u64) z18l) _ (fun u hu => hu.range (by omega) N18.out.rng) Tryd.underlying31 rfl (no_cells hlz18).2.2
        try simp only [Act.put, List.setIfInBounds_toArray, List.set_cons_zero, List.set_cons_succ]
        refine wpAnyH_take (i := 3) (oi := ?o3s21v0_3) (v := .agg (List.map (Value.int .u64) z17l).toArray) ?h3s21v0_3 (by kernel_rfl) ?f3s21v0_3 ?r3s21v0_3 (fun _ _ _ h => h) ?y3s21v0_3 (by assumption) ?t3s21v0_3
        case h3s21v0_3 => simp only [List.getElem?_toArray]; rfl
        case f3s21v0_3 => kernel_rfl
        case r3s21v0_3 => kernel_rfl
        case y3s21v0_3 => exact yieldsIf_load_mid (by rfl) 31 (.tmp 17) rfl b17 0 rfl (List.map (Value.int .u64) z17l) _ (fun u hu => hu.range (by omega) N17.out.rng) Tryd.underlying31 rfl (no_cells hlz17).2.2
        try simp only [Act.put, List.setIfInBounds_toArray, List.set_cons_zero, List.set_cons_succ]
        refine wpAnyH_take (i := 4) (oi := ?o4s21v0_4) (v := .agg (List.map (Value.int .u64) z18l).toArray) ?h4s21v0_4 (by kernel_rfl) ?f4s21v0_4 ?r4s21v0_4 (fun _ _ _ h => h) ?y4s21v0_4 (by assumption) ?t4s21v0_4
        case h4s21v0_4 => simp only [List.getElem?_toArray]; rfl
        case f4s21v0_4 => kernel_rfl
        case r4s21v0_4 => kernel_rfl
        case y4s21v0_4 => exact yieldsIf_load_mid (by rfl) 31 (.tmp 18) rfl b18 0 rfl (List.map (Value.int .u64) z18l) _ (fun u hu => hu.range (by omega) N18.out.rng) Tryd.underlying31 rfl (no_cells hlz18).2.2
        try simp only [Act.put, List.setIfInBounds_toArray, List.set_cons_zero, List.set_cons_succ]
        refine wpAnyH_ready (rs := [2]) (by kernel_rfl) (by simp) ?_
        refine AllReadyH.cons (o := ?o2s21v0) ?h2s21v0 (fun K hK => ?_) AllReadyH.nil
        case h2s21v0 => simp only [List.getElem?_toArray]; rfl
        go_simp
        refine (radd_el z17l z18l n17 n18 en17 en18 Hz17l Hz18l _ (Gp.later HG.out hH)).mono ?_
        rintro e c21v0_2 ⟨z73, rfl, Hz73, hb21_2⟩
        replace hH : Ext W18v0 c21v0_2 := hH.trans hb21_2
        refine hK.out _ _ (ExtN.of hH) (fun hN' => ?_)
        clear hK K hN
        have hN := hN'
        clear hN'
        try simp only [List.setIfInBounds_toArray, List.set]
        clear hb21_2
        refine wpAnyH_ready (rs := [5]) (by kernel_rfl) (by simp) ?_
        refine AllReadyH.cons (o := ?o5s21v0) ?h5s21v0 (fun K hK => ?_) AllReadyH.nil
        case h5s21v0 => simp only [List.getElem?_toArray]; rfl
        go_simp
        refine (radd_el z17l z18l n17 n18 en17 en18 Hz17l Hz18l _ (Gp.later HG.out hH)).mono ?_
        rintro e c21v0_5 ⟨z76, rfl, Hz76, hb21_5⟩
        replace hH : Ext W18v0 c21v0_5 := hH.trans hb21_5
        refine hK.out _ _ (ExtN.of hH) (fun hN' => ?_)
        clear hK K hN
        have hN := hN'
        clear hN'
        try simp only [List.setIfInBounds_toArray, List.set]
        clear hb21_5
        refine wpAnyH_ready (rs := [6]) (by kernel_rfl) (by simp) ?_
        refine AllReadyH.cons (o := ?o6s21v0) ?h6s21v0 (fun K hK => ?_) AllReadyH.nil
        case h6s21v0 => simp only [List.getElem?_toArray]; rfl
        go_simp
        refine (rmul_el z73 z76 ((n17 + n18) % 57896044618658097711785492504343953926634992332820282019728792003956564819949) ((n17 + n18) % 57896044618658097711785492504343953926634992332820282019728792003956564819949) (El.mod (n17 + n18)) (El.mod (n17 + n18)) Hz73 Hz76 _ (Gp.later HG.out hH)).mono ?_
        rintro e c21v0_6 ⟨z77, rfl, Hz77, hb21_6⟩
        replace hH : Ext W18v0 c21v0_6 := hH.trans hb21_6
        refine hK.out _ _ (ExtN.of hH) (fun hN' => ?_)
        clear hK K hN
        have hN := hN'
        clear hN'
        try simp only [List.setIfInBounds_toArray, List.set]
        clear hb21_6
        replace A2 : Hid (Arr c21v0_6 (w.heap.size) (List.map (Value.int .u8) K)) := A2.out.later hH
        replace A4 : Hid (Arr c21v0_6 q2 (List.map (Value.int .u8) (List.replicate 32 0))) := A4.out.later hH
        replace N5 : Hid (Wrd c21v0_6 b5 l5) := N5.out.later hH
        replace N6 : Hid (Wrd c21v0_6 b6 l6) := N6.out.later hH
        replace N7 : Hid (Wrd c21v0_6 b7 l7) := N7.out.later hH
        replace N8 : Hid (Wrd c21v0_6 b8 l8) := N8.out.later hH
        replace N9 : Hid (Wrd c21v0_6 b9 l9) := N9.out.later hH
        replace N12 : Hid (Wrd c21v0_6 b12 z48) := N12.out.later hH
        replace N13 : Hid (Wrd c21v0_6 b13 z51) := N13.out.later hH
        replace N14 : Hid (Wrd c21v0_6 b14 z54) := N14.out.later hH
        replace N15 : Hid (Wrd c21v0_6 b15 z57) := N15.out.later hH
        replace N16 : Hid (Wrd c21v0_6 b16 z60) := N16.out.later hH
        replace N17 : Hid (Wrd c21v0_6 b17 z17l) := N17.out.later hH
        replace N18 : Hid (Wrd c21v0_6 b18 z18l) := N18.out.later hH
        replace HG : Hid (Gp c21v0_6) := HG.out.later hH
        replace HB : Hid (Below w.heap.size w c21v0_6) := HB.out.trans (Below.mono hH HB.out.size)
        have hls21v0 : z77.length = 16 := by rw [Hz77.out, dg_length]
        obtain ⟨hlenS, honeS, hiS⟩ := no_cells hls21v0
        have N5n : Hid (Wrd (c21v0_6.setCells b8 0 (List.map (Value.int .u64) z77)) b5 l5) := ⟨World.rangeAt_setCells_apart N5.out.rng _ _ _ (.inl (by omega)), World.there_setCells N5.out.all _ _ _⟩
        have N6n : Hid (Wrd (c21v0_6.setCells b8 0 (List.map (Value.int .u64) z77)) b6 l6) := ⟨World.rangeAt_setCells_apart N6.out.rng _ _ _ (.inl (by omega)), World.there_setCells N6.out.all _ _ _⟩
        have N7n : Hid (Wrd (c21v0_6.setCells b8 0 (List.map (Value.int .u64) z77)) b7 l7) := ⟨World.rangeAt_setCells_apart N7.out.rng _ _ _ (.inl (by omega)), World.there_setCells N7.out.all _ _ _⟩
        have N8n : Hid (Wrd (c21v0_6.setCells b8 0 (List.map (Value.int .u64) z77)) b8 z77) := wrd_store N8.out.all z77 hls21v0
        have N9n : Hid (Wrd (c21v0_6.setCells b8 0 (List.map (Value.int .u64) z77)) b9 l9) := ⟨World.rangeAt_setCells_apart N9.out.rng _ _ _ (.inl (by omega)), World.there_setCells N9.out.all _ _ _⟩
        have N12n : Hid (Wrd (c21v0_6.setCells b8 0 (List.map (Value.int .u64) z77)) b12 z48) := ⟨World.rangeAt_setCells_apart N12.out.rng _ _ _ (.inl (by omega)), World.there_setCells N12.out.all _ _ _⟩
        have N13n : Hid (Wrd (c21v0_6.setCells b8 0 (List.map (Value.int .u64) z77)) b13 z51) := ⟨World.rangeAt_setCells_apart N13.out.rng _ _ _ (.inl (by omega)), World.there_setCells N13.out.all _ _ _⟩
        have N14n : Hid (Wrd (c21v0_6.setCells b8 0 (List.map (Value.int .u64) z77)) b14 z54) := ⟨World.rangeAt_setCells_apart N14.out.rng _ _ _ (.inl (by omega)), World.there_setCells N14.out.all _ _ _⟩
        have N15n : Hid (Wrd (c21v0_6.setCells b8 0 (List.map (Value.int .u64) z77)) b15 z57) := ⟨World.rangeAt_setCells_apart N15.out.rng _ _ _ (.inl (by omega)), World.there_setCells N15.out.all _ _ _⟩
        have N16n : Hid (Wrd (c21v0_6.setCells b8 0 (List.map (Value.int .u64) z77)) b16 z60) := ⟨World.rangeAt_setCells_apart N16.out.rng _ _ _ (.inl (by omega)), World.there_setCells N16.out.all _ _ _⟩
        have N17n : Hid (Wrd (c21v0_6.setCells b8 0 (List.map (Value.int .u64) z77)) b17 z17l) := ⟨World.rangeAt_setCells_apart N17.out.rng _ _ _ (.inl (by omega)), World.there_setCells N17.out.all _ _ _⟩
        have N18n : Hid (Wrd (c21v0_6.setCells b8 0 (List.map (Value.int .u64) z77)) b18 z18l) := ⟨World.rangeAt_setCells_apart N18.out.rng _ _ _ (.inl (by omega)), World.there_setCells N18.out.all _ _ _⟩
        have A2n : Hid (Arr (c21v0_6.setCells b8 0 (List.map (Value.int .u64) z77)) (w.heap.size) (List.map (Value.int .u8) K)) := ⟨World.rangeAt_setCells_apart A2.out.rng _ _ _ (.inl (by omega)), World.there_setCells A2.out.all _ _ _⟩
        have A4n : Hid (Arr (c21v0_6.setCells b8 0 (List.map (Value.int .u64) z77)) q2 (List.map (Value.int .u8) (List.replicate 32 0))) := ⟨World.rangeAt_setCells_apart A4.out.rng _ _ _ (.inl (by omega)), World.there_setCells A4.out.all _ _ _⟩
        have HGn : Hid (Gp (c21v0_6.setCells b8 0 (List.map (Value.int .u64) z77))) := World.rangeAt_setCells_apart HG.out _ _ _ (.inl (by omega))
        have HBn : Hid (Below w.heap.size w (c21v0_6.setCells b8 0 (List.map (Value.int .u64) z77))) := below_setCells _ (by omega) _ _ _ HB.out
        have hthS : Hid (c21v0_6.there b8 0 16) := N8.out.all
        refine wpAnyH_ready (rs := [7]) (by kernel_rfl) (by simp) ?_
        refine AllReadyH.cons (o := ?oz21v0) ?hz21v0 (fun K hK => ?_) AllReadyH.nil
        case hz21v0 => simp only [List.getElem?_toArray]; rfl
        refine wp_store_mid 31 (.tmp 8) (.tmp 77) rfl b8 0 (List.map (Value.int .u64) z77).toArray rfl rfl (by simpa [hlenS] using hthS.out) (by simpa using hiS) (all_oneCell_toArray honeS) ?_
        refine hK.out _ _ (ExtN.setCells _ 0 _ (ExtN.of hH)) (fun hN' => ?_)
        clear hK K hN hN' hH
        try simp only [List.setIfInBounds_toArray, List.set]
        refine wpAnyH_done (by kernel_rfl) ?_ _
        refine NoPanic.normal ?_
        go_upto_region 22 with fail
        clear hlenS honeS hiS hthS HB HG A2 A4 N5 N6 N7 N8 N9 N12 N13 N14 N15 N16 N17 N18
        generalize c21v0_6.setCells b8 0 (List.map (Value.int .u64) z77) = Y1v0 at *
        have A2 := A2n
        clear A2n
        have A4 := A4n
        clear A4n
        have N5 := N5n
        clear N5n
        have N6 := N6n
        clear N6n
        have N7 := N7n
        clear N7n
        have N8 := N8n
        clear N8n
        have N9 := N9n
        clear N9n
        have N12 := N12n
        clear N12n
        have N13 := N13n
        clear N13n
        have N14 := N14n
        clear N14n
        have N15 := N15n
        clear N15n
        have N16 := N16n
        clear N16n
        have N17 := N17n
        clear N17n
        have N18 := N18n
        clear N18n
        have HG := HGn
        clear HGn
        have HB := HBn
        clear HBn
        obtain ⟨n8, hn8⟩ : ∃ n : Int, n = (((n17 + n18) % 57896044618658097711785492504343953926634992332820282019728792003956564819949) * ((n17 + n18) % 57896044618658097711785492504343953926634992332820282019728792003956564819949) % 57896044618658097711785492504343953926634992332820282019728792003956564819949) := ⟨_, rfl⟩
        have Hn8 : Hid (n8 = YtggjifpcoidipaaDoor.sq (fa n17 n18)) := hn8
        have en8 : El n8 := by rw [hn8]; exact (El.mod (((n17 + n18) % 57896044618658097711785492504343953926634992332820282019728792003956564819949) * ((n17 + n18) % 57896044618658097711785492504343953926634992332820282019728792003956564819949)))
        rw [← hn8] at Hz77
        clear hn8
        refine wp_region_noPanic ?_
        refine wp_region_held_drew (S := ExtN b9 Y1v0) (by kernel_rfl) (ExtN.of (Ext.refl _).drew) (fun hN => ?_)
        change wpAnyH _ _ _ _ _ _ #[false, false, false, false, false, false, false, false, false, false] _ _
        have hH : Ext Y1v0 Y1v0.drew := (Ext.refl _).drew
        generalize Y1v0.drew = y22v0 at *
        refine wpAnyH_take (i := 0) (oi := ?o0s22v0_1) (v := .agg (List.map (Value.int .u64) l5).toArray) ?h0s22v0_1 (by kernel_rfl) ?f0s22v0_1 ?r0s22v0_1 (fun _ _ _ h => h) ?y0s22v0_1 (by assumption) ?t0s22v0_1
        case h0s22v0_1 => simp only [List.getElem?_toArray]; rfl
        case f0s22v0_1 => kernel_rfl
        case r0s22v0_1 => kernel_rfl
        case y0s22v0_1 => exact yieldsIf_load_mid (by rfl) 31 (.tmp 5) rfl b5 0 rfl (List.map (Value.int .u64) l5) _ (fun u hu => hu.range (by omega) N5.out.rng) Tryd.underlying31 rfl (no_cells hl5).2.2
        try simp only [Act.put, List.setIfInBounds_toArray, List.set_cons_zero, List.set_cons_succ]
        refine wpAnyH_take (i := 1) (oi := ?o1s22v0_2) (v := .agg (List.map (Value.int .u64) z17l).toArray) ?h1s22v0_2 (by kernel_rfl) ?f1s22v0_2 ?r1s22v0_2 (fun _ _ _ h => h) ?y1s22v0_2 (by assumption) ?t1s22v0_2
        case h1s22v0_2 => simp only [List.getElem?_toArray]; rfl
        case f1s22v0_2 => kernel_rfl
        case r1s22v0_2 => kernel_rfl
        case y1s22v0_2 => exact yieldsIf_load_mid (by rfl) 31 (.tmp 17) rfl b17 0 rfl (List.map (Value.int .u64) z17l) _ (fun u hu => hu.range (by omega) N17.out.rng) Tryd.underlying31 rfl (no_cells hlz17).2.2
        try simp only [Act.put, List.setIfInBounds_toArray, List.set_cons_zero, List.set_cons_succ]
        refine wpAnyH_take (i := 2) (oi := ?o2s22v0_3) (v := .agg (List.map (Value.int .u64) z18l).toArray) ?h2s22v0_3 (by kernel_rfl) ?f2s22v0_3 ?r2s22v0_3 (fun _ _ _ h => h) ?y2s22v0_3 (by assumption) ?t2s22v0_3
        case h2s22v0_3 => simp only [List.getElem?_toArray]; rfl
        case f2s22v0_3 => kernel_rfl
        case r2s22v0_3 => kernel_rfl
        case y2s22v0_3 => exact yieldsIf_load_mid (by rfl) 31 (.tmp 18) rfl b18 0 rfl (List.map (Value.int .u64) z18l) _ (fun u hu => hu.range (by omega) N18.out.rng) Tryd.underlying31 rfl (no_cells hlz18).2.2
        try simp only [Act.put, List.setIfInBounds_toArray, List.set_cons_zero, List.set_cons_succ]
        refine wpAnyH_take (i := 4) (oi := ?o4s22v0_4) (v := .agg (List.map (Value.int .u64) z17l).toArray) ?h4s22v0_4 (by kernel_rfl) ?f4s22v0_4 ?r4s22v0_4 (fun _ _ _ h => h) ?y4s22v0_4 (by assumption) ?t4s22v0_4
        case h4s22v0_4 => simp only [List.getElem?_toArray]; rfl
        case f4s22v0_4 => kernel_rfl
        case r4s22v0_4 => kernel_rfl
        case y4s22v0_4 => exact yieldsIf_load_mid (by rfl) 31 (.tmp 17) rfl b17 0 rfl (List.map (Value.int .u64) z17l) _ (fun u hu => hu.range (by omega) N17.out.rng) Tryd.underlying31 rfl (no_cells hlz17).2.2
        try simp only [Act.put, List.setIfInBounds_toArray, List.set_cons_zero, List.set_cons_succ]
        refine wpAnyH_take (i := 5) (oi := ?o5s22v0_5) (v := .agg (List.map (Value.int .u64) z18l).toArray) ?h5s22v0_5 (by kernel_rfl) ?f5s22v0_5 ?r5s22v0_5 (fun _ _ _ h => h) ?y5s22v0_5 (by assumption) ?t5s22v0_5
        case h5s22v0_5 => simp only [List.getElem?_toArray]; rfl
        case f5s22v0_5 => kernel_rfl
        case r5s22v0_5 => kernel_rfl
        case y5s22v0_5 => exact yieldsIf_load_mid (by rfl) 31 (.tmp 18) rfl b18 0 rfl (List.map (Value.int .u64) z18l) _ (fun u hu => hu.range (by omega) N18.out.rng) Tryd.underlying31 rfl (no_cells hlz18).2.2
        try simp only [Act.put, List.setIfInBounds_toArray, List.set_cons_zero, List.set_cons_succ]
        refine wpAnyH_ready (rs := [3]) (by kernel_rfl) (by simp) ?_
        refine AllReadyH.cons (o := ?o3s22v0) ?h3s22v0 (fun K hK => ?_) AllReadyH.nil
        case h3s22v0 => simp only [List.getElem?_toArray]; rfl
        go_simp
        refine (rsub_el z17l z18l n17 n18 en17 en18 Hz17l Hz18l _ (Gp.later HG.out hH)).mono ?_
        rintro e c22v0_3 ⟨z81, rfl, Hz81, hb22_3⟩
        replace hH : Ext Y1v0 c22v0_3 := hH.trans hb22_3
        refine hK.out _ _ (ExtN.of hH) (fun hN' => ?_)
        clear hK K hN
        have hN := hN'
        clear hN'
        try simp only [List.setIfInBounds_toArray, List.set]
        clear hb22_3
        refine wpAnyH_ready (rs := [6]) (by kernel_rfl) (by simp) ?_
        refine AllReadyH.cons (o := ?o6s22v0) ?h6s22v0 (fun K hK => ?_) AllReadyH.nil
        case h6s22v0 => simp only [List.getElem?_toArray]; rfl
        go_simp
        refine (rsub_el z17l z18l n17 n18 en17 en18 Hz17l Hz18l _ (Gp.later HG.out hH)).mono ?_
        rintro e c22v0_6 ⟨z84, rfl, Hz84, hb22_6⟩
        replace hH : Ext Y1v0 c22v0_6 := hH.trans hb22_6
        refine hK.out _ _ (ExtN.of hH) (fun hN' => ?_)
        clear hK K hN
        have hN := hN'
        clear hN'
        try simp only [List.setIfInBounds_toArray, List.set]
        clear hb22_6
        refine wpAnyH_ready (rs := [7]) (by kernel_rfl) (by simp) ?_
        refine AllReadyH.cons (o := ?o7s22v0) ?h7s22v0 (fun K hK => ?_) AllReadyH.nil
        case h7s22v0 => simp only [List.getElem?_toArray]; rfl
        go_simp
        refine (rmul_el z81 z84 ((n17 - n18) % 57896044618658097711785492504343953926634992332820282019728792003956564819949) ((n17 - n18) % 57896044618658097711785492504343953926634992332820282019728792003956564819949) (El.mod (n17 - n18)) (El.mod (n17 - n18)) Hz81 Hz84 _ (Gp.later HG.out hH)).mono ?_
        rintro e c22v0_7 ⟨z85, rfl, Hz85, hb22_7⟩
        replace hH : Ext Y1v0 c22v0_7 := hH.trans hb22_7
        refine hK.out _ _ (ExtN.of hH) (fun hN' => ?_)
        clear hK K hN
        have hN := hN'
        clear hN'
        try simp only [List.setIfInBounds_toArray, List.set]
        clear hb22_7
        refine wpAnyH_ready (rs := [8]) (by kernel_rfl) (by simp) ?_
        refine AllReadyH.cons (o := ?o8s22v0) ?h8s22v0 (fun K hK => ?_) AllReadyH.nil
        case h8s22v0 => simp only [List.getElem?_toArray]; rfl
        go_simp
        refine (rmul_el l5 z85 s1 (((n17 - n18) % 57896044618658097711785492504343953926634992332820282019728792003956564819949) * ((n17 - n18) % 57896044618658097711785492504343953926634992332820282019728792003956564819949) % 57896044618658097711785492504343953926634992332820282019728792003956564819949) he1 (El.mod (((n17 - n18) % 57896044618658097711785492504343953926634992332820282019728792003956564819949) * ((n17 - n18) % 57896044618658097711785492504343953926634992332820282019728792003956564819949))) H5 Hz85 _ (Gp.later HG.out hH)).mono ?_
        rintro e c22v0_8 ⟨z86, rfl, Hz86, hb22_8⟩
        replace hH : Ext Y1v0 c22v0_8 := hH.trans hb22_8
        refine hK.out _ _ (ExtN.of hH) (fun hN' => ?_)
        clear hK K hN
        have hN := hN'
        clear hN'
        try simp only [List.setIfInBounds_toArray, List.set]
        clear hb22_8
        replace A2 : Hid (Arr c22v0_8 (w.heap.size) (List.map (Value.int .u8) K)) := A2.out.later hH
        replace A4 : Hid (Arr c22v0_8 q2 (List.map (Value.int .u8) (List.replicate 32 0))) := A4.out.later hH
        replace N5 : Hid (Wrd c22v0_8 b5 l5) := N5.out.later hH
        replace N6 : Hid (Wrd c22v0_8 b6 l6) := N6.out.later hH
        replace N7 : Hid (Wrd c22v0_8 b7 l7) := N7.out.later hH
        replace N8 : Hid (Wrd c22v0_8 b8 z77) := N8.out.later hH
        replace N9 : Hid (Wrd c22v0_8 b9 l9) := N9.out.later hH
        replace N12 : Hid (Wrd c22v0_8 b12 z48) := N12.out.later hH
        replace N13 : Hid (Wrd c22v0_8 b13 z51) := N13.out.later hH
        replace N14 : Hid (Wrd c22v0_8 b14 z54) := N14.out.later hH
        replace N15 : Hid (Wrd c22v0_8 b15 z57) := N15.out.later hH
        replace N16 : Hid (Wrd c22v0_8 b16 z60) := N16.out.later hH
        replace N17 : Hid (Wrd c22v0_8 b17 z17l) := N17.out.later hH
        replace N18 : Hid (Wrd c22v0_8 b18 z18l) := N18.out.later hH
        replace HG : Hid (Gp c22v0_8) := HG.out.later hH
        replace HB : Hid (Below w.heap.size w c22v0_8) := HB.out.trans (Below.mono hH HB.out.size)
        have hls22v0 : z86.length = 16 := by rw [Hz86.out, dg_length]
        obtain ⟨hlenS, honeS, hiS⟩ := no_cells hls22v0
        have N5n : Hid (Wrd (c22v0_8.setCells b9 0 (List.map (Value.int .u64) z86)) b5 l5) := ⟨World.rangeAt_setCells_apart N5.out.rng _ _ _ (.inl (by omega)), World.there_setCells N5.out.all _ _ _⟩
        have N6n : Hid (Wrd (c22v0_8.setCells b9 0 (List.map (Value.int .u64) z86)) b6 l6) := ⟨World.rangeAt_setCells_apart N6.out.rng _ _ _ (.inl (by omega)), World.there_setCells N6.out.all _ _ _⟩
        have N7n : Hid (Wrd (c22v0_8.setCells b9 0 (List.map (Value.int .u64) z86)) b7 l7) := ⟨World.rangeAt_setCells_apart N7.out.rng _ _ _ (.inl (by omega)), World.there_setCells N7.out.all _ _ _⟩
        have N8n : Hid (Wrd (c22v0_8.setCells b9 0 (List.map (Value.int .u64) z86)) b8 z77) := ⟨World.rangeAt_setCells_apart N8.out.rng _ _ _ (.inl (by omega)), World.there_setCells N8.out.all _ _ _⟩
        have N9n : Hid (Wrd (c22v0_8.setCells b9 0 (List.map (Value.int .u64) z86)) b9 z86) := wrd_store N9.out.all z86 hls22v0
        have N12n : Hid (Wrd (c22v0_8.setCells b9 0 (List.map (Value.int .u64) z86)) b12 z48) := ⟨World.rangeAt_setCells_apart N12.out.rng _ _ _ (.inl (by omega)), World.there_setCells N12.out.all _ _ _⟩
        have N13n : Hid (Wrd (c22v0_8.setCells b9 0 (List.map (Value.int .u64) z86)) b13 z51) := ⟨World.rangeAt_setCells_apart N13.out.rng _ _ _ (.inl (by omega)), World.there_setCells N13.out.all _ _ _⟩
        have N14n : Hid (Wrd (c22v0_8.setCells b9 0 (List.map (Value.int .u64) z86)) b14 z54) := ⟨World.rangeAt_setCells_apart N14.out.rng _ _ _ (.inl (by omega)), World.there_setCells N14.out.all _ _ _⟩
        have N15n : Hid (Wrd (c22v0_8.setCells b9 0 (List.map (Value.int .u64) z86)) b15 z57) := ⟨World.rangeAt_setCells_apart N15.out.rng _ _ _ (.inl (by omega)), World.there_setCells N15.out.all _ _ _⟩
        have N16n : Hid (Wrd (c22v0_8.setCells b9 0 (List.map (Value.int .u64) z86)) b16 z60) := ⟨World.rangeAt_setCells_apart N16.out.rng _ _ _ (.inl (by omega)), World.there_setCells N16.out.all _ _ _⟩
        have N17n : Hid (Wrd (c22v0_8.setCells b9 0 (List.map (Value.int .u64) z86)) b17 z17l) := ⟨World.rangeAt_setCells_apart N17.out.rng _ _ _ (.inl (by omega)), World.there_setCells N17.out.all _ _ _⟩
        have N18n : Hid (Wrd (c22v0_8.setCells b9 0 (List.map (Value.int .u64) z86)) b18 z18l) := ⟨World.rangeAt_setCells_apart N18.out.rng _ _ _ (.inl (by omega)), World.there_setCells N18.out.all _ _ _⟩
        have A2n : Hid (Arr (c22v0_8.setCells b9 0 (List.map (Value.int .u64) z86)) (w.heap.size) (List.map (Value.int .u8) K)) := ⟨World.rangeAt_setCells_apart A2.out.rng _ _ _ (.inl (by omega)), World.there_setCells A2.out.all _ _ _⟩
        have A4n : Hid (Arr (c22v0_8.setCells b9 0 (List.map (Value.int .u64) z86)) q2 (List.map (Value.int .u8) (List.replicate 32 0))) := ⟨World.rangeAt_setCells_apart A4.out.rng _ _ _ (.inl (by omega)), World.there_setCells A4.out.all _ _ _⟩
        have HGn : Hid (Gp (c22v0_8.setCells b9 0 (List.map (Value.int .u64) z86))) := World.rangeAt_setCells_apart HG.out _ _ _ (.inl (by omega))
        have HBn : Hid (Below w.heap.size w (c22v0_8.setCells b9 0 (List.map (Value.int .u64) z86))) := below_setCells _ (by omega) _ _ _ HB.out
        have hthS : Hid (c22v0_8.there b9 0 16) := N9.out.all
        refine wpAnyH_ready (rs := [9]) (by kernel_rfl) (by simp) ?_
        refine AllReadyH.cons (o := ?oz22v0) ?hz22v0 (fun K hK => ?_) AllReadyH.nil
        case hz22v0 => simp only [List.getElem?_toArray]; rfl
        refine wp_store_mid 31 (.tmp 9) (.tmp 86) rfl b9 0 (List.map (Value.int .u64) z86).toArray rfl rfl (by simpa [hlenS] using hthS.out) (by simpa using hiS) (all_oneCell_toArray honeS) ?_
        refine hK.out _ _ (ExtN.setCells _ 0 _ (ExtN.of hH)) (fun hN' => ?_)
        clear hK K hN hN' hH
        try simp only [List.setIfInBounds_toArray, List.set]
        refine wpAnyH_done (by kernel_rfl) ?_ _
        refine NoPanic.normal ?_
        go_upto_region 23 with fail
        clear hlenS honeS hiS hthS HB HG A2 A4 N5 N6 N7 N8 N9 N12 N13 N14 N15 N16 N17 N18
        generalize c22v0_8.setCells b9 0 (List.map (Value.int .u64) z86) = Y2v0 at *
        have A2 := A2n
        clear A2n
        have A4 := A4n
        clear A4n
        have N5 := N5n
        clear N5n
        have N6 := N6n
        clear N6n
        have N7 := N7n
        clear N7n
        have N8 := N8n
        clear N8n
        have N9 := N9n
        clear N9n
        have N12 := N12n
        clear N12n
        have N13 := N13n
        clear N13n
        have N14 := N14n
        clear N14n
        have N15 := N15n
        clear N15n
        have N16 := N16n
        clear N16n
        have N17 := N17n
        clear N17n
        have N18 := N18n
        clear N18n
        have HG := HGn
        clear HGn
        have HB := HBn
        clear HBn
        obtain ⟨n9, hn9⟩ : ∃ n : Int, n = (s1 * (((n17 - n18) % 57896044618658097711785492504343953926634992332820282019728792003956564819949) * ((n17 - n18) % 57896044618658097711785492504343953926634992332820282019728792003956564819949) % 57896044618658097711785492504343953926634992332820282019728792003956564819949) % 57896044618658097711785492504343953926634992332820282019728792003956564819949) := ⟨_, rfl⟩
        have Hn9 : Hid (n9 = fm s1 (YtggjifpcoidipaaDoor.sq (fs n17 n18))) := hn9
        have en9 : El n9 := by rw [hn9]; exact (El.mod (s1 * (((n17 - n18) % 57896044618658097711785492504343953926634992332820282019728792003956564819949) * ((n17 - n18) % 57896044618658097711785492504343953926634992332820282019728792003956564819949) % 57896044618658097711785492504343953926634992332820282019728792003956564819949)))
        rw [← hn9] at Hz86
        clear hn9
        go_wp2_with (first | (refine wpList_load_mid rfl 31 (.tmp 14) rfl b14 0 rfl (List.map (Value.int .u64) z54) _ N14.out.rng Tryd.underlying31 rfl (no_cells hlz14).2.2 ?_) | (refine wpList_load_mid rfl 31 (.tmp 15) rfl b15 0 rfl (List.map (Value.int .u64) z57) _ N15.out.rng Tryd.underlying31 rfl (no_cells hlz15).2.2 ?_))
        refine (rmul_el z54 z57 n14 n15 en14 en15 Hz54 Hz57 _ HG.out).mono ?_
        rintro e u23v0_0 ⟨z89, rfl, Hz89, hb23_0⟩
        have hc23_1 : Hid (Below Y2v0.heap.size Y2v0 u23v0_0) := hb23_0
        clear hb23_0
        replace A2 : Hid (Arr u23v0_0 (w.heap.size) (List.map (Value.int .u8) K)) := A2.out.later hc23_1.out
        replace A4 : Hid (Arr u23v0_0 q2 (List.map (Value.int .u8) (List.replicate 32 0))) := A4.out.later hc23_1.out
        replace N5 : Hid (Wrd u23v0_0 b5 l5) := N5.out.later hc23_1.out
        replace N6 : Hid (Wrd u23v0_0 b6 l6) := N6.out.later hc23_1.out
        replace N7 : Hid (Wrd u23v0_0 b7 l7) := N7.out.later hc23_1.out
        replace N8 : Hid (Wrd u23v0_0 b8 z77) := N8.out.later hc23_1.out
        replace N9 : Hid (Wrd u23v0_0 b9 z86) := N9.out.later hc23_1.out
        replace N12 : Hid (Wrd u23v0_0 b12 z48) := N12.out.later hc23_1.out
        replace N13 : Hid (Wrd u23v0_0 b13 z51) := N13.out.later hc23_1.out
        replace N14 : Hid (Wrd u23v0_0 b14 z54) := N14.out.later hc23_1.out
        replace N15 : Hid (Wrd u23v0_0 b15 z57) := N15.out.later hc23_1.out
        replace N16 : Hid (Wrd u23v0_0 b16 z60) := N16.out.later hc23_1.out
        replace N17 : Hid (Wrd u23v0_0 b17 z17l) := N17.out.later hc23_1.out
        replace N18 : Hid (Wrd u23v0_0 b18 z18l) := N18.out.later hc23_1.out
        replace HG : Hid (Gp u23v0_0) := HG.out.later hc23_1.out
        replace HB : Hid (Below w.heap.size w u23v0_0) := HB.out.trans (Below.mono hc23_1.out HB.out.size)
        clear hc23_1
        have hls23v0 : z89.length = 16 := by rw [Hz89.out, dg_length]
        obtain ⟨hlenS, honeS, hiS⟩ := no_cells hls23v0
        have N5n : Hid (Wrd (u23v0_0.setCells b6 0 (List.map (Value.int .u64) z89)) b5 l5) := ⟨World.rangeAt_setCells_apart N5.out.rng _ _ _ (.inl (by omega)), World.there_setCells N5.out.all _ _ _⟩
        have N6n : Hid (Wrd (u23v0_0.setCells b6 0 (List.map (Value.int .u64) z89)) b6 z89) := wrd_store N6.out.all z89 hls23v0
        have N7n : Hid (Wrd (u23v0_0.setCells b6 0 (List.map (Value.int .u64) z89)) b7 l7) := ⟨World.rangeAt_setCells_apart N7.out.rng _ _ _ (.inl (by omega)), World.there_setCells N7.out.all _ _ _⟩
        have N8n : Hid (Wrd (u23v0_0.setCells b6 0 (List.map (Value.int .u64) z89)) b8 z77) := ⟨World.rangeAt_setCells_apart N8.out.rng _ _ _ (.inl (by omega)), World.there_setCells N8.out.all _ _ _⟩
        have N9n : Hid (Wrd (u23v0_0.setCells b6 0 (List.map (Value.int .u64) z89)) b9 z86) := ⟨World.rangeAt_setCells_apart N9.out.rng _ _ _ (.inl (by omega)), World.there_setCells N9.out.all _ _ _⟩
        have N12n : Hid (Wrd (u23v0_0.setCells b6 0 (List.map (Value.int .u64) z89)) b12 z48) := ⟨World.rangeAt_setCells_apart N12.out.rng _ _ _ (.inl (by omega)), World.there_setCells N12.out.all _ _ _⟩
        have N13n : Hid (Wrd (u23v0_0.setCells b6 0 (List.map (Value.int .u64) z89)) b13 z51) := ⟨World.rangeAt_setCells_apart N13.out.rng _ _ _ (.inl (by omega)), World.there_setCells N13.out.all _ _ _⟩
        have N14n : Hid (Wrd (u23v0_0.setCells b6 0 (List.map (Value.int .u64) z89)) b14 z54) := ⟨World.rangeAt_setCells_apart N14.out.rng _ _ _ (.inl (by omega)), World.there_setCells N14.out.all _ _ _⟩
        have N15n : Hid (Wrd (u23v0_0.setCells b6 0 (List.map (Value.int .u64) z89)) b15 z57) := ⟨World.rangeAt_setCells_apart N15.out.rng _ _ _ (.inl (by omega)), World.there_setCells N15.out.all _ _ _⟩
        have N16n : Hid (Wrd (u23v0_0.setCells b6 0 (List.map (Value.int .u64) z89)) b16 z60) := ⟨World.rangeAt_setCells_apart N16.out.rng _ _ _ (.inl (by omega)), World.there_setCells N16.out.all _ _ _⟩
        have N17n : Hid (Wrd (u23v0_0.setCells b6 0 (List.map (Value.int .u64) z89)) b17 z17l) := ⟨World.rangeAt_setCells_apart N17.out.rng _ _ _ (.inl (by omega)), World.there_setCells N17.out.all _ _ _⟩
        have N18n : Hid (Wrd (u23v0_0.setCells b6 0 (List.map (Value.int .u64) z89)) b18 z18l) := ⟨World.rangeAt_setCells_apart N18.out.rng _ _ _ (.inl (by omega)), World.there_setCells N18.out.all _ _ _⟩
        have A2n : Hid (Arr (u23v0_0.setCells b6 0 (List.map (Value.int .u64) z89)) (w.heap.size) (List.map (Value.int .u8) K)) := ⟨World.rangeAt_setCells_apart A2.out.rng _ _ _ (.inl (by omega)), World.there_setCells A2.out.all _ _ _⟩
        have A4n : Hid (Arr (u23v0_0.setCells b6 0 (List.map (Value.int .u64) z89)) q2 (List.map (Value.int .u8) (List.replicate 32 0))) := ⟨World.rangeAt_setCells_apart A4.out.rng _ _ _ (.inl (by omega)), World.there_setCells A4.out.all _ _ _⟩
        have HGn : Hid (Gp (u23v0_0.setCells b6 0 (List.map (Value.int .u64) z89))) := World.rangeAt_setCells_apart HG.out _ _ _ (.inl (by omega))
        have HBn : Hid (Below w.heap.size w (u23v0_0.setCells b6 0 (List.map (Value.int .u64) z89))) := below_setCells _ (by omega) _ _ _ HB.out
        have hthS : Hid (u23v0_0.there b6 0 16) := N6.out.all
        go_upto_region 24 with (refine wpList_store_mid rfl 31 (.tmp 6) (.tmp 89) rfl b6 0 (List.map (Value.int .u64) z89).toArray rfl rfl (by simpa [hlenS] using hthS.out) (by simpa using hiS) (all_oneCell_toArray honeS) ?_)
        clear hlenS honeS hiS hthS HB HG A2 A4 N5 N6 N7 N8 N9 N12 N13 N14 N15 N16 N17 N18
        generalize u23v0_0.setCells b6 0 (List.map (Value.int .u64) z89) = Y3v0 at *
        have A2 := A2n
        clear A2n
        have A4 := A4n
        clear A4n
        have N5 := N5n
        clear N5n
        have N6 := N6n
        clear N6n
        have N7 := N7n
        clear N7n
        have N8 := N8n
        clear N8n
        have N9 := N9n
        clear N9n
        have N12 := N12n
        clear N12n
        have N13 := N13n
        clear N13n
        have N14 := N14n
        clear N14n
        have N15 := N15n
        clear N15n
        have N16 := N16n
        clear N16n
        have N17 := N17n
        clear N17n
        have N18 := N18n
        clear N18n
        have HG := HGn
        clear HGn
        have HB := HBn
        clear HBn
        obtain ⟨n6, hn6⟩ : ∃ n : Int, n = (n14 * n15 % 57896044618658097711785492504343953926634992332820282019728792003956564819949) := ⟨_, rfl⟩
        have Hn6 : Hid (n6 = fm n14 n15) := hn6
        have en6 : El n6 := by rw [hn6]; exact (El.mod (n14 * n15))
        rw [← hn6] at Hz89
        clear hn6
        refine wp_region_noPanic ?_
        refine wp_region_held_drew (S := ExtN b7 Y3v0) (by kernel_rfl) (ExtN.of (Ext.refl _).drew) (fun hN => ?_)
        change wpAnyH _ _ _ _ _ _ #[false, false, false, false, false, false, false, false] _ _
        have hH : Ext Y3v0 Y3v0.drew := (Ext.refl _).drew
        generalize Y3v0.drew = y24v0 at *
        refine wpAnyH_take (i := 0) (oi := ?o0s24v0_1) (v := .agg (List.map (Value.int .u64) z60).toArray) ?h0s24v0_1 (by kernel_rfl) ?f0s24v0_1 ?r0s24v0_1 (fun _ _ _ h => h) ?y0s24v0_1 (by assumption) ?t0s24v0_1
        case h0s24v0_1 => simp only [List.getElem?_toArray]; rfl
        case f0s24v0_1 => kernel_rfl
        case r0s24v0_1 => kernel_rfl
        case y0s24v0_1 => exact yieldsIf_load_mid (by rfl) 31 (.tmp 16) rfl b16 0 rfl (List.map (Value.int .u64) z60) _ (fun u hu => hu.range (by omega) N16.out.rng) Tryd.underlying31 rfl (no_cells hlz16).2.2
        try simp only [Act.put, List.setIfInBounds_toArray, List.set_cons_zero, List.set_cons_succ]
        refine wpAnyH_take (i := 1) (oi := ?o1s24v0_2) (v := .agg (List.map (Value.int .u64) z54).toArray) ?h1s24v0_2 (by kernel_rfl) ?f1s24v0_2 ?r1s24v0_2 (fun _ _ _ h => h) ?y1s24v0_2 (by assumption) ?t1s24v0_2
        case h1s24v0_2 => simp only [List.getElem?_toArray]; rfl
        case f1s24v0_2 => kernel_rfl
        case r1s24v0_2 => kernel_rfl
        case y1s24v0_2 => exact yieldsIf_load_mid (by rfl) 31 (.tmp 14) rfl b14 0 rfl (List.map (Value.int .u64) z54) _ (fun u hu => hu.range (by omega) N14.out.rng) Tryd.underlying31 rfl (no_cells hlz14).2.2
        try simp only [Act.put, List.setIfInBounds_toArray, List.set_cons_zero, List.set_cons_succ]
        refine wpAnyH_take (i := 2) (oi := ?o2s24v0) (v := ?v2s24v0) ?h2s24v0 (by kernel_rfl) ?f2s24v0 ?r2s24v0 (fun _ _ _ h => h) (Or.inl ⟨?w2s24v0, ?y2s24v0⟩) (by assumption) ?t2s24v0
        case h2s24v0 => simp only [List.getElem?_toArray]; rfl
        case f2s24v0 => kernel_rfl
        case r2s24v0 => kernel_rfl
        case w2s24v0 => rfl
        case y2s24v0 => (intro u hu; (go_simp) <;> with_reducible rfl)
        try simp only [Act.put, List.setIfInBounds_toArray, List.set_cons_zero, List.set_cons_succ]
        refine wpAnyH_take (i := 3) (oi := ?o3s24v0_4) (v := .agg (List.map (Value.int .u64) z60).toArray) ?h3s24v0_4 (by kernel_rfl) ?f3s24v0_4 ?r3s24v0_4 (fun _ _ _ h => h) ?y3s24v0_4 (by assumption) ?t3s24v0_4
        case h3s24v0_4 => simp only [List.getElem?_toArray]; rfl
        case f3s24v0_4 => kernel_rfl
        case r3s24v0_4 => kernel_rfl
        case y3s24v0_4 => exact yieldsIf_load_mid (by rfl) 31 (.tmp 16) rfl b16 0 rfl (List.map (Value.int .u64) z60) _ (fun u hu => hu.range (by omega) N16.out.rng) Tryd.underlying31 rfl (no_cells hlz16).2.2
        try simp only [Act.put, List.setIfInBounds_toArray, List.set_cons_zero, List.set_cons_succ]
        refine wpAnyH_ready (rs := [4]) (by kernel_rfl) (by simp) ?_
        refine AllReadyH.cons (o := ?o4s24v0) ?h4s24v0 (fun K hK => ?_) AllReadyH.nil
        case h4s24v0 => simp only [List.getElem?_toArray]; rfl
        go_simp
        rw [d24_arr]
        refine (rmul_el d24 z60 121665 n16 el24 en16 d24_dg Hz60 _ (Gp.later HG.out hH)).mono ?_
        rintro e c24v0_4 ⟨z94, rfl, Hz94, hb24_4⟩
        replace hH : Ext Y3v0 c24v0_4 := hH.trans hb24_4
        refine hK.out _ _ (ExtN.of hH) (fun hN' => ?_)
        clear hK K hN
        have hN := hN'
        clear hN'
        try simp only [List.setIfInBounds_toArray, List.set]
        clear hb24_4
        refine wpAnyH_ready (rs := [5]) (by kernel_rfl) (by simp) ?_
        refine AllReadyH.cons (o := ?o5s24v0) ?h5s24v0 (fun K hK => ?_) AllReadyH.nil
        case h5s24v0 => simp only [List.getElem?_toArray]; rfl
        go_simp
        refine (radd_el z54 z94 n14 (121665 * n16 % 57896044618658097711785492504343953926634992332820282019728792003956564819949) en14 (El.mod (121665 * n16)) Hz54 Hz94 _ (Gp.later HG.out hH)).mono ?_
        rintro e c24v0_5 ⟨z95, rfl, Hz95, hb24_5⟩
        replace hH : Ext Y3v0 c24v0_5 := hH.trans hb24_5
        refine hK.out _ _ (ExtN.of hH) (fun hN' => ?_)
        clear hK K hN
        have hN := hN'
        clear hN'
        try simp only [List.setIfInBounds_toArray, List.set]
        clear hb24_5
        refine wpAnyH_ready (rs := [6]) (by kernel_rfl) (by simp) ?_
        refine AllReadyH.cons (o := ?o6s24v0) ?h6s24v0 (fun K hK => ?_) AllReadyH.nil
        case h6s24v0 => simp only [List.getElem?_toArray]; rfl
        go_simp
        refine (rmul_el z60 z95 n16 ((n14 + (121665 * n16 % 57896044618658097711785492504343953926634992332820282019728792003956564819949)) % 57896044618658097711785492504343953926634992332820282019728792003956564819949) en16 (El.mod (n14 + (121665 * n16 % 57896044618658097711785492504343953926634992332820282019728792003956564819949))) Hz60 Hz95 _ (Gp.later HG.out hH)).mono ?_
        rintro e c24v0_6 ⟨z96, rfl, Hz96, hb24_6⟩
        replace hH : Ext Y3v0 c24v0_6 := hH.trans hb24_6
        refine hK.out _ _ (ExtN.of hH) (fun hN' => ?_)
        clear hK K hN
        have hN := hN'
        clear hN'
        try simp only [List.setIfInBounds_toArray, List.set]
        clear hb24_6
        replace A2 : Hid (Arr c24v0_6 (w.heap.size) (List.map (Value.int .u8) K)) := A2.out.later hH
        replace A4 : Hid (Arr c24v0_6 q2 (List.map (Value.int .u8) (List.replicate 32 0))) := A4.out.later hH
        replace N5 : Hid (Wrd c24v0_6 b5 l5) := N5.out.later hH
        replace N6 : Hid (Wrd c24v0_6 b6 z89) := N6.out.later hH
        replace N7 : Hid (Wrd c24v0_6 b7 l7) := N7.out.later hH
        replace N8 : Hid (Wrd c24v0_6 b8 z77) := N8.out.later hH
        replace N9 : Hid (Wrd c24v0_6 b9 z86) := N9.out.later hH
        replace N12 : Hid (Wrd c24v0_6 b12 z48) := N12.out.later hH
        replace N13 : Hid (Wrd c24v0_6 b13 z51) := N13.out.later hH
        replace N14 : Hid (Wrd c24v0_6 b14 z54) := N14.out.later hH
        replace N15 : Hid (Wrd c24v0_6 b15 z57) := N15.out.later hH
        replace N16 : Hid (Wrd c24v0_6 b16 z60) := N16.out.later hH
        replace N17 : Hid (Wrd c24v0_6 b17 z17l) := N17.out.later hH
        replace N18 : Hid (Wrd c24v0_6 b18 z18l) := N18.out.later hH
        replace HG : Hid (Gp c24v0_6) := HG.out.later hH
        replace HB : Hid (Below w.heap.size w c24v0_6) := HB.out.trans (Below.mono hH HB.out.size)
        have hls24v0 : z96.length = 16 := by rw [Hz96.out, dg_length]
        obtain ⟨hlenS, honeS, hiS⟩ := no_cells hls24v0
        have N5n : Hid (Wrd (c24v0_6.setCells b7 0 (List.map (Value.int .u64) z96)) b5 l5) := ⟨World.rangeAt_setCells_apart N5.out.rng _ _ _ (.inl (by omega)), World.there_setCells N5.out.all _ _ _⟩
        have N6n : Hid (Wrd (c24v0_6.setCells b7 0 (List.map (Value.int .u64) z96)) b6 z89) := ⟨World.rangeAt_setCells_apart N6.out.rng _ _ _ (.inl (by omega)), World.there_setCells N6.out.all _ _ _⟩
        have N7n : Hid (Wrd (c24v0_6.setCells b7 0 (List.map (Value.int .u64) z96)) b7 z96) := wrd_store N7.out.all z96 hls24v0
        have N8n : Hid (Wrd (c24v0_6.setCells b7 0 (List.map (Value.int .u64) z96)) b8 z77) := ⟨World.rangeAt_setCells_apart N8.out.rng _ _ _ (.inl (by omega)), World.there_setCells N8.out.all _ _ _⟩
        have N9n : Hid (Wrd (c24v0_6.setCells b7 0 (List.map (Value.int .u64) z96)) b9 z86) := ⟨World.rangeAt_setCells_apart N9.out.rng _ _ _ (.inl (by omega)), World.there_setCells N9.out.all _ _ _⟩
        have N12n : Hid (Wrd (c24v0_6.setCells b7 0 (List.map (Value.int .u64) z96)) b12 z48) := ⟨World.rangeAt_setCells_apart N12.out.rng _ _ _ (.inl (by omega)), World.there_setCells N12.out.all _ _ _⟩
        have N13n : Hid (Wrd (c24v0_6.setCells b7 0 (List.map (Value.int .u64) z96)) b13 z51) := ⟨World.rangeAt_setCells_apart N13.out.rng _ _ _ (.inl (by omega)), World.there_setCells N13.out.all _ _ _⟩
        have N14n : Hid (Wrd (c24v0_6.setCells b7 0 (List.map (Value.int .u64) z96)) b14 z54) := ⟨World.rangeAt_setCells_apart N14.out.rng _ _ _ (.inl (by omega)), World.there_setCells N14.out.all _ _ _⟩
        have N15n : Hid (Wrd (c24v0_6.setCells b7 0 (List.map (Value.int .u64) z96)) b15 z57) := ⟨World.rangeAt_setCells_apart N15.out.rng _ _ _ (.inl (by omega)), World.there_setCells N15.out.all _ _ _⟩
        have N16n : Hid (Wrd (c24v0_6.setCells b7 0 (List.map (Value.int .u64) z96)) b16 z60) := ⟨World.rangeAt_setCells_apart N16.out.rng _ _ _ (.inl (by omega)), World.there_setCells N16.out.all _ _ _⟩
        have N17n : Hid (Wrd (c24v0_6.setCells b7 0 (List.map (Value.int .u64) z96)) b17 z17l) := ⟨World.rangeAt_setCells_apart N17.out.rng _ _ _ (.inl (by omega)), World.there_setCells N17.out.all _ _ _⟩
        have N18n : Hid (Wrd (c24v0_6.setCells b7 0 (List.map (Value.int .u64) z96)) b18 z18l) := ⟨World.rangeAt_setCells_apart N18.out.rng _ _ _ (.inl (by omega)), World.there_setCells N18.out.all _ _ _⟩
        have A2n : Hid (Arr (c24v0_6.setCells b7 0 (List.map (Value.int .u64) z96)) (w.heap.size) (List.map (Value.int .u8) K)) := ⟨World.rangeAt_setCells_apart A2.out.rng _ _ _ (.inl (by omega)), World.there_setCells A2.out.all _ _ _⟩
        have A4n : Hid (Arr (c24v0_6.setCells b7 0 (List.map (Value.int .u64) z96)) q2 (List.map (Value.int .u8) (List.replicate 32 0))) := ⟨World.rangeAt_setCells_apart A4.out.rng _ _ _ (.inl (by omega)), World.there_setCells A4.out.all _ _ _⟩
        have HGn : Hid (Gp (c24v0_6.setCells b7 0 (List.map (Value.int .u64) z96))) := World.rangeAt_setCells_apart HG.out _ _ _ (.inl (by omega))
        have HBn : Hid (Below w.heap.size w (c24v0_6.setCells b7 0 (List.map (Value.int .u64) z96))) := below_setCells _ (by omega) _ _ _ HB.out
        have hthS : Hid (c24v0_6.there b7 0 16) := N7.out.all
        refine wpAnyH_ready (rs := [7]) (by kernel_rfl) (by simp) ?_
        refine AllReadyH.cons (o := ?oz24v0) ?hz24v0 (fun K hK => ?_) AllReadyH.nil
        case hz24v0 => simp only [List.getElem?_toArray]; rfl
        refine wp_store_mid 31 (.tmp 7) (.tmp 96) rfl b7 0 (List.map (Value.int .u64) z96).toArray rfl rfl (by simpa [hlenS] using hthS.out) (by simpa using hiS) (all_oneCell_toArray honeS) ?_
        refine hK.out _ _ (ExtN.setCells _ 0 _ (ExtN.of hH)) (fun hN' => ?_)
        clear hK K hN hN' hH
        try simp only [List.setIfInBounds_toArray, List.set]
        refine wpAnyH_done (by kernel_rfl) ?_ _
        refine NoPanic.normal ?_
        go_upto_region 25 with fail
        clear hlenS honeS hiS hthS HB HG A2 A4 N5 N6 N7 N8 N9 N12 N13 N14 N15 N16 N17 N18
        generalize c24v0_6.setCells b7 0 (List.map (Value.int .u64) z96) = Y4v0 at *
        have A2 := A2n
        clear A2n
        have A4 := A4n
        clear A4n
        have N5 := N5n
        clear N5n
        have N6 := N6n
        clear N6n
        have N7 := N7n
        clear N7n
        have N8 := N8n
        clear N8n
        have N9 := N9n
        clear N9n
        have N12 := N12n
        clear N12n
        have N13 := N13n
        clear N13n
        have N14 := N14n
        clear N14n
        have N15 := N15n
        clear N15n
        have N16 := N16n
        clear N16n
        have N17 := N17n
        clear N17n
        have N18 := N18n
        clear N18n
        have HG := HGn
        clear HGn
        have HB := HBn
        clear HBn
        obtain ⟨n7, hn7⟩ : ∃ n : Int, n = (n16 * ((n14 + (121665 * n16 % 57896044618658097711785492504343953926634992332820282019728792003956564819949)) % 57896044618658097711785492504343953926634992332820282019728792003956564819949) % 57896044618658097711785492504343953926634992332820282019728792003956564819949) := ⟨_, rfl⟩
        have Hn7 : Hid (n7 = fm n16 (fa n14 (fm n16 121665))) := by unfold Hid; rw [hn7]; unfold fm fa; rw [Int.mul_comm 121665 n16]
        have en7 : El n7 := by rw [hn7]; exact (El.mod (n16 * ((n14 + (121665 * n16 % 57896044618658097711785492504343953926634992332820282019728792003956564819949)) % 57896044618658097711785492504343953926634992332820282019728792003956564819949)))
        rw [← hn7] at Hz96
        clear hn7
        have hml := HM.out
        go_wp2
        go_roundw
        case rel => exact ⟨m, n6, n7, n8, n9, z89, z96, z77, z86, _, _, _, _, _, _, _, _, by omega, rfl, rfl, rfl, rfl, rfl, rfl, rfl, rfl, rfl, en6, en7, en8, en9, by
          unfold Hid
          rw [HLS.out]
          unfold lst
          rw [if_neg (by decide), Hn8.out, Hn9.out, Hn6.out, Hn7.out, Hn17.out, Hn18.out, Hn16.out, Hn14.out, Hn15.out, Hn12.out, Hn13.out]
          rfl, Hz89, Hz96, Hz77, Hz86, N5, N6, N7, N8, N9, A2, A4, HG, HB⟩
        case measure => simp [intOf]
      · go_upto_region 12 with fail
        obtain ⟨hlp, hop, hip⟩ := no_cells hl6
        obtain ⟨hlq, hoq, hiq⟩ := no_cells hl8
        have N5n : Hid (Wrd ((wr.setCells b6 0 (List.map (Value.int .u64) l8)).setCells b8 0 (List.map (Value.int .u64) l6)) b5 l5) := ⟨World.rangeAt_setCells_apart (World.rangeAt_setCells_apart N5.out.rng _ _ _ (.inl (by omega))) _ _ _ (.inl (by omega)), World.there_setCells (World.there_setCells N5.out.all _ _ _) _ _ _⟩
        have N6n : Hid (Wrd ((wr.setCells b6 0 (List.map (Value.int .u64) l8)).setCells b8 0 (List.map (Value.int .u64) l6)) b6 l8) := ⟨World.rangeAt_setCells_apart (wrd_store N6.out.all l8 hl8).rng _ _ _ (.inl (by omega)), World.there_setCells (World.there_setCells N6.out.all _ _ _) _ _ _⟩
        have N7n : Hid (Wrd ((wr.setCells b6 0 (List.map (Value.int .u64) l8)).setCells b8 0 (List.map (Value.int .u64) l6)) b7 l7) := ⟨World.rangeAt_setCells_apart (World.rangeAt_setCells_apart N7.out.rng _ _ _ (.inl (by omega))) _ _ _ (.inl (by omega)), World.there_setCells (World.there_setCells N7.out.all _ _ _) _ _ _⟩
        have N8n : Hid (Wrd ((wr.setCells b6 0 (List.map (Value.int .u64) l8)).setCells b8 0 (List.map (Value.int .u64) l6)) b8 l6) := wrd_store (World.there_setCells N8.out.all _ _ _) l6 hl6
        have N9n : Hid (Wrd ((wr.setCells b6 0 (List.map (Value.int .u64) l8)).setCells b8 0 (List.map (Value.int .u64) l6)) b9 l9) := ⟨World.rangeAt_setCells_apart (World.rangeAt_setCells_apart N9.out.rng _ _ _ (.inl (by omega))) _ _ _ (.inl (by omega)), World.there_setCells (World.there_setCells N9.out.all _ _ _) _ _ _⟩
        have A2n : Hid (Arr ((wr.setCells b6 0 (List.map (Value.int .u64) l8)).setCells b8 0 (List.map (Value.int .u64) l6)) (w.heap.size) (List.map (Value.int .u8) K)) := ⟨World.rangeAt_setCells_apart (World.rangeAt_setCells_apart A2.out.rng _ _ _ (.inl (by omega))) _ _ _ (.inl (by omega)), World.there_setCells (World.there_setCells A2.out.all _ _ _) _ _ _⟩
        have A4n : Hid (Arr ((wr.setCells b6 0 (List.map (Value.int .u64) l8)).setCells b8 0 (List.map (Value.int .u64) l6)) q2 (List.map (Value.int .u8) (List.replicate 32 0))) := ⟨World.rangeAt_setCells_apart (World.rangeAt_setCells_apart A4.out.rng _ _ _ (.inl (by omega))) _ _ _ (.inl (by omega)), World.there_setCells (World.there_setCells A4.out.all _ _ _) _ _ _⟩
        have HGn : Hid (Gp ((wr.setCells b6 0 (List.map (Value.int .u64) l8)).setCells b8 0 (List.map (Value.int .u64) l6))) := World.rangeAt_setCells_apart (World.rangeAt_setCells_apart HG.out _ _ _ (.inl (by omega))) _ _ _ (.inl (by omega))
        have HBn : Hid (Below w.heap.size w ((wr.setCells b6 0 (List.map (Value.int .u64) l8)).setCells b8 0 (List.map (Value.int .u64) l6))) := below_setCells _ (by omega) _ _ _ (below_setCells _ (by omega) _ _ _ HB.out)
        have hTp : Hid (wr.there b6 0 16) := N6.out.all
        have hTq : Hid ((wr.setCells b6 0 (List.map (Value.int .u64) l8)).there b8 0 16) := World.there_setCells N8.out.all _ _ _
        have hRp : Hid (wr.rangeAt b6 0 (List.map (Value.int .u64) l6)) := N6.out.rng
        have hRq : Hid (wr.rangeAt b8 0 (List.map (Value.int .u64) l8)) := N8.out.rng
        go_upto_region 13 with (first
          | (refine wpList_load_mid rfl 31 (.tmp 8) rfl b8 0 rfl (List.map (Value.int .u64) l8) _ hRq.out Tryd.underlying31 rfl hiq ?_)
          | (refine wpList_load_mid rfl 31 (.tmp 6) rfl b6 0 rfl (List.map (Value.int .u64) l6) _ hRp.out Tryd.underlying31 rfl hip ?_)
          | (refine wpList_store_mid rfl 31 (.tmp 6) (.tmp 42) rfl b6 0 (List.map (Value.int .u64) l8).toArray rfl rfl (by simpa [hlq] using hTp.out) (by simpa using hiq) (all_oneCell_toArray hoq) ?_)
          | (refine wpList_store_mid rfl 31 (.tmp 8) (.tmp 43) rfl b8 0 (List.map (Value.int .u64) l6).toArray rfl rfl (by simpa [hlp] using hTq.out) (by simpa using hip) (all_oneCell_toArray hop) ?_))
        clear hlp hop hip hlq hoq hiq hTp hTq hRp hRq HB HG A2 A4 N5 N6 N7 N8 N9
        generalize (wr.setCells b6 0 (List.map (Value.int .u64) l8)).setCells b8 0 (List.map (Value.int .u64) l6) = V12v1 at *
        have A2 := A2n
        clear A2n
        have A4 := A4n
        clear A4n
        have N5 := N5n
        clear N5n
        have N6 := N6n
        clear N6n
        have N7 := N7n
        clear N7n
        have N8 := N8n
        clear N8n
        have N9 := N9n
        clear N9n
        have HG := HGn
        clear HGn
        have HB := HBn
        clear HBn
        obtain ⟨hlp, hop, hip⟩ := no_cells hl7
        obtain ⟨hlq, hoq, hiq⟩ := no_cells hl9
        have N5n : Hid (Wrd ((V12v1.setCells b7 0 (List.map (Value.int .u64) l9)).setCells b9 0 (List.map (Value.int .u64) l7)) b5 l5) := ⟨World.rangeAt_setCells_apart (World.rangeAt_setCells_apart N5.out.rng _ _ _ (.inl (by omega))) _ _ _ (.inl (by omega)), World.there_setCells (World.there_setCells N5.out.all _ _ _) _ _ _⟩
        have N6n : Hid (Wrd ((V12v1.setCells b7 0 (List.map (Value.int .u64) l9)).setCells b9 0 (List.map (Value.int .u64) l7)) b6 l8) := ⟨World.rangeAt_setCells_apart (World.rangeAt_setCells_apart N6.out.rng _ _ _ (.inl (by omega))) _ _ _ (.inl (by omega)), World.there_setCells (World.there_setCells N6.out.all _ _ _) _ _ _⟩
        have N7n : Hid (Wrd ((V12v1.setCells b7 0 (List.map (Value.int .u64) l9)).setCells b9 0 (List.map (Value.int .u64) l7)) b7 l9) := ⟨World.rangeAt_setCells_apart (wrd_store N7.out.all l9 hl9).rng _ _ _ (.inl (by omega)), World.there_setCells (World.there_setCells N7.out.all _ _ _) _ _ _⟩
        have N8n : Hid (Wrd ((V12v1.setCells b7 0 (List.map (Value.int .u64) l9)).setCells b9 0 (List.map (Value.int .u64) l7)) b8 l6) := ⟨World.rangeAt_setCells_apart (World.rangeAt_setCells_apart N8.out.rng _ _ _ (.inl (by omega))) _ _ _ (.inl (by omega)), World.there_setCells (World.there_setCells N8.out.all _ _ _) _ _ _⟩
        have N9n : Hid (Wrd ((V12v1.setCells b7 0 (List.map (Value.int .u64) l9)).setCells b9 0 (List.map (Value.int .u64) l7)) b9 l7) := wrd_store (World.there_setCells N9.out.all _ _ _) l7 hl7
        have A2n : Hid (Arr ((V12v1.setCells b7 0 (List.map (Value.int .u64) l9)).setCells b9 0 (List.map (Value.int .u64) l7)) (w.heap.size) (List.map (Value.int .u8) K)) := ⟨World.rangeAt_setCells_apart (World.rangeAt_setCells_apart A2.out.rng _ _ _ (.inl (by omega))) _ _ _ (.inl (by omega)), World.there_setCells (World.there_setCells A2.out.all _ _ _) _ _ _⟩
        have A4n : Hid (Arr ((V12v1.setCells b7 0 (List.map (Value.int .u64) l9)).setCells b9 0 (List.map (Value.int .u64) l7)) q2 (List.map (Value.int .u8) (List.replicate 32 0))) := ⟨World.rangeAt_setCells_apart (World.rangeAt_setCells_apart A4.out.rng _ _ _ (.inl (by omega))) _ _ _ (.inl (by omega)), World.there_setCells (World.there_setCells A4.out.all _ _ _) _ _ _⟩
        have HGn : Hid (Gp ((V12v1.setCells b7 0 (List.map (Value.int .u64) l9)).setCells b9 0 (List.map (Value.int .u64) l7))) := World.rangeAt_setCells_apart (World.rangeAt_setCells_apart HG.out _ _ _ (.inl (by omega))) _ _ _ (.inl (by omega))
        have HBn : Hid (Below w.heap.size w ((V12v1.setCells b7 0 (List.map (Value.int .u64) l9)).setCells b9 0 (List.map (Value.int .u64) l7))) := below_setCells _ (by omega) _ _ _ (below_setCells _ (by omega) _ _ _ HB.out)
        have hTp : Hid (V12v1.there b7 0 16) := N7.out.all
        have hTq : Hid ((V12v1.setCells b7 0 (List.map (Value.int .u64) l9)).there b9 0 16) := World.there_setCells N9.out.all _ _ _
        have hRp : Hid (V12v1.rangeAt b7 0 (List.map (Value.int .u64) l7)) := N7.out.rng
        have hRq : Hid (V12v1.rangeAt b9 0 (List.map (Value.int .u64) l9)) := N9.out.rng
        go_upto_region 14 with (first
          | (refine wpList_load_mid rfl 31 (.tmp 9) rfl b9 0 rfl (List.map (Value.int .u64) l9) _ hRq.out Tryd.underlying31 rfl hiq ?_)
          | (refine wpList_load_mid rfl 31 (.tmp 7) rfl b7 0 rfl (List.map (Value.int .u64) l7) _ hRp.out Tryd.underlying31 rfl hip ?_)
          | (refine wpList_store_mid rfl 31 (.tmp 7) (.tmp 44) rfl b7 0 (List.map (Value.int .u64) l9).toArray rfl rfl (by simpa [hlq] using hTp.out) (by simpa using hiq) (all_oneCell_toArray hoq) ?_)
          | (refine wpList_store_mid rfl 31 (.tmp 9) (.tmp 45) rfl b9 0 (List.map (Value.int .u64) l7).toArray rfl rfl (by simpa [hlp] using hTq.out) (by simpa using hip) (all_oneCell_toArray hop) ?_))
        clear hlp hop hip hlq hoq hiq hTp hTq hRp hRq HB HG A2 A4 N5 N6 N7 N8 N9
        generalize (V12v1.setCells b7 0 (List.map (Value.int .u64) l9)).setCells b9 0 (List.map (Value.int .u64) l7) = V13v1 at *
        have A2 := A2n
        clear A2n
        have A4 := A4n
        clear A4n
        have N5 := N5n
        clear N5n
        have N6 := N6n
        clear N6n
        have N7 := N7n
        clear N7n
        have N8 := N8n
        clear N8n
        have N9 := N9n
        clear N9n
        have HG := HGn
        clear HGn
        have HB := HBn
        clear HBn
        go_wp2_with (first | (refine wpList_load_mid rfl 31 (.tmp 6) rfl b6 0 rfl (List.map (Value.int .u64) l8) _ N6.out.rng Tryd.underlying31 rfl (no_cells hl8).2.2 ?_) | (refine wpList_load_mid rfl 31 (.tmp 7) rfl b7 0 rfl (List.map (Value.int .u64) l9) _ N7.out.rng Tryd.underlying31 rfl (no_cells hl9).2.2 ?_))
        refine (radd_el l8 l9 x3 z3 hx3 hz3 E8 E9 _ HG.out).mono ?_
        rintro e u14v1_0 ⟨z48, rfl, Hz48, hb14_0⟩
        have hc14_1 : Hid (Below V13v1.heap.size V13v1 u14v1_0) := hb14_0
        clear hb14_0
        have hgw12 : V13v1.heap.size ≤ u14v1_0.heap.size := hc14_1.out.size
        have ln12_A2 : (w.heap.size) < u14v1_0.heap.size := Nat.lt_of_lt_of_le A2.out.lt hgw12
        have ln12_A4 : q2 < u14v1_0.heap.size := Nat.lt_of_lt_of_le A4.out.lt hgw12
        have ln12_N5 : b5 < u14v1_0.heap.size := Nat.lt_of_lt_of_le N5.out.lt hgw12
        have ln12_N6 : b6 < u14v1_0.heap.size := Nat.lt_of_lt_of_le N6.out.lt hgw12
        have ln12_N7 : b7 < u14v1_0.heap.size := Nat.lt_of_lt_of_le N7.out.lt hgw12
        have ln12_N8 : b8 < u14v1_0.heap.size := Nat.lt_of_lt_of_le N8.out.lt hgw12
        have ln12_N9 : b9 < u14v1_0.heap.size := Nat.lt_of_lt_of_le N9.out.lt hgw12
        have hlz12 : z48.length = 16 := by rw [Hz48.out, dg_length]
        obtain ⟨hlenS, honeS, hiS⟩ := no_cells hlz12
        have hth := there_new u14v1_0 16 #[.int .u64 0, .int .u64 0, .int .u64 0, .int .u64 0, .int .u64 0, .int .u64 0, .int .u64 0, .int .u64 0, .int .u64 0, .int .u64 0, .int .u64 0, .int .u64 0, .int .u64 0, .int .u64 0, .int .u64 0, .int .u64 0] rfl 31
        have N12 : Hid (Wrd ((u14v1_0.alloc (.cells #[.int .u64 0, .int .u64 0, .int .u64 0, .int .u64 0, .int .u64 0, .int .u64 0, .int .u64 0, .int .u64 0, .int .u64 0, .int .u64 0, .int .u64 0, .int .u64 0, .int .u64 0, .int .u64 0, .int .u64 0, .int .u64 0] 31)).setCells u14v1_0.heap.size 0 (List.map (Value.int .u64) z48)) (u14v1_0.heap.size) z48) := wrd_store hth z48 hlz12
        have hX : Hid (Below V13v1.heap.size V13v1 ((u14v1_0.alloc (.cells #[.int .u64 0, .int .u64 0, .int .u64 0, .int .u64 0, .int .u64 0, .int .u64 0, .int .u64 0, .int .u64 0, .int .u64 0, .int .u64 0, .int .u64 0, .int .u64 0, .int .u64 0, .int .u64 0, .int .u64 0, .int .u64 0] 31)).setCells u14v1_0.heap.size 0 (List.map (Value.int .u64) z48))) := hc14_1.out.trans ((below_setCells _ (Nat.le_refl _) _ _ _ (bel1 _ _)).mono hc14_1.out.size)
        generalize hcs : (List.map (Value.int .u64) z48) = cs14 at *
        go_upto_region 15 with (refine wpList_store_mid rfl 31 (.tmp 12) (.tmp 48) rfl (u14v1_0.heap.size) 0 cs14.toArray rfl rfl (by simpa [hlenS] using hth) (by simpa using hiS) (all_oneCell_toArray honeS) ?_)
        clear hth hlenS honeS hiS hc14_1
        generalize (u14v1_0.alloc (.cells #[.int .u64 0, .int .u64 0, .int .u64 0, .int .u64 0, .int .u64 0, .int .u64 0, .int .u64 0, .int .u64 0, .int .u64 0, .int .u64 0, .int .u64 0, .int .u64 0, .int .u64 0, .int .u64 0, .int .u64 0, .int .u64 0] 31)).setCells u14v1_0.heap.size 0 cs14 = W12 at *
        generalize u14v1_0.heap.size = b12 at *
        subst hcs
        replace A2 : Hid (Arr W12 (w.heap.size) (List.map (Value.int .u8) K)) := A2.out.later hX.out
        replace A4 : Hid (Arr W12 q2 (List.map (Value.int .u8) (List.replicate 32 0))) := A4.out.later hX.out
        replace N5 : Hid (Wrd W12 b5 l5) := N5.out.later hX.out
        replace N6 : Hid (Wrd W12 b6 l8) := N6.out.later hX.out
        replace N7 : Hid (Wrd W12 b7 l9) := N7.out.later hX.out
        replace N8 : Hid (Wrd W12 b8 l6) := N8.out.later hX.out
        replace N9 : Hid (Wrd W12 b9 l7) := N9.out.later hX.out
        replace HG : Hid (Gp W12) := HG.out.later hX.out
        replace HB : Hid (Below w.heap.size w W12) := HB.out.trans (Below.mono hX.out HB.out.size)
        clear hX
        obtain ⟨n12, hn12⟩ : ∃ n : Int, n = ((x3 + z3) % 57896044618658097711785492504343953926634992332820282019728792003956564819949) := ⟨_, rfl⟩
        have Hn12 : Hid (n12 = fa x3 z3) := hn12
        have en12 : El n12 := by rw [hn12]; exact (El.mod (x3 + z3))
        rw [← hn12] at Hz48
        clear hn12
        go_wp2_with (first | (refine wpList_load_mid rfl 31 (.tmp 6) rfl b6 0 rfl (List.map (Value.int .u64) l8) _ N6.out.rng Tryd.underlying31 rfl (no_cells hl8).2.2 ?_) | (refine wpList_load_mid rfl 31 (.tmp 7) rfl b7 0 rfl (List.map (Value.int .u64) l9) _ N7.out.rng Tryd.underlying31 rfl (no_cells hl9).2.2 ?_))
        refine (rsub_el l8 l9 x3 z3 hx3 hz3 E8 E9 _ HG.out).mono ?_
        rintro e u15v1_0 ⟨z51, rfl, Hz51, hb15_0⟩
        have hc15_1 : Hid (Below W12.heap.size W12 u15v1_0) := hb15_0
        clear hb15_0
        have hgw13 : W12.heap.size ≤ u15v1_0.heap.size := hc15_1.out.size
        have ln13_A2 : (w.heap.size) < u15v1_0.heap.size := Nat.lt_of_lt_of_le A2.out.lt hgw13
        have ln13_A4 : q2 < u15v1_0.heap.size := Nat.lt_of_lt_of_le A4.out.lt hgw13
        have ln13_N5 : b5 < u15v1_0.heap.size := Nat.lt_of_lt_of_le N5.out.lt hgw13
        have ln13_N6 : b6 < u15v1_0.heap.size := Nat.lt_of_lt_of_le N6.out.lt hgw13
        have ln13_N7 : b7 < u15v1_0.heap.size := Nat.lt_of_lt_of_le N7.out.lt hgw13
        have ln13_N8 : b8 < u15v1_0.heap.size := Nat.lt_of_lt_of_le N8.out.lt hgw13
        have ln13_N9 : b9 < u15v1_0.heap.size := Nat.lt_of_lt_of_le N9.out.lt hgw13
        have ln13_N12 : b12 < u15v1_0.heap.size := Nat.lt_of_lt_of_le N12.out.lt hgw13
        have hlz13 : z51.length = 16 := by rw [Hz51.out, dg_length]
        obtain ⟨hlenS, honeS, hiS⟩ := no_cells hlz13
        have hth := there_new u15v1_0 16 #[.int .u64 0, .int .u64 0, .int .u64 0, .int .u64 0, .int .u64 0, .int .u64 0, .int .u64 0, .int .u64 0, .int .u64 0, .int .u64 0, .int .u64 0, .int .u64 0, .int .u64 0, .int .u64 0, .int .u64 0, .int .u64 0] rfl 31
        have N13 : Hid (Wrd ((u15v1_0.alloc (.cells #[.int .u64 0, .int .u64 0, .int .u64 0, .int .u64 0, .int .u64 0, .int .u64 0, .int .u64 0, .int .u64 0, .int .u64 0, .int .u64 0, .int .u64 0, .int .u64 0, .int .u64 0, .int .u64 0, .int .u64 0, .int .u64 0] 31)).setCells u15v1_0.heap.size 0 (List.map (Value.int .u64) z51)) (u15v1_0.heap.size) z51) := wrd_store hth z51 hlz13
        have hX : Hid (Below W12.heap.size W12 ((u15v1_0.alloc (.cells #[.int .u64 0, .int .u64 0, .int .u64 0, .int .u64 0, .int .u64 0, .int .u64 0, .int .u64 0, .int .u64 0, .int .u64 0, .int .u64 0, .int .u64 0, .int .u64 0, .int .u64 0, .int .u64 0, .int .u64 0, .int .u64 0] 31)).setCells u15v1_0.heap.size 0 (List.map (Value.int .u64) z51))) := hc15_1.out.trans ((below_setCells _ (Nat.le_refl _) _ _ _ (bel1 _ _)).mono hc15_1.out.size)
        generalize hcs : (List.map (Value.int .u64) z51) = cs15 at *
        go_upto_region 16 with (refine wpList_store_mid rfl 31 (.tmp 13) (.tmp 51) rfl (u15v1_0.heap.size) 0 cs15.toArray rfl rfl (by simpa [hlenS] using hth) (by simpa using hiS) (all_oneCell_toArray honeS) ?_)
        clear hth hlenS honeS hiS hc15_1
        generalize (u15v1_0.alloc (.cells #[.int .u64 0, .int .u64 0, .int .u64 0, .int .u64 0, .int .u64 0, .int .u64 0, .int .u64 0, .int .u64 0, .int .u64 0, .int .u64 0, .int .u64 0, .int .u64 0, .int .u64 0, .int .u64 0, .int .u64 0, .int .u64 0] 31)).setCells u15v1_0.heap.size 0 cs15 = W13 at *
        generalize u15v1_0.heap.size = b13 at *
        subst hcs
        replace A2 : Hid (Arr W13 (w.heap.size) (List.map (Value.int .u8) K)) := A2.out.later hX.out
        replace A4 : Hid (Arr W13 q2 (List.map (Value.int .u8) (List.replicate 32 0))) := A4.out.later hX.out
        replace N5 : Hid (Wrd W13 b5 l5) := N5.out.later hX.out
        replace N6 : Hid (Wrd W13 b6 l8) := N6.out.later hX.out
        replace N7 : Hid (Wrd W13 b7 l9) := N7.out.later hX.out
        replace N8 : Hid (Wrd W13 b8 l6) := N8.out.later hX.out
        replace N9 : Hid (Wrd W13 b9 l7) := N9.out.later hX.out
        replace N12 : Hid (Wrd W13 b12 z48) := N12.out.later hX.out
        replace HG : Hid (Gp W13) := HG.out.later hX.out
        replace HB : Hid (Below w.heap.size w W13) := HB.out.trans (Below.mono hX.out HB.out.size)
        clear hX
        obtain ⟨n13, hn13⟩ : ∃ n : Int, n = ((x3 - z3) % 57896044618658097711785492504343953926634992332820282019728792003956564819949) := ⟨_, rfl⟩
        have Hn13 : Hid (n13 = fs x3 z3) := hn13
        have en13 : El n13 := by rw [hn13]; exact (El.mod (x3 - z3))
        rw [← hn13] at Hz51
        clear hn13
        go_wp2_with (first | (refine wpList_load_mid rfl 31 (.tmp 12) rfl b12 0 rfl (List.map (Value.int .u64) z48) _ N12.out.rng Tryd.underlying31 rfl (no_cells hlz12).2.2 ?_) | (refine wpList_load_mid rfl 31 (.tmp 12) rfl b12 0 rfl (List.map (Value.int .u64) z48) _ N12.out.rng Tryd.underlying31 rfl (no_cells hlz12).2.2 ?_))
        refine (rmul_el z48 z48 n12 n12 en12 en12 Hz48 Hz48 _ HG.out).mono ?_
        rintro e u16v1_0 ⟨z54, rfl, Hz54, hb16_0⟩
        have hc16_1 : Hid (Below W13.heap.size W13 u16v1_0) := hb16_0
        clear hb16_0
        have hgw14 : W13.heap.size ≤ u16v1_0.heap.size := hc16_1.out.size
        have ln14_A2 : (w.heap.size) < u16v1_0.heap.size := Nat.lt_of_lt_of_le A2.out.lt hgw14
        have ln14_A4 : q2 < u16v1_0.heap.size := Nat.lt_of_lt_of_le A4.out.lt hgw14
        have ln14_N5 : b5 < u16v1_0.heap.size := Nat.lt_of_lt_of_le N5.out.lt hgw14
        have ln14_N6 : b6 < u16v1_0.heap.size := Nat.lt_of_lt_of_le N6.out.lt hgw14
        have ln14_N7 : b7 < u16v1_0.heap.size := Nat.lt_of_lt_of_le N7.out.lt hgw14
        have ln14_N8 : b8 < u16v1_0.heap.size := Nat.lt_of_lt_of_le N8.out.lt hgw14
        have ln14_N9 : b9 < u16v1_0.heap.size := Nat.lt_of_lt_of_le N9.out.lt hgw14
        have ln14_N12 : b12 < u16v1_0.heap.size := Nat.lt_of_lt_of_le N12.out.lt hgw14
        have ln14_N13 : b13 < u16v1_0.heap.size := Nat.lt_of_lt_of_le N13.out.lt hgw14
        have hlz14 : z54.length = 16 := by rw [Hz54.out, dg_length]
        obtain ⟨hlenS, honeS, hiS⟩ := no_cells hlz14
        have hth := there_new u16v1_0 16 #[.int .u64 0, .int .u64 0, .int .u64 0, .int .u64 0, .int .u64 0, .int .u64 0, .int .u64 0, .int .u64 0, .int .u64 0, .int .u64 0, .int .u64 0, .int .u64 0, .int .u64 0, .int .u64 0, .int .u64 0, .int .u64 0] rfl 31
        have N14 : Hid (Wrd ((u16v1_0.alloc (.cells #[.int .u64 0, .int .u64 0, .int .u64 0, .int .u64 0, .int .u64 0, .int .u64 0, .int .u64 0, .int .u64 0, .int .u64 0, .int .u64 0, .int .u64 0, .int .u64 0, .int .u64 0, .int .u64 0, .int .u64 0, .int .u64 0] 31)).setCells u16v1_0.heap.size 0 (List.map (Value.int .u64) z54)) (u16v1_0.heap.size) z54) := wrd_store hth z54 hlz14
        have hX : Hid (Below W13.heap.size W13 ((u16v1_0.alloc (.cells #[.int .u64 0, .int .u64 0, .int .u64 0, .int .u64 0, .int .u64 0, .int .u64 0, .int .u64 0, .int .u64 0, .int .u64 0, .int .u64 0, .int .u64 0, .int .u64 0, .int .u64 0, .int .u64 0, .int .u64 0, .int .u64 0] 31)).setCells u16v1_0.heap.size 0 (List.map (Value.int .u64) z54))) := hc16_1.out.trans ((below_setCells _ (Nat.le_refl _) _ _ _ (bel1 _ _)).mono hc16_1.out.size)
        generalize hcs : (List.map (Value.int .u64) z54) = cs16 at *
        go_upto_region 17 with (refine wpList_store_mid rfl 31 (.tmp 14) (.tmp 54) rfl (u16v1_0.heap.size) 0 cs16.toArray rfl rfl (by simpa [hlenS] using hth) (by simpa using hiS) (all_oneCell_toArray honeS) ?_)
        clear hth hlenS honeS hiS hc16_1
        generalize (u16v1_0.alloc (.cells #[.int .u64 0, .int .u64 0, .int .u64 0, .int .u64 0, .int .u64 0, .int .u64 0, .int .u64 0, .int .u64 0, .int .u64 0, .int .u64 0, .int .u64 0, .int .u64 0, .int .u64 0, .int .u64 0, .int .u64 0, .int .u64 0] 31)).setCells u16v1_0.heap.size 0 cs16 = W14 at *
        generalize u16v1_0.heap.size = b14 at *
        subst hcs
        replace A2 : Hid (Arr W14 (w.heap.size) (List.map (Value.int .u8) K)) := A2.out.later hX.out
        replace A4 : Hid (Arr W14 q2 (List.map (Value.int .u8) (List.replicate 32 0))) := A4.out.later hX.out
        replace N5 : Hid (Wrd W14 b5 l5) := N5.out.later hX.out
        replace N6 : Hid (Wrd W14 b6 l8) := N6.out.later hX.out
        replace N7 : Hid (Wrd W14 b7 l9) := N7.out.later hX.out
        replace N8 : Hid (Wrd W14 b8 l6) := N8.out.later hX.out
        replace N9 : Hid (Wrd W14 b9 l7) := N9.out.later hX.out
        replace N12 : Hid (Wrd W14 b12 z48) := N12.out.later hX.out
        replace N13 : Hid (Wrd W14 b13 z51) := N13.out.later hX.out
        replace HG : Hid (Gp W14) := HG.out.later hX.out
        replace HB : Hid (Below w.heap.size w W14) := HB.out.trans (Below.mono hX.out HB.out.size)
        clear hX
        obtain ⟨n14, hn14⟩ : ∃ n : Int, n = (n12 * n12 % 57896044618658097711785492504343953926634992332820282019728792003956564819949) := ⟨_, rfl⟩
        have Hn14 : Hid (n14 = fm n12 n12) := hn14
        have en14 : El n14 := by rw [hn14]; exact (El.mod (n12 * n12))
        rw [← hn14] at Hz54
        clear hn14
        go_wp2_with (first | (refine wpList_load_mid rfl 31 (.tmp 13) rfl b13 0 rfl (List.map (Value.int .u64) z51) _ N13.out.rng Tryd.underlying31 rfl (no_cells hlz13).2.2 ?_) | (refine wpList_load_mid rfl 31 (.tmp 13) rfl b13 0 rfl (List.map (Value.int .u64) z51) _ N13.out.rng Tryd.underlying31 rfl (no_cells hlz13).2.2 ?_))
        refine (rmul_el z51 z51 n13 n13 en13 en13 Hz51 Hz51 _ HG.out).mono ?_
        rintro e u17v1_0 ⟨z57, rfl, Hz57, hb17_0⟩
        have hc17_1 : Hid (Below W14.heap.size W14 u17v1_0) := hb17_0
        clear hb17_0
        have hgw15 : W14.heap.size ≤ u17v1_0.heap.size := hc17_1.out.size
        have ln15_A2 : (w.heap.size) < u17v1_0.heap.size := Nat.lt_of_lt_of_le A2.out.lt hgw15
        have ln15_A4 : q2 < u17v1_0.heap.size := Nat.lt_of_lt_of_le A4.out.lt hgw15
        have ln15_N5 : b5 < u17v1_0.heap.size := Nat.lt_of_lt_of_le N5.out.lt hgw15
        have ln15_N6 : b6 < u17v1_0.heap.size := Nat.lt_of_lt_of_le N6.out.lt hgw15
        have ln15_N7 : b7 < u17v1_0.heap.size := Nat.lt_of_lt_of_le N7.out.lt hgw15
        have ln15_N8 : b8 < u17v1_0.heap.size := Nat.lt_of_lt_of_le N8.out.lt hgw15
        have ln15_N9 : b9 < u17v1_0.heap.size := Nat.lt_of_lt_of_le N9.out.lt hgw15
        have ln15_N12 : b12 < u17v1_0.heap.size := Nat.lt_of_lt_of_le N12.out.lt hgw15
        have ln15_N13 : b13 < u17v1_0.heap.size := Nat.lt_of_lt_of_le N13.out.lt hgw15
        have ln15_N14 : b14 < u17v1_0.heap.size := Nat.lt_of_lt_of_le N14.out.lt hgw15
        have hlz15 : z57.length = 16 := by rw [Hz57.out, dg_length]
        obtain ⟨hlenS, honeS, hiS⟩ := no_cells hlz15
        have hth := there_new u17v1_0 16 #[.int .u64 0, .int .u64 0, .int .u64 0, .int .u64 0, .int .u64 0, .int .u64 0, .int .u64 0, .int .u64 0, .int .u64 0, .int .u64 0, .int .u64 0, .int .u64 0, .int .u64 0, .int .u64 0, .int .u64 0, .int .u64 0] rfl 31
        have N15 : Hid (Wrd ((u17v1_0.alloc (.cells #[.int .u64 0, .int .u64 0, .int .u64 0, .int .u64 0, .int .u64 0, .int .u64 0, .int .u64 0, .int .u64 0, .int .u64 0, .int .u64 0, .int .u64 0, .int .u64 0, .int .u64 0, .int .u64 0, .int .u64 0, .int .u64 0] 31)).setCells u17v1_0.heap.size 0 (List.map (Value.int .u64) z57)) (u17v1_0.heap.size) z57) := wrd_store hth z57 hlz15
        have hX : Hid (Below W14.heap.size W14 ((u17v1_0.alloc (.cells #[.int .u64 0, .int .u64 0, .int .u64 0, .int .u64 0, .int .u64 0, .int .u64 0, .int .u64 0, .int .u64 0, .int .u64 0, .int .u64 0, .int .u64 0, .int .u64 0, .int .u64 0, .int .u64 0, .int .u64 0, .int .u64 0] 31)).setCells u17v1_0.heap.size 0 (List.map (Value.int .u64) z57))) := hc17_1.out.trans ((below_setCells _ (Nat.le_refl _) _ _ _ (bel1 _ _)).mono hc17_1.out.size)
        generalize hcs : (List.map (Value.int .u64) z57) = cs17 at *
        go_upto_region 18 with (refine wpList_store_mid rfl 31 (.tmp 15) (.tmp 57) rfl (u17v1_0.heap.size) 0 cs17.toArray rfl rfl (by simpa [hlenS] using hth) (by simpa using hiS) (all_oneCell_toArray honeS) ?_)
        clear hth hlenS honeS hiS hc17_1
        generalize (u17v1_0.alloc (.cells #[.int .u64 0, .int .u64 0, .int .u64 0, .int .u64 0, .int .u64 0, .int .u64 0, .int .u64 0, .int .u64 0, .int .u64 0, .int .u64 0, .int .u64 0, .int .u64 0, .int .u64 0, .int .u64 0, .int .u64 0, .int .u64 0] 31)).setCells u17v1_0.heap.size 0 cs17 = W15 at *
        generalize u17v1_0.heap.size = b15 at *
        subst hcs
        replace A2 : Hid (Arr W15 (w.heap.size) (List.map (Value.int .u8) K)) := A2.out.later hX.out
        replace A4 : Hid (Arr W15 q2 (List.map (Value.int .u8) (List.replicate 32 0))) := A4.out.later hX.out
        replace N5 : Hid (Wrd W15 b5 l5) := N5.out.later hX.out
        replace N6 : Hid (Wrd W15 b6 l8) := N6.out.later hX.out
        replace N7 : Hid (Wrd W15 b7 l9) := N7.out.later hX.out
        replace N8 : Hid (Wrd W15 b8 l6) := N8.out.later hX.out
        replace N9 : Hid (Wrd W15 b9 l7) := N9.out.later hX.out
        replace N12 : Hid (Wrd W15 b12 z48) := N12.out.later hX.out
        replace N13 : Hid (Wrd W15 b13 z51) := N13.out.later hX.out
        replace N14 : Hid (Wrd W15 b14 z54) := N14.out.later hX.out
        replace HG : Hid (Gp W15) := HG.out.later hX.out
        replace HB : Hid (Below w.heap.size w W15) := HB.out.trans (Below.mono hX.out HB.out.size)
        clear hX
        obtain ⟨n15, hn15⟩ : ∃ n : Int, n = (n13 * n13 % 57896044618658097711785492504343953926634992332820282019728792003956564819949) := ⟨_, rfl⟩
        have Hn15 : Hid (n15 = fm n13 n13) := hn15
        have en15 : El n15 := by rw [hn15]; exact (El.mod (n13 * n13))
        rw [← hn15] at Hz57
        clear hn15
        go_wp2_with (first | (refine wpList_load_mid rfl 31 (.tmp 14) rfl b14 0 rfl (List.map (Value.int .u64) z54) _ N14.out.rng Tryd.underlying31 rfl (no_cells hlz14).2.2 ?_) | (refine wpList_load_mid rfl 31 (.tmp 15) rfl b15 0 rfl (List.map (Value.int .u64) z57) _ N15.out.rng Tryd.underlying31 rfl (no_cells hlz15).2.2 ?_))
        refine (rsub_el z54 z57 n14 n15 en14 en15 Hz54 Hz57 _ HG.out).mono ?_
        rintro e u18v1_0 ⟨z60, rfl, Hz60, hb18_0⟩
        have hc18_1 : Hid (Below W15.heap.size W15 u18v1_0) := hb18_0
        clear hb18_0
        have hgw16 : W15.heap.size ≤ u18v1_0.heap.size := hc18_1.out.size
        have ln16_A2 : (w.heap.size) < u18v1_0.heap.size := Nat.lt_of_lt_of_le A2.out.lt hgw16
        have ln16_A4 : q2 < u18v1_0.heap.size := Nat.lt_of_lt_of_le A4.out.lt hgw16
        have ln16_N5 : b5 < u18v1_0.heap.size := Nat.lt_of_lt_of_le N5.out.lt hgw16
        have ln16_N6 : b6 < u18v1_0.heap.size := Nat.lt_of_lt_of_le N6.out.lt hgw16
        have ln16_N7 : b7 < u18v1_0.heap.size := Nat.lt_of_lt_of_le N7.out.lt hgw16
        have ln16_N8 : b8 < u18v1_0.heap.size := Nat.lt_of_lt_of_le N8.out.lt hgw16
        have ln16_N9 : b9 < u18v1_0.heap.size := Nat.lt_of_lt_of_le N9.out.lt hgw16
        have ln16_N12 : b12 < u18v1_0.heap.size := Nat.lt_of_lt_of_le N12.out.lt hgw16
        have ln16_N13 : b13 < u18v1_0.heap.size := Nat.lt_of_lt_of_le N13.out.lt hgw16
        have ln16_N14 : b14 < u18v1_0.heap.size := Nat.lt_of_lt_of_le N14.out.lt hgw16
        have ln16_N15 : b15 < u18v1_0.heap.size := Nat.lt_of_lt_of_le N15.out.lt hgw16
        have hlz16 : z60.length = 16 := by rw [Hz60.out, dg_length]
        obtain ⟨hlenS, honeS, hiS⟩ := no_cells hlz16
        have hth := there_new u18v1_0 16 #[.int .u64 0, .int .u64 0, .int .u64 0, .int .u64 0, .int .u64 0, .int .u64 0, .int .u64 0, .int .u64 0, .int .u64 0, .int .u64 0, .int .u64 0, .int .u64 0, .int .u64 0, .int .u64 0, .int .u64 0, .int .u64 0] rfl 31
        have N16 : Hid (Wrd ((u18v1_0.alloc (.cells #[.int .u64 0, .int .u64 0, .int .u64 0, .int .u64 0, .int .u64 0, .int .u64 0, .int .u64 0, .int .u64 0, .int .u64 0, .int .u64 0, .int .u64 0, .int .u64 0, .int .u64 0, .int .u64 0, .int .u64 0, .int .u64 0] 31)).setCells u18v1_0.heap.size 0 (List.map (Value.int .u64) z60)) (u18v1_0.heap.size) z60) := wrd_store hth z60 hlz16
        have hX : Hid (Below W15.heap.size W15 ((u18v1_0.alloc (.cells #[.int .u64 0, .int .u64 0, .int .u64 0, .int .u64 0, .int .u64 0, .int .u64 0, .int .u64 0, .int .u64 0, .int .u64 0, .int .u64 0, .int .u64 0, .int .u64 0, .int .u64 0, .int .u64 0, .int .u64 0, .int .u64 0] 31)).setCells u18v1_0.heap.size 0 (List.map (Value.int .u64) z60))) := hc18_1.out.trans ((below_setCells _ (Nat.le_refl _) _ _ _ (bel1 _ _)).mono hc18_1.out.size)
        generalize hcs : (List.map (Value.int .u64) z60) = cs18 at *
        go_upto_region 19 with (refine wpList_store_mid rfl 31 (.tmp 16) (.tmp 60) rfl (u18v1_0.heap.size) 0 cs18.toArray rfl rfl (by simpa [hlenS] using hth) (by simpa using hiS) (all_oneCell_toArray honeS) ?_)
        clear hth hlenS honeS hiS hc18_1
        generalize (u18v1_0.alloc (.cells #[.int .u64 0, .int .u64 0, .int .u64 0, .int .u64 0, .int .u64 0, .int .u64 0, .int .u64 0, .int .u64 0, .int .u64 0, .int .u64 0, .int .u64 0, .int .u64 0, .int .u64 0, .int .u64 0, .int .u64 0, .int .u64 0] 31)).setCells u18v1_0.heap.size 0 cs18 = W16 at *
        generalize u18v1_0.heap.size = b16 at *
        subst hcs
        replace A2 : Hid (Arr W16 (w.heap.size) (List.map (Value.int .u8) K)) := A2.out.later hX.out
        replace A4 : Hid (Arr W16 q2 (List.map (Value.int .u8) (List.replicate 32 0))) := A4.out.later hX.out
        replace N5 : Hid (Wrd W16 b5 l5) := N5.out.later hX.out
        replace N6 : Hid (Wrd W16 b6 l8) := N6.out.later hX.out
        replace N7 : Hid (Wrd W16 b7 l9) := N7.out.later hX.out
        replace N8 : Hid (Wrd W16 b8 l6) := N8.out.later hX.out
        replace N9 : Hid (Wrd W16 b9 l7) := N9.out.later hX.out
        replace N12 : Hid (Wrd W16 b12 z48) := N12.out.later hX.out
        replace N13 : Hid (Wrd W16 b13 z51) := N13.out.later hX.out
        replace N14 : Hid (Wrd W16 b14 z54) := N14.out.later hX.out
        replace N15 : Hid (Wrd W16 b15 z57) := N15.out.later hX.out
        replace HG : Hid (Gp W16) := HG.out.later hX.out
        replace HB : Hid (Below w.heap.size w W16) := HB.out.trans (Below.mono hX.out HB.out.size)
        clear hX
        obtain ⟨n16, hn16⟩ : ∃ n : Int, n = ((n14 - n15) % 57896044618658097711785492504343953926634992332820282019728792003956564819949) := ⟨_, rfl⟩
        have Hn16 : Hid (n16 = fs n14 n15) := hn16
        have en16 : El n16 := by rw [hn16]; exact (El.mod (n14 - n15))
        rw [← hn16] at Hz60
        clear hn16
        have lw19v1_A2 : (w.heap.size) < W16.heap.size := A2.out.lt
        have lw19v1_A4 : q2 < W16.heap.size := A4.out.lt
        have lw19v1_N5 : b5 < W16.heap.size := N5.out.lt
        have lw19v1_N6 : b6 < W16.heap.size := N6.out.lt
        have lw19v1_N7 : b7 < W16.heap.size := N7.out.lt
        have lw19v1_N8 : b8 < W16.heap.size := N8.out.lt
        have lw19v1_N9 : b9 < W16.heap.size := N9.out.lt
        have lw19v1_N12 : b12 < W16.heap.size := N12.out.lt
        have lw19v1_N13 : b13 < W16.heap.size := N13.out.lt
        have lw19v1_N14 : b14 < W16.heap.size := N14.out.lt
        have lw19v1_N15 : b15 < W16.heap.size := N15.out.lt
        have lw19v1_N16 : b16 < W16.heap.size := N16.out.lt
        try simp only [Act.put]
        go_cut [17] from 27 to 102 (fun tv wc => ∃ (b : Nat) (zl : List Int), tv = .pointer (some ⟨b, 0, none⟩) ∧ Hid (zl = dg 16 (fm (fs x2 z2) n12)) ∧ Hid (Wrd wc b zl) ∧ W16.heap.size ≤ b ∧ Hid (Below W16.heap.size W16 wc))
        case first =>
          refine wp_region_noPanic ?_
          refine wp_region_held_drew (S := Ext W16) (by kernel_rfl) (Ext.refl _).drew (fun hH => ?_)
          change wpAnyH _ _ _ _ _ _ #[false, false, false, false, false, false, false] _ _
          generalize W16.drew = y0 at *
          refine wpAnyH_take (i := 0) (oi := ?o019v1n1) (v := .agg (List.map (Value.int .u64) l6).toArray) ?h019v1n1 (by kernel_rfl) ?f019v1n1 ?r019v1n1 (fun _ _ _ h => h) ?y019v1n1 (by assumption) ?t019v1n1
          case h019v1n1 => simp only [List.getElem?_toArray]; rfl
          case f019v1n1 => kernel_rfl
          case r019v1n1 => kernel_rfl
          case y019v1n1 => exact yieldsIf_load_mid (by rfl) 31 (.tmp 8) rfl b8 0 rfl (List.map (Value.int .u64) l6) _ (fun u hu => range_later hu N8.out.rng) Tryd.underlying31 rfl (no_cells hl6).2.2
          try simp only [Act.put, List.setIfInBounds_toArray, List.set_cons_zero, List.set_cons_succ]
          refine wpAnyH_take (i := 1) (oi := ?o119v1n2) (v := .agg (List.map (Value.int .u64) l7).toArray) ?h119v1n2 (by kernel_rfl) ?f119v1n2 ?r119v1n2 (fun _ _ _ h => h) ?y119v1n2 (by assumption) ?t119v1n2
          case h119v1n2 => simp only [List.getElem?_toArray]; rfl
          case f119v1n2 => kernel_rfl
          case r119v1n2 => kernel_rfl
          case y119v1n2 => exact yieldsIf_load_mid (by rfl) 31 (.tmp 9) rfl b9 0 rfl (List.map (Value.int .u64) l7) _ (fun u hu => range_later hu N9.out.rng) Tryd.underlying31 rfl (no_cells hl7).2.2
          try simp only [Act.put, List.setIfInBounds_toArray, List.set_cons_zero, List.set_cons_succ]
          refine wpAnyH_take (i := 3) (oi := ?o319v1n3) (v := .agg (List.map (Value.int .u64) z48).toArray) ?h319v1n3 (by kernel_rfl) ?f319v1n3 ?r319v1n3 (fun _ _ _ h => h) ?y319v1n3 (by assumption) ?t319v1n3
          case h319v1n3 => simp only [List.getElem?_toArray]; rfl
          case f319v1n3 => kernel_rfl
          case r319v1n3 => kernel_rfl
          case y319v1n3 => exact yieldsIf_load_mid (by rfl) 31 (.tmp 12) rfl b12 0 rfl (List.map (Value.int .u64) z48) _ (fun u hu => range_later hu N12.out.rng) Tryd.underlying31 rfl (no_cells hlz12).2.2
          try simp only [Act.put, List.setIfInBounds_toArray, List.set_cons_zero, List.set_cons_succ]
          refine wpAnyH_ready (rs := [2, 5]) (by kernel_rfl) (by simp) ?_
          refine AllReadyH.cons (o := ?o219v1n4) ?h219v1n4 (fun K hK => ?c219v1n4) (AllReadyH.cons (o := ?o519v1n4) ?h519v1n4 (fun K hK => ?c519v1n4) AllReadyH.nil)
          case h219v1n4 => simp only [List.getElem?_toArray]; rfl
          case h519v1n4 => simp only [List.getElem?_toArray]; rfl
          case c219v1n4 =>
            go_simp
            refine (rsub_el l6 l7 x2 z2 hx2 hz2 E6 E7 _ (Gp.later HG.out hH)).mono ?_
            rintro e y19v1n5 ⟨z63, rfl, Hz63, hb19v1n5⟩
            refine hK.out _ _ (hH.trans hb19v1n5) (fun hH' => ?_)
            clear hK K hH
            have hH := hH'
            clear hH'
            try simp only [List.setIfInBounds_toArray, List.set]
            clear hb19v1n5
            refine wpAnyH_ready (rs := [4, 5]) (by kernel_rfl) (by simp) ?_
            refine AllReadyH.cons (o := ?o419v1n6) ?h419v1n6 (fun K hK => ?c419v1n6) (AllReadyH.cons (o := ?o519v1n6) ?h519v1n6 (fun K hK => ?c519v1n6) AllReadyH.nil)
            case h419v1n6 => simp only [List.getElem?_toArray]; rfl
            case h519v1n6 => simp only [List.getElem?_toArray]; rfl
            case c419v1n6 =>
              go_simp
              refine (rmul_el z63 z48 ((x2 - z2) % 57896044618658097711785492504343953926634992332820282019728792003956564819949) n12 (El.mod (x2 - z2)) en12 Hz63 Hz48 _ (Gp.later HG.out hH)).mono ?_
              rintro e y19v1n7 ⟨z65, rfl, Hz65, hb19v1n7⟩
              refine hK.out _ _ (hH.trans hb19v1n7) (fun hH' => ?_)
              clear hK K hH
              have hH := hH'
              clear hH'
              try simp only [List.setIfInBounds_toArray, List.set]
              clear hb19v1n7
              refine wpAnyH_ready (rs := [5]) (by kernel_rfl) (by simp) ?_
              refine AllReadyH.cons (o := ?o519v1n8) ?h519v1n8 (fun K hK => ?_) AllReadyH.nil
              case h519v1n8 => simp only [List.getElem?_toArray]; rfl
              go_simp
              have hLw : W16.heap.size ≤ y19v1n7.heap.size := hH.size
              refine hK.out _ _ (hH.trans (bel1 _ _)) (fun hH' => ?_)
              clear hK K hH
              have hH := hH'
              clear hH'
              try simp only [List.setIfInBounds_toArray, List.set]
              have hD : Hid ((y19v1n7.alloc (.cells #[.int .u64 0, .int .u64 0, .int .u64 0, .int .u64 0, .int .u64 0, .int .u64 0, .int .u64 0, .int .u64 0, .int .u64 0, .int .u64 0, .int .u64 0, .int .u64 0, .int .u64 0, .int .u64 0, .int .u64 0, .int .u64 0] 31)).there y19v1n7.heap.size 0 16) := there_new y19v1n7 16 #[.int .u64 0, .int .u64 0, .int .u64 0, .int .u64 0, .int .u64 0, .int .u64 0, .int .u64 0, .int .u64 0, .int .u64 0, .int .u64 0, .int .u64 0, .int .u64 0, .int .u64 0, .int .u64 0, .int .u64 0, .int .u64 0] rfl 31
              generalize y19v1n7.alloc (.cells #[.int .u64 0, .int .u64 0, .int .u64 0, .int .u64 0, .int .u64 0, .int .u64 0, .int .u64 0, .int .u64 0, .int .u64 0, .int .u64 0, .int .u64 0, .int .u64 0, .int .u64 0, .int .u64 0, .int .u64 0, .int .u64 0] 31) = x19v1n9 at *
              generalize y19v1n7.heap.size = bw at *
              have hlw : z65.length = 16 := by rw [Hz65.out, dg_length]
              obtain ⟨hlenw, honew, hiw⟩ := no_cells hlw
              have HPw : Hid (z65 = dg 16 (fm (fs x2 z2) n12)) := by unfold Hid; rw [Hz65.out]; rfl
              have hWw : Hid (Wrd (x19v1n9.setCells bw 0 (List.map (Value.int .u64) z65)) bw z65) := wrd_store hD.out z65 hlw
              generalize (List.map (Value.int .u64) z65) = csw at *
              refine wpAnyH_ready (rs := [6]) (by kernel_rfl) (by simp) ?_
              refine AllReadyH.cons (o := ?o19v1n10) ?h19v1n10 (fun K hK => ?_) AllReadyH.nil
              case h19v1n10 => simp only [List.getElem?_toArray]; rfl
              refine wp_store_mid 31 (.tmp 17) (.tmp 65) rfl bw 0 csw.toArray rfl rfl (by simpa [hlenw] using hD.out) (by simpa using hiw) (all_oneCell_toArray honew) ?_
              refine hK.out _ _ (below_setCells _ (by omega) _ _ _ hH) (fun hH' => ?_)
              clear hK K hH
              have hH := hH'
              clear hH'
              try simp only [List.setIfInBounds_toArray, List.set]
              refine wpAnyH_done (by kernel_rfl) ?_ _
              refine NoPanic.normal ?_
              go_wp2_with fail
              go_meet
              case rel => exact ⟨bw, z65, rfl, HPw, hWw, hLw, hH⟩
            case c519v1n6 =>
              go_simp
              have hLw : W16.heap.size ≤ y19v1n5.heap.size := hH.size
              refine hK.out _ _ (hH.trans (bel1 _ _)) (fun hH' => ?_)
              clear hK K hH
              have hH := hH'
              clear hH'
              try simp only [List.setIfInBounds_toArray, List.set]
              have hD : Hid ((y19v1n5.alloc (.cells #[.int .u64 0, .int .u64 0, .int .u64 0, .int .u64 0, .int .u64 0, .int .u64 0, .int .u64 0, .int .u64 0, .int .u64 0, .int .u64 0, .int .u64 0, .int .u64 0, .int .u64 0, .int .u64 0, .int .u64 0, .int .u64 0] 31)).there y19v1n5.heap.size 0 16) := there_new y19v1n5 16 #[.int .u64 0, .int .u64 0, .int .u64 0, .int .u64 0, .int .u64 0, .int .u64 0, .int .u64 0, .int .u64 0, .int .u64 0, .int .u64 0, .int .u64 0, .int .u64 0, .int .u64 0, .int .u64 0, .int .u64 0, .int .u64 0] rfl 31
              generalize y19v1n5.alloc (.cells #[.int .u64 0, .int .u64 0, .int .u64 0, .int .u64 0, .int .u64 0, .int .u64 0, .int .u64 0, .int .u64 0, .int .u64 0, .int .u64 0, .int .u64 0, .int .u64 0, .int .u64 0, .int .u64 0, .int .u64 0, .int .u64 0] 31) = x19v1n11 at *
              generalize y19v1n5.heap.size = bw at *
              refine wpAnyH_ready (rs := [4]) (by kernel_rfl) (by simp) ?_
              refine AllReadyH.cons (o := ?o419v1n12) ?h419v1n12 (fun K hK => ?_) AllReadyH.nil
              case h419v1n12 => simp only [List.getElem?_toArray]; rfl
              go_simp
              refine (rmul_el z63 z48 ((x2 - z2) % 57896044618658097711785492504343953926634992332820282019728792003956564819949) n12 (El.mod (x2 - z2)) en12 Hz63 Hz48 _ (Gp.later HG.out hH)).mono ?_
              rintro e y19v1n13 ⟨z65, rfl, Hz65, hb19v1n13⟩
              refine hK.out _ _ (hH.trans hb19v1n13) (fun hH' => ?_)
              clear hK K hH
              have hH := hH'
              clear hH'
              try simp only [List.setIfInBounds_toArray, List.set]
              replace hD : Hid (y19v1n13.there bw 0 16) := there_later hb19v1n13 hD.out
              clear hb19v1n13
              have hlw : z65.length = 16 := by rw [Hz65.out, dg_length]
              obtain ⟨hlenw, honew, hiw⟩ := no_cells hlw
              have HPw : Hid (z65 = dg 16 (fm (fs x2 z2) n12)) := by unfold Hid; rw [Hz65.out]; rfl
              have hWw : Hid (Wrd (y19v1n13.setCells bw 0 (List.map (Value.int .u64) z65)) bw z65) := wrd_store hD.out z65 hlw
              generalize (List.map (Value.int .u64) z65) = csw at *
              refine wpAnyH_ready (rs := [6]) (by kernel_rfl) (by simp) ?_
              refine AllReadyH.cons (o := ?o19v1n14) ?h19v1n14 (fun K hK => ?_) AllReadyH.nil
              case h19v1n14 => simp only [List.getElem?_toArray]; rfl
              refine wp_store_mid 31 (.tmp 17) (.tmp 65) rfl bw 0 csw.toArray rfl rfl (by simpa [hlenw] using hD.out) (by simpa using hiw) (all_oneCell_toArray honew) ?_
              refine hK.out _ _ (below_setCells _ (by omega) _ _ _ hH) (fun hH' => ?_)
              clear hK K hH
              have hH := hH'
              clear hH'
              try simp only [List.setIfInBounds_toArray, List.set]
              refine wpAnyH_done (by kernel_rfl) ?_ _
              refine NoPanic.normal ?_
              go_wp2_with fail
              go_meet
              case rel => exact ⟨bw, z65, rfl, HPw, hWw, hLw, hH⟩
          case c519v1n4 =>
            go_simp
            have hLw : W16.heap.size ≤ y0.heap.size := hH.size
            refine hK.out _ _ (hH.trans (bel1 _ _)) (fun hH' => ?_)
            clear hK K hH
            have hH := hH'
            clear hH'
            try simp only [List.setIfInBounds_toArray, List.set]
            have hD : Hid ((y0.alloc (.cells #[.int .u64 0, .int .u64 0, .int .u64 0, .int .u64 0, .int .u64 0, .int .u64 0, .int .u64 0, .int .u64 0, .int .u64 0, .int .u64 0, .int .u64 0, .int .u64 0, .int .u64 0, .int .u64 0, .int .u64 0, .int .u64 0] 31)).there y0.heap.size 0 16) := there_new y0 16 #[.int .u64 0, .int .u64 0, .int .u64 0, .int .u64 0, .int .u64 0, .int .u64 0, .int .u64 0, .int .u64 0, .int .u64 0, .int .u64 0, .int .u64 0, .int .u64 0, .int .u64 0, .int .u64 0, .int .u64 0, .int .u64 0] rfl 31
            generalize y0.alloc (.cells #[.int .u64 0, .int .u64 0, .int .u64 0, .int .u64 0, .int .u64 0, .int .u64 0, .int .u64 0, .int .u64 0, .int .u64 0, .int .u64 0, .int .u64 0, .int .u64 0, .int .u64 0, .int .u64 0, .int .u64 0, .int .u64 0] 31) = x19v1n15 at *
            generalize y0.heap.size = bw at *
            refine wpAnyH_ready (rs := [2]) (by kernel_rfl) (by simp) ?_
            refine AllReadyH.cons (o := ?o219v1n16) ?h219v1n16 (fun K hK => ?_) AllReadyH.nil
            case h219v1n16 => simp only [List.getElem?_toArray]; rfl
            go_simp
            refine (rsub_el l6 l7 x2 z2 hx2 hz2 E6 E7 _ (Gp.later HG.out hH)).mono ?_
            rintro e y19v1n17 ⟨z63, rfl, Hz63, hb19v1n17⟩
            refine hK.out _ _ (hH.trans hb19v1n17) (fun hH' => ?_)
            clear hK K hH
            have hH := hH'
            clear hH'
            try simp only [List.setIfInBounds_toArray, List.set]
            replace hD : Hid (y19v1n17.there bw 0 16) := there_later hb19v1n17 hD.out
            clear hb19v1n17
            refine wpAnyH_ready (rs := [4]) (by kernel_rfl) (by simp) ?_
            refine AllReadyH.cons (o := ?o419v1n18) ?h419v1n18 (fun K hK => ?_) AllReadyH.nil
            case h419v1n18 => simp only [List.getElem?_toArray]; rfl
            go_simp
            refine (rmul_el z63 z48 ((x2 - z2) % 57896044618658097711785492504343953926634992332820282019728792003956564819949) n12 (El.mod (x2 - z2)) en12 Hz63 Hz48 _ (Gp.later HG.out hH)).mono ?_
            rintro e y19v1n19 ⟨z65, rfl, Hz65, hb19v1n19⟩
            refine hK.out _ _ (hH.trans hb19v1n19) (fun hH' => ?_)
            clear hK K hH
            have hH := hH'
            clear hH'
            try simp only [List.setIfInBounds_toArray, List.set]
            replace hD : Hid (y19v1n19.there bw 0 16) := there_later hb19v1n19 hD.out
            clear hb19v1n19
            have hlw : z65.length = 16 := by rw [Hz65.out, dg_length]
            obtain ⟨hlenw, honew, hiw⟩ := no_cells hlw
            have HPw : Hid (z65 = dg 16 (fm (fs x2 z2) n12)) := by unfold Hid; rw [Hz65.out]; rfl
            have hWw : Hid (Wrd (y19v1n19.setCells bw 0 (List.map (Value.int .u64) z65)) bw z65) := wrd_store hD.out z65 hlw
            generalize (List.map (Value.int .u64) z65) = csw at *
            refine wpAnyH_ready (rs := [6]) (by kernel_rfl) (by simp) ?_
            refine AllReadyH.cons (o := ?o19v1n20) ?h19v1n20 (fun K hK => ?_) AllReadyH.nil
            case h19v1n20 => simp only [List.getElem?_toArray]; rfl
            refine wp_store_mid 31 (.tmp 17) (.tmp 65) rfl bw 0 csw.toArray rfl rfl (by simpa [hlenw] using hD.out) (by simpa using hiw) (all_oneCell_toArray honew) ?_
            refine hK.out _ _ (below_setCells _ (by omega) _ _ _ hH) (fun hH' => ?_)
            clear hK K hH
            have hH := hH'
            clear hH'
            try simp only [List.setIfInBounds_toArray, List.set]
            refine wpAnyH_done (by kernel_rfl) ?_ _
            refine NoPanic.normal ?_
            go_wp2_with fail
            go_meet
            case rel => exact ⟨bw, z65, rfl, HPw, hWw, hLw, hH⟩
        obtain ⟨b17, z17l, rfl, Hz17l, N17, hge17, hX⟩ := hcut
        have hlz17 : z17l.length = 16 := by rw [Hz17l.out, dg_length]
        generalize wc = W17v1 at *
        replace A2 : Hid (Arr W17v1 (w.heap.size) (List.map (Value.int .u8) K)) := A2.out.later hX.out
        replace A4 : Hid (Arr W17v1 q2 (List.map (Value.int .u8) (List.replicate 32 0))) := A4.out.later hX.out
        replace N5 : Hid (Wrd W17v1 b5 l5) := N5.out.later hX.out
        replace N6 : Hid (Wrd W17v1 b6 l8) := N6.out.later hX.out
        replace N7 : Hid (Wrd W17v1 b7 l9) := N7.out.later hX.out
        replace N8 : Hid (Wrd W17v1 b8 l6) := N8.out.later hX.out
        replace N9 : Hid (Wrd W17v1 b9 l7) := N9.out.later hX.out
        replace N12 : Hid (Wrd W17v1 b12 z48) := N12.out.later hX.out
        replace N13 : Hid (Wrd W17v1 b13 z51) := N13.out.later hX.out
        replace N14 : Hid (Wrd W17v1 b14 z54) := N14.out.later hX.out
        replace N15 : Hid (Wrd W17v1 b15 z57) := N15.out.later hX.out
        replace N16 : Hid (Wrd W17v1 b16 z60) := N16.out.later hX.out
        replace HG : Hid (Gp W17v1) := HG.out.later hX.out
        replace HB : Hid (Below w.heap.size w W17v1) := HB.out.trans (Below.mono hX.out HB.out.size)
        clear hX
        go_upto_region 20 with fail
        obtain ⟨n17, hn17⟩ : ∃ n : Int, n = (fm (fs x2 z2) n12) := ⟨_, rfl⟩
        have Hn17 : Hid (n17 = fm (fs x2 z2) n12) := hn17
        have en17 : El n17 := by rw [hn17]; exact (El.mod _)
        rw [← hn17] at Hz17l
        clear hn17
        have lw20v1_A2 : (w.heap.size) < W17v1.heap.size := A2.out.lt
        have lw20v1_A4 : q2 < W17v1.heap.size := A4.out.lt
        have lw20v1_N5 : b5 < W17v1.heap.size := N5.out.lt
        have lw20v1_N6 : b6 < W17v1.heap.size := N6.out.lt
        have lw20v1_N7 : b7 < W17v1.heap.size := N7.out.lt
        have lw20v1_N8 : b8 < W17v1.heap.size := N8.out.lt
        have lw20v1_N9 : b9 < W17v1.heap.size := N9.out.lt
        have lw20v1_N12 : b12 < W17v1.heap.size := N12.out.lt
        have lw20v1_N13 : b13 < W17v1.heap.size := N13.out.lt
        have lw20v1_N14 : b14 < W17v1.heap.size := N14.out.lt
        have lw20v1_N15 : b15 < W17v1.heap.size := N15.out.lt
        have lw20v1_N16 : b16 < W17v1.heap.size := N16.out.lt
        have lw20v1_N17 : b17 < W17v1.heap.size := N17.out.lt
        try simp only [Act.put]
        go_cut [18] from 27 to 102 (fun tv wc => ∃ (b : Nat) (zl : List Int), tv = .pointer (some ⟨b, 0, none⟩) ∧ Hid (zl = dg 16 (fm (fa x2 z2) n13)) ∧ Hid (Wrd wc b zl) ∧ W17v1.heap.size ≤ b ∧ Hid (Below W17v1.heap.size W17v1 wc))
        case first =>
          refine wp_region_noPanic ?_
          refine wp_region_held_drew (S := Ext W17v1) (by kernel_rfl) (Ext.refl _).drew (fun hH => ?_)
          change wpAnyH _ _ _ _ _ _ #[false, false, false, false, false, false, false] _ _
          generalize W17v1.drew = y0 at *
          refine wpAnyH_take (i := 0) (oi := ?o020v1n1) (v := .agg (List.map (Value.int .u64) l6).toArray) ?h020v1n1 (by kernel_rfl) ?f020v1n1 ?r020v1n1 (fun _ _ _ h => h) ?y020v1n1 (by assumption) ?t020v1n1
          case h020v1n1 => simp only [List.getElem?_toArray]; rfl
          case f020v1n1 => kernel_rfl
          case r020v1n1 => kernel_rfl
          case y020v1n1 => exact yieldsIf_load_mid (by rfl) 31 (.tmp 8) rfl b8 0 rfl (List.map (Value.int .u64) l6) _ (fun u hu => range_later hu N8.out.rng) Tryd.underlying31 rfl (no_cells hl6).2.2
          try simp only [Act.put, List.setIfInBounds_toArray, List.set_cons_zero, List.set_cons_succ]
          refine wpAnyH_take (i := 1) (oi := ?o120v1n2) (v := .agg (List.map (Value.int .u64) l7).toArray) ?h120v1n2 (by kernel_rfl) ?f120v1n2 ?r120v1n2 (fun _ _ _ h => h) ?y120v1n2 (by assumption) ?t120v1n2
          case h120v1n2 => simp only [List.getElem?_toArray]; rfl
          case f120v1n2 => kernel_rfl
          case r120v1n2 => kernel_rfl
          case y120v1n2 => exact yieldsIf_load_mid (by rfl) 31 (.tmp 9) rfl b9 0 rfl (List.map (Value.int .u64) l7) _ (fun u hu => range_later hu N9.out.rng) Tryd.underlying31 rfl (no_cells hl7).2.2
          try simp only [Act.put, List.setIfInBounds_toArray, List.set_cons_zero, List.set_cons_succ]
          refine wpAnyH_take (i := 3) (oi := ?o320v1n3) (v := .agg (List.map (Value.int .u64) z51).toArray) ?h320v1n3 (by kernel_rfl) ?f320v1n3 ?r320v1n3 (fun _ _ _ h => h) ?y320v1n3 (by assumption) ?t320v1n3
          case h320v1n3 => simp only [List.getElem?_toArray]; rfl
          case f320v1n3 => kernel_rfl
          case r320v1n3 => kernel_rfl
          case y320v1n3 => exact yieldsIf_load_mid (by rfl) 31 (.tmp 13) rfl b13 0 rfl (List.map (Value.int .u64) z51) _ (fun u hu => range_later hu N13.out.rng) Tryd.underlying31 rfl (no_cells hlz13).2.2
          try simp only [Act.put, List.setIfInBounds_toArray, List.set_cons_zero, List.set_cons_succ]
          refine wpAnyH_ready (rs := [2, 5]) (by kernel_rfl) (by simp) ?_
          refine AllReadyH.cons (o := ?o220v1n4) ?h220v1n4 (fun K hK => ?c220v1n4) (AllReadyH.cons (o := ?o520v1n4) ?h520v1n4 (fun K hK => ?c520v1n4) AllReadyH.nil)
          case h220v1n4 => simp only [List.getElem?_toArray]; rfl
          case h520v1n4 => simp only [List.getElem?_toArray]; rfl
          case c220v1n4 =>
            go_simp
            refine (radd_el l6 l7 x2 z2 hx2 hz2 E6 E7 _ (Gp.later HG.out hH)).mono ?_
            rintro e y20v1n5 ⟨z68, rfl, Hz68, hb20v1n5⟩
            refine hK.out _ _ (hH.trans hb20v1n5) (fun hH' => ?_)
            clear hK K hH
            have hH := hH'
            clear hH'
            try simp only [List.setIfInBounds_toArray, List.set]
            clear hb20v1n5
            refine wpAnyH_ready (rs := [4, 5]) (by kernel_rfl) (by simp) ?_
            refine AllReadyH.cons (o := ?o420v1n6) ?h420v1n6 (fun K hK => ?c420v1n6) (AllReadyH.cons (o := ?o520v1n6) ?h520v1n6 (fun K hK => ?c520v1n6) AllReadyH.nil)
            case h420v1n6 => simp only [List.getElem?_toArray]; rfl
            case h520v1n6 => simp only [List.getElem?_toArray]; rfl
            case c420v1n6 =>
              go_simp
              refine (rmul_el z68 z51 ((x2 + z2) % 57896044618658097711785492504343953926634992332820282019728792003956564819949) n13 (El.mod (x2 + z2)) en13 Hz68 Hz51 _ (Gp.later HG.out hH)).mono ?_
              rintro e y20v1n7 ⟨z70, rfl, Hz70, hb20v1n7⟩
              refine hK.out _ _ (hH.trans hb20v1n7) (fun hH' => ?_)
              clear hK K hH
              have hH := hH'
              clear hH'
              try simp only [List.setIfInBounds_toArray, List.set]
              clear hb20v1n7
              refine wpAnyH_ready (rs := [5]) (by kernel_rfl) (by simp) ?_
              refine AllReadyH.cons (o := ?o520v1n8) ?h520v1n8 (fun K hK => ?_) AllReadyH.nil
              case h520v1n8 => simp only [List.getElem?_toArray]; rfl
              go_simp
              have hLw : W17v1.heap.size ≤ y20v1n7.heap.size := hH.size
              refine hK.out _ _ (hH.trans (bel1 _ _)) (fun hH' => ?_)
              clear hK K hH
              have hH := hH'
              clear hH'
              try simp only [List.setIfInBounds_toArray, List.set]
              have hD : Hid ((y20v1n7.alloc (.cells #[.int .u64 0, .int .u64 0, .int .u64 0, .int .u64 0, .int .u64 0, .int .u64 0, .int .u64 0, .int .u64 0, .int .u64 0, .int .u64 0, .int .u64 0, .int .u64 0, .int .u64 0, .int .u64 0, .int .u64 0, .int .u64 0] 31)).there y20v1n7.heap.size 0 16) := there_new y20v1n7 16 #[.int .u64 0, .int .u64 0, .int .u64 0, .int .u64 0, .int .u64 0, .int .u64 0, .int .u64 0, .int .u64 0, .int .u64 0, .int .u64 0, .int .u64 0, .int .u64 0, .int .u64 0, .int .u64 0, .int .u64 0, .int .u64 0] rfl 31
              generalize y20v1n7.alloc (.cells #[.int .u64 0, .int .u64 0, .int .u64 0, .int .u64 0, .int .u64 0, .int .u64 0, .int .u64 0, .int .u64 0, .int .u64 0, .int .u64 0, .int .u64 0, .int .u64 0, .int .u64 0, .int .u64 0, .int .u64 0, .int .u64 0] 31) = x20v1n9 at *
              generalize y20v1n7.heap.size = bw at *
              have hlw : z70.length = 16 := by rw [Hz70.out, dg_length]
              obtain ⟨hlenw, honew, hiw⟩ := no_cells hlw
              have HPw : Hid (z70 = dg 16 (fm (fa x2 z2) n13)) := by unfold Hid; rw [Hz70.out]; rfl
              have hWw : Hid (Wrd (x20v1n9.setCells bw 0 (List.map (Value.int .u64) z70)) bw z70) := wrd_store hD.out z70 hlw
              generalize (List.map (Value.int .u64) z70) = csw at *
              refine wpAnyH_ready (rs := [6]) (by kernel_rfl) (by simp) ?_
              refine AllReadyH.cons (o := ?o20v1n10) ?h20v1n10 (fun K hK => ?_) AllReadyH.nil
              case h20v1n10 => simp only [List.getElem?_toArray]; rfl
              refine wp_store_mid 31 (.tmp 18) (.tmp 70) rfl bw 0 csw.toArray rfl rfl (by simpa [hlenw] using hD.out) (by simpa using hiw) (all_oneCell_toArray honew) ?_
              refine hK.out _ _ (below_setCells _ (by omega) _ _ _ hH) (fun hH' => ?_)
              clear hK K hH
              have hH := hH'
              clear hH'
              try simp only [List.setIfInBounds_toArray, List.set]
              refine wpAnyH_done (by kernel_rfl) ?_ _
              refine NoPanic.normal ?_
              go_wp2_with fail
              go_meet
              case rel => exact ⟨bw, z70, rfl, HPw, hWw, hLw, hH⟩
            case c520v1n6 =>
              go_simp
              have hLw : W17v1.heap.size ≤ y20v1n5.heap.size := hH.size
              refine hK.out _ _ (hH.trans (bel1 _ _)) (fun hH' => ?_)
              clear hK K hH
              have hH := hH'
              clear hH'
              try simp only [List.setIfInBounds_toArray, List.set]
              have hD : Hid ((y20v1n5.alloc (.cells #[.int .u64 0, .int .u64 0, .int .u64 0, .int .u64 0, .int .u64 0, .int .u64 0, .int .u64 0, .int .u64 0, .int .u64 0, .int .u64 0, .int .u64 0, .int .u64 0, .int .u64 0, .int .u64 0, .int .u64 0, .int .u64 0] 31)).there y20v1n5.heap.size 0 16) := there_new y20v1n5 16 #[.int .u64 0, .int .u64 0, .int .u64 0, .int .u64 0, .int .u64 0, .int .u64 0, .int .u64 0, .int .u64 0, .int .u64 0, .int .u64 0, .int .u64 0, .int .u64 0, .int .u64 0, .int .u64 0, .int .u64 0, .int .u64 0] rfl 31
              generalize y20v1n5.alloc (.cells #[.int .u64 0, .int .u64 0, .int .u64 0, .int .u64 0, .int .u64 0, .int .u64 0, .int .u64 0, .int .u64 0, .int .u64 0, .int .u64 0, .int .u64 0, .int .u64 0, .int .u64 0, .int .u64 0, .int .u64 0, .int .u64 0] 31) = x20v1n11 at *
              generalize y20v1n5.heap.size = bw at *
              refine wpAnyH_ready (rs := [4]) (by kernel_rfl) (by simp) ?_
              refine AllReadyH.cons (o := ?o420v1n12) ?h420v1n12 (fun K hK => ?_) AllReadyH.nil
              case h420v1n12 => simp only [List.getElem?_toArray]; rfl
              go_simp
              refine (rmul_el z68 z51 ((x2 + z2) % 57896044618658097711785492504343953926634992332820282019728792003956564819949) n13 (El.mod (x2 + z2)) en13 Hz68 Hz51 _ (Gp.later HG.out hH)).mono ?_
              rintro e y20v1n13 ⟨z70, rfl, Hz70, hb20v1n13⟩
              refine hK.out _ _ (hH.trans hb20v1n13) (fun hH' => ?_)
              clear hK K hH
              have hH := hH'
              clear hH'
              try simp only [List.setIfInBounds_toArray, List.set]
              replace hD : Hid (y20v1n13.there bw 0 16) := there_later hb20v1n13 hD.out
              clear hb20v1n13
              have hlw : z70.length = 16 := by rw [Hz70.out, dg_length]
              obtain ⟨hlenw, honew, hiw⟩ := no_cells hlw
              have HPw : Hid (z70 = dg 16 (fm (fa x2 z2) n13)) := by unfold Hid; rw [Hz70.out]; rfl
              have hWw : Hid (Wrd (y20v1n13.setCells bw 0 (List.map (Value.int .u64) z70)) bw z70) := wrd_store hD.out z70 hlw
              generalize (List.map (Value.int .u64) z70) = csw at *
              refine wpAnyH_ready (rs := [6]) (by kernel_rfl) (by simp) ?_
              refine AllReadyH.cons (o := ?o20v1n14) ?h20v1n14 (fun K hK => ?_) AllReadyH.nil
              case h20v1n14 => simp only [List.getElem?_toArray]; rfl
              refine wp_store_mid 31 (.tmp 18) (.tmp 70) rfl bw 0 csw.toArray rfl rfl (by simpa [hlenw] using hD.out) (by simpa using hiw) (all_oneCell_toArray honew) ?_
              refine hK.out _ _ (below_setCells _ (by omega) _ _ _ hH) (fun hH' => ?_)
              clear hK K hH
              have hH := hH'
              clear hH'
              try simp only [List.setIfInBounds_toArray, List.set]
              refine wpAnyH_done (by kernel_rfl) ?_ _
              refine NoPanic.normal ?_
              go_wp2_with fail
              go_meet
              case rel => exact ⟨bw, z70, rfl, HPw, hWw, hLw, hH⟩
          case c520v1n4 =>
            go_simp
            have hLw : W17v1.heap.size ≤ y0.heap.size := hH.size
            refine hK.out _ _ (hH.trans (bel1 _ _)) (fun hH' => ?_)
            clear hK K hH
            have hH := hH'
            clear hH'
            try simp only [List.setIfInBounds_toArray, List.set]
            have hD : Hid ((y0.alloc (.cells #[.int .u64 0, .int .u64 0, .int .u64 0, .int .u64 0, .int .u64 0, .int .u64 0, .int .u64 0, .int .u64 0, .int .u64 0, .int .u64 0, .int .u64 0, .int .u64 0, .int .u64 0, .int .u64 0, .int .u64 0, .int .u64 0] 31)).there y0.heap.size 0 16) := there_new y0 16 #[.int .u64 0, .int .u64 0, .int .u64 0, .int .u64 0, .int .u64 0, .int .u64 0, .int .u64 0, .int .u64 0, .int .u64 0, .int .u64 0, .int .u64 0, .int .u64 0, .int .u64 0, .int .u64 0, .int .u64 0, .int .u64 0] rfl 31
            generalize y0.alloc (.cells #[.int .u64 0, .int .u64 0, .int .u64 0, .int .u64 0, .int .u64 0, .int .u64 0, .int .u64 0, .int .u64 0, .int .u64 0, .int .u64 0, .int .u64 0, .int .u64 0, .int .u64 0, .int .u64 0, .int .u64 0, .int .u64 0] 31) = x20v1n15 at *
            generalize y0.heap.size = bw at *
            refine wpAnyH_ready (rs := [2]) (by kernel_rfl) (by simp) ?_
            refine AllReadyH.cons (o := ?o220v1n16) ?h220v1n16 (fun K hK => ?_) AllReadyH.nil
            case h220v1n16 => simp only [List.getElem?_toArray]; rfl
            go_simp
            refine (radd_el l6 l7 x2 z2 hx2 hz2 E6 E7 _ (Gp.later HG.out hH)).mono ?_
            rintro e y20v1n17 ⟨z68, rfl, Hz68, hb20v1n17⟩
            refine hK.out _ _ (hH.trans hb20v1n17) (fun hH' => ?_)
            clear hK K hH
            have hH := hH'
            clear hH'
            try simp only [List.setIfInBounds_toArray, List.set]
            replace hD : Hid (y20v1n17.there bw 0 16) := there_later hb20v1n17 hD.out
            clear hb20v1n17
            refine wpAnyH_ready (rs := [4]) (by kernel_rfl) (by simp) ?_
            refine AllReadyH.cons (o := ?o420v1n18) ?h420v1n18 (fun K hK => ?_) AllReadyH.nil
            case h420v1n18 => simp only [List.getElem?_toArray]; rfl
            go_simp
            refine (rmul_el z68 z51 ((x2 + z2) % 57896044618658097711785492504343953926634992332820282019728792003956564819949) n13 (El.mod (x2 + z2)) en13 Hz68 Hz51 _ (Gp.later HG.out hH)).mono ?_
            rintro e y20v1n19 ⟨z70, rfl, Hz70, hb20v1n19⟩
            refine hK.out _ _ (hH.trans hb20v1n19) (fun hH' => ?_)
            clear hK K hH
            have hH := hH'
            clear hH'
            try simp only [List.setIfInBounds_toArray, List.set]
            replace hD : Hid (y20v1n19.there bw 0 16) := there_later hb20v1n19 hD.out
            clear hb20v1n19
            have hlw : z70.length = 16 := by rw [Hz70.out, dg_length]
            obtain ⟨hlenw, honew, hiw⟩ := no_cells hlw
            have HPw : Hid (z70 = dg 16 (fm (fa x2 z2) n13)) := by unfold Hid; rw [Hz70.out]; rfl
            have hWw : Hid (Wrd (y20v1n19.setCells bw 0 (List.map (Value.int .u64) z70)) bw z70) := wrd_store hD.out z70 hlw
            generalize (List.map (Value.int .u64) z70) = csw at *
            refine wpAnyH_ready (rs := [6]) (by kernel_rfl) (by simp) ?_
            refine AllReadyH.cons (o := ?o20v1n20) ?h20v1n20 (fun K hK => ?_) AllReadyH.nil
            case h20v1n20 => simp only [List.getElem?_toArray]; rfl
            refine wp_store_mid 31 (.tmp 18) (.tmp 70) rfl bw 0 csw.toArray rfl rfl (by simpa [hlenw] using hD.out) (by simpa using hiw) (all_oneCell_toArray honew) ?_
            refine hK.out _ _ (below_setCells _ (by omega) _ _ _ hH) (fun hH' => ?_)
            clear hK K hH
            have hH := hH'
            clear hH'
            try simp only [List.setIfInBounds_toArray, List.set]
            refine wpAnyH_done (by kernel_rfl) ?_ _
            refine NoPanic.normal ?_
            go_wp2_with fail
            go_meet
            case rel => exact ⟨bw, z70, rfl, HPw, hWw, hLw, hH⟩
        obtain ⟨b18, z18l, rfl, Hz18l, N18, hge18, hX⟩ := hcut
        have hlz18 : z18l.length = 16 := by rw [Hz18l.out, dg_length]
        generalize wc = W18v1 at *
        replace A2 : Hid (Arr W18v1 (w.heap.size) (List.map (Value.int .u8) K)) := A2.out.later hX.out
        replace A4 : Hid (Arr W18v1 q2 (List.map (Value.int .u8) (List.replicate 32 0))) := A4.out.later hX.out
        replace N5 : Hid (Wrd W18v1 b5 l5) := N5.out.later hX.out
        replace N6 : Hid (Wrd W18v1 b6 l8) := N6.out.later hX.out
        replace N7 : Hid (Wrd W18v1 b7 l9) := N7.out.later hX.out
        replace N8 : Hid (Wrd W18v1 b8 l6) := N8.out.later hX.out
        replace N9 : Hid (Wrd W18v1 b9 l7) := N9.out.later hX.out
        replace N12 : Hid (Wrd W18v1 b12 z48) := N12.out.later hX.out
        replace N13 : Hid (Wrd W18v1 b13 z51) := N13.out.later hX.out
        replace N14 : Hid (Wrd W18v1 b14 z54) := N14.out.later hX.out
        replace N15 : Hid (Wrd W18v1 b15 z57) := N15.out.later hX.out
        replace N16 : Hid (Wrd W18v1 b16 z60) := N16.out.later hX.out
        replace N17 : Hid (Wrd W18v1 b17 z17l) := N17.out.later hX.out
        replace HG : Hid (Gp W18v1) := HG.out.later hX.out
        replace HB : Hid (Below w.heap.size w W18v1) := HB.out.trans (Below.mono hX.out HB.out.size)
        clear hX
        go_upto_region 21 with fail
        obtain ⟨n18, hn18⟩ : ∃ n : Int, n = (fm (fa x2 z2) n13) := ⟨_, rfl⟩
        have Hn18 : Hid (n18 = fm (fa x2 z2) n13) := hn18
        have en18 : El n18 := by rw [hn18]; exact (El.mod _)
        rw [← hn18] at Hz18l
        clear hn18
        refine wp_region_noPanic ?_
        refine wp_region_held_drew (S := ExtN b8 W18v1) (by kernel_rfl) (ExtN.of (Ext.refl _).drew) (fun hN => ?_)
        change wpAnyH _ _ _ _ _ _ #[false, false, false, false, false, false, false, false] _ _
        have hH : Ext W18v1 W18v1.drew := (Ext.refl _).drew
        generalize W18v1.drew = y21v1 at *
        refine wpAnyH_take (i := 0) (oi := ?o0s21v1_1) (v := .agg (List.map (Value.int .u64) z17l).toArray) ?h0s21v1_1 (by kernel_rfl) ?f0s21v1_1 ?r0s21v1_1 (fun _ _ _ h => h) ?y0s21v1_1 (by assumption) ?t0s21v1_1
        case h0s21v1_1 => simp only [List.getElem?_toArray]; rfl
        case f0s21v1_1 => kernel_rfl
        case r0s21v1_1 => kernel_rfl
        case y0s21v1_1 => exact yieldsIf_load_mid (by rfl) 31 (.tmp 17) rfl b17 0 rfl (List.map (Value.int .u64) z17l) _ (fun u hu => hu.range (by omega) N17.out.rng) Tryd.underlying31 rfl (no_cells hlz17).2.2
        try simp only [Act.put, List.setIfInBounds_toArray, List.set_cons_zero, List.set_cons_succ]
        refine wpAnyH_take (i := 1) (oi := ?o1s21v1_2) (v := .agg (List.map (Value.int .u64) z18l).toArray) ?h1s21v1_2 (by kernel_rfl) ?f1s21v1_2 ?r1s21v1_2 (fun _ _ _ h => h) ?y1s21v1_2 (by assumption) ?t1s21v1_2
        case h1s21v1_2 => simp only [List.getElem?_toArray]; rfl
        case f1s21v1_2 => kernel_rfl
        case r1s21v1_2 => kernel_rfl
        case y1s21v1_2 => exact yieldsIf_load_mid (by rfl) 31 (.tmp 18) rfl b18 0 rfl (List.map (Value.int .u64) z18l) _ (fun u hu => hu.range (by omega) N18.out.rng) Tryd.underlying31 rfl (no_cells hlz18).2.2
        try simp only [Act.put, List.setIfInBounds_toArray, List.set_cons_zero, List.set_cons_succ]
        refine wpAnyH_take (i := 3) (oi := ?o3s21v1_3) (v := .agg (List.map (Value.int .u64) z17l).toArray) ?h3s21v1_3 (by kernel_rfl) ?f3s21v1_3 ?r3s21v1_3 (fun _ _ _ h => h) ?y3s21v1_3 (by assumption) ?t3s21v1_3
        case h3s21v1_3 => simp only [List.getElem?_toArray]; rfl
        case f3s21v1_3 => kernel_rfl
        case r3s21v1_3 => kernel_rfl
        case y3s21v1_3 => exact yieldsIf_load_mid (by rfl) 31 (.tmp 17) rfl b17 0 rfl (List.map (Value.int .u64) z17l) _ (fun u hu => hu.range (by omega) N17.out.rng) Tryd.underlying31 rfl (no_cells hlz17).2.2
        try simp only [Act.put, List.setIfInBounds_toArray, List.set_cons_zero, List.set_cons_succ]
        refine wpAnyH_take (i := 4) (oi := ?o4s21v1_4) (v := .agg (List.map (Value.int .u64) z18l).toArray) ?h4s21v1_4 (by kernel_rfl) ?f4s21v1_4 ?r4s21v1_4 (fun _ _ _ h => h) ?y4s21v1_4 (by assumption) ?t4s21v1_4
        case h4s21v1_4 => simp only [List.getElem?_toArray]; rfl
        case f4s21v1_4 => kernel_rfl
        case r4s21v1_4 => kernel_rfl
        case y4s21v1_4 => exact yieldsIf_load_mid (by rfl) 31 (.tmp 18) rfl b18 0 rfl (List.map (Value.int .u64) z18l) _ (fun u hu => hu.range (by omega) N18.out.rng) Tryd.underlying31 rfl (no_cells hlz18).2.2
        try simp only [Act.put, List.setIfInBounds_toArray, List.set_cons_zero, List.set_cons_succ]
        refine wpAnyH_ready (rs := [2]) (by kernel_rfl) (by simp) ?_
        refine AllReadyH.cons (o := ?o2s21v1) ?h2s21v1 (fun K hK => ?_) AllReadyH.nil
        case h2s21v1 => simp only [List.getElem?_toArray]; rfl
        go_simp
        refine (radd_el z17l z18l n17 n18 en17 en18 Hz17l Hz18l _ (Gp.later HG.out hH)).mono ?_
        rintro e c21v1_2 ⟨z73, rfl, Hz73, hb21_2⟩
        replace hH : Ext W18v1 c21v1_2 := hH.trans hb21_2
        refine hK.out _ _ (ExtN.of hH) (fun hN' => ?_)
        clear hK K hN
        have hN := hN'
        clear hN'
        try simp only [List.setIfInBounds_toArray, List.set]
        clear hb21_2
        refine wpAnyH_ready (rs := [5]) (by kernel_rfl) (by simp) ?_
        refine AllReadyH.cons (o := ?o5s21v1) ?h5s21v1 (fun K hK => ?_) AllReadyH.nil
        case h5s21v1 => simp only [List.getElem?_toArray]; rfl
        go_simp
        refine (radd_el z17l z18l n17 n18 en17 en18 Hz17l Hz18l _ (Gp.later HG.out hH)).mono ?_
        rintro e c21v1_5 ⟨z76, rfl, Hz76, hb21_5⟩
        replace hH : Ext W18v1 c21v1_5 := hH.trans hb21_5
        refine hK.out _ _ (ExtN.of hH) (fun hN' => ?_)
        clear hK K hN
        have hN := hN'
        clear hN'
        try simp only [List.setIfInBounds_toArray, List.set]
        clear hb21_5
        refine wpAnyH_ready (rs := [6]) (by kernel_rfl) (by simp) ?_
        refine AllReadyH.cons (o := ?o6s21v1) ?h6s21v1 (fun K hK => ?_) AllReadyH.nil
        case h6s21v1 => simp only [List.getElem?_toArray]; rfl
        go_simp
        refine (rmul_el z73 z76 ((n17 + n18) % 57896044618658097711785492504343953926634992332820282019728792003956564819949) ((n17 + n18) % 57896044618658097711785492504343953926634992332820282019728792003956564819949) (El.mod (n17 + n18)) (El.mod (n17 + n18)) Hz73 Hz76 _ (Gp.later HG.out hH)).mono ?_
        rintro e c21v1_6 ⟨z77, rfl, Hz77, hb21_6⟩
        replace hH : Ext W18v1 c21v1_6 := hH.trans hb21_6
        refine hK.out _ _ (ExtN.of hH) (fun hN' => ?_)
        clear hK K hN
        have hN := hN'
        clear hN'
        try simp only [List.setIfInBounds_toArray, List.set]
        clear hb21_6
        replace A2 : Hid (Arr c21v1_6 (w.heap.size) (List.map (Value.int .u8) K)) := A2.out.later hH
        replace A4 : Hid (Arr c21v1_6 q2 (List.map (Value.int .u8) (List.replicate 32 0))) := A4.out.later hH
        replace N5 : Hid (Wrd c21v1_6 b5 l5) := N5.out.later hH
        replace N6 : Hid (Wrd c21v1_6 b6 l8) := N6.out.later hH
        replace N7 : Hid (Wrd c21v1_6 b7 l9) := N7.out.later hH
        replace N8 : Hid (Wrd c21v1_6 b8 l6) := N8.out.later hH
        replace N9 : Hid (Wrd c21v1_6 b9 l7) := N9.out.later hH
        replace N12 : Hid (Wrd c21v1_6 b12 z48) := N12.out.later hH
        replace N13 : Hid (Wrd c21v1_6 b13 z51) := N13.out.later hH
        replace N14 : Hid (Wrd c21v1_6 b14 z54) := N14.out.later hH
        replace N15 : Hid (Wrd c21v1_6 b15 z57) := N15.out.later hH
        replace N16 : Hid (Wrd c21v1_6 b16 z60) := N16.out.later hH
        replace N17 : Hid (Wrd c21v1_6 b17 z17l) := N17.out.later hH
        replace N18 : Hid (Wrd c21v1_6 b18 z18l) := N18.out.later hH
        replace HG : Hid (Gp c21v1_6) := HG.out.later hH
        replace HB : Hid (Below w.heap.size w c21v1_6) := HB.out.trans (Below.mono hH HB.out.size)
        have hls21v1 : z77.length = 16 := by rw [Hz77.out, dg_length]
        obtain ⟨hlenS, honeS, hiS⟩ := no_cells hls21v1
        have N5n : Hid (Wrd (c21v1_6.setCells b8 0 (List.map (Value.int .u64) z77)) b5 l5) := ⟨World.rangeAt_setCells_apart N5.out.rng _ _ _ (.inl (by omega)), World.there_setCells N5.out.all _ _ _⟩
        have N6n : Hid (Wrd (c21v1_6.setCells b8 0 (List.map (Value.int .u64) z77)) b6 l8) := ⟨World.rangeAt_setCells_apart N6.out.rng _ _ _ (.inl (by omega)), World.there_setCells N6.out.all _ _ _⟩
        have N7n : Hid (Wrd (c21v1_6.setCells b8 0 (List.map (Value.int .u64) z77)) b7 l9) := ⟨World.rangeAt_setCells_apart N7.out.rng _ _ _ (.inl (by omega)), World.there_setCells N7.out.all _ _ _⟩
        have N8n : Hid (Wrd (c21v1_6.setCells b8 0 (List.map (Value.int .u64) z77)) b8 z77) := wrd_store N8.out.all z77 hls21v1
        have N9n : Hid (Wrd (c21v1_6.setCells b8 0 (List.map (Value.int .u64) z77)) b9 l7) := ⟨World.rangeAt_setCells_apart N9.out.rng _ _ _ (.inl (by omega)), World.there_setCells N9.out.all _ _ _⟩
        have N12n : Hid (Wrd (c21v1_6.setCells b8 0 (List.map (Value.int .u64) z77)) b12 z48) := ⟨World.rangeAt_setCells_apart N12.out.rng _ _ _ (.inl (by omega)), World.there_setCells N12.out.all _ _ _⟩
        have N13n : Hid (Wrd (c21v1_6.setCells b8 0 (List.map (Value.int .u64) z77)) b13 z51) := ⟨World.rangeAt_setCells_apart N13.out.rng _ _ _ (.inl (by omega)), World.there_setCells N13.out.all _ _ _⟩
        have N14n : Hid (Wrd (c21v1_6.setCells b8 0 (List.map (Value.int .u64) z77)) b14 z54) := ⟨World.rangeAt_setCells_apart N14.out.rng _ _ _ (.inl (by omega)), World.there_setCells N14.out.all _ _ _⟩
        have N15n : Hid (Wrd (c21v1_6.setCells b8 0 (List.map (Value.int .u64) z77)) b15 z57) := ⟨World.rangeAt_setCells_apart N15.out.rng _ _ _ (.inl (by omega)), World.there_setCells N15.out.all _ _ _⟩
        have N16n : Hid (Wrd (c21v1_6.setCells b8 0 (List.map (Value.int .u64) z77)) b16 z60) := ⟨World.rangeAt_setCells_apart N16.out.rng _ _ _ (.inl (by omega)), World.there_setCells N16.out.all _ _ _⟩
        have N17n : Hid (Wrd (c21v1_6.setCells b8 0 (List.map (Value.int .u64) z77)) b17 z17l) := ⟨World.rangeAt_setCells_apart N17.out.rng _ _ _ (.inl (by omega)), World.there_setCells N17.out.all _ _ _⟩
        have N18n : Hid (Wrd (c21v1_6.setCells b8 0 (List.map (Value.int .u64) z77)) b18 z18l) := ⟨World.rangeAt_setCells_apart N18.out.rng _ _ _ (.inl (by omega)), World.there_setCells N18.out.all _ _ _⟩
        have A2n : Hid (Arr (c21v1_6.setCells b8 0 (List.map (Value.int .u64) z77)) (w.heap.size) (List.map (Value.int .u8) K)) := ⟨World.rangeAt_setCells_apart A2.out.rng _ _ _ (.inl (by omega)), World.there_setCells A2.out.all _ _ _⟩
        have A4n : Hid (Arr (c21v1_6.setCells b8 0 (List.map (Value.int .u64) z77)) q2 (List.map (Value.int .u8) (List.replicate 32 0))) := ⟨World.rangeAt_setCells_apart A4.out.rng _ _ _ (.inl (by omega)), World.there_setCells A4.out.all _ _ _⟩
        have HGn : Hid (Gp (c21v1_6.setCells b8 0 (List.map (Value.int .u64) z77))) := World.rangeAt_setCells_apart HG.out _ _ _ (.inl (by omega))
        have HBn : Hid (Below w.heap.size w (c21v1_6.setCells b8 0 (List.map (Value.int .u64) z77))) := below_setCells _ (by omega) _ _ _ HB.out
        have hthS : Hid (c21v1_6.there b8 0 16) := N8.out.all
        refine wpAnyH_ready (rs := [7]) (by kernel_rfl) (by simp) ?_
        refine AllReadyH.cons (o := ?oz21v1) ?hz21v1 (fun K hK => ?_) AllReadyH.nil
        case hz21v1 => simp only [List.getElem?_toArray]; rfl
        refine wp_store_mid 31 (.tmp 8) (.tmp 77) rfl b8 0 (List.map (Value.int .u64) z77).toArray rfl rfl (by simpa [hlenS] using hthS.out) (by simpa using hiS) (all_oneCell_toArray honeS) ?_
        refine hK.out _ _ (ExtN.setCells _ 0 _ (ExtN.of hH)) (fun hN' => ?_)
        clear hK K hN hN' hH
        try simp only [List.setIfInBounds_toArray, List.set]
        refine wpAnyH_done (by kernel_rfl) ?_ _
        refine NoPanic.normal ?_
        go_upto_region 22 with fail
        clear hlenS honeS hiS hthS HB HG A2 A4 N5 N6 N7 N8 N9 N12 N13 N14 N15 N16 N17 N18
        generalize c21v1_6.setCells b8 0 (List.map (Value.int .u64) z77) = Y1v1 at *
        have A2 := A2n
        clear A2n
        have A4 := A4n
        clear A4n
        have N5 := N5n
        clear N5n
        have N6 := N6n
        clear N6n
        have N7 := N7n
        clear N7n
        have N8 := N8n
        clear N8n
        have N9 := N9n
        clear N9n
        have N12 := N12n
        clear N12n
        have N13 := N13n
        clear N13n
        have N14 := N14n
        clear N14n
        have N15 := N15n
        clear N15n
        have N16 := N16n
        clear N16n
        have N17 := N17n
        clear N17n
        have N18 := N18n
        clear N18n
        have HG := HGn
        clear HGn
        have HB := HBn
        clear HBn
        obtain ⟨n8, hn8⟩ : ∃ n : Int, n = (((n17 + n18) % 57896044618658097711785492504343953926634992332820282019728792003956564819949) * ((n17 + n18) % 57896044618658097711785492504343953926634992332820282019728792003956564819949) % 57896044618658097711785492504343953926634992332820282019728792003956564819949) := ⟨_, rfl⟩
        have Hn8 : Hid (n8 = YtggjifpcoidipaaDoor.sq (fa n17 n18)) := hn8
        have en8 : El n8 := by rw [hn8]; exact (El.mod (((n17 + n18) % 57896044618658097711785492504343953926634992332820282019728792003956564819949) * ((n17 + n18) % 57896044618658097711785492504343953926634992332820282019728792003956564819949)))
        rw [← hn8] at Hz77
        clear hn8
        refine wp_region_noPanic ?_
        refine wp_region_held_drew (S := ExtN b9 Y1v1) (by kernel_rfl) (ExtN.of (Ext.refl _).drew) (fun hN => ?_)
        change wpAnyH _ _ _ _ _ _ #[false, false, false, false, false, false, false, false, false, false] _ _
        have hH : Ext Y1v1 Y1v1.drew := (Ext.refl _).drew
        generalize Y1v1.drew = y22v1 at *
        refine wpAnyH_take (i := 0) (oi := ?o0s22v1_1) (v := .agg (List.map (Value.int .u64) l5).toArray) ?h0s22v1_1 (by kernel_rfl) ?f0s22v1_1 ?r0s22v1_1 (fun _ _ _ h => h) ?y0s22v1_1 (by assumption) ?t0s22v1_1
        case h0s22v1_1 => simp only [List.getElem?_toArray]; rfl
        case f0s22v1_1 => kernel_rfl
        case r0s22v1_1 => kernel_rfl
        case y0s22v1_1 => exact yieldsIf_load_mid (by rfl) 31 (.tmp 5) rfl b5 0 rfl (List.map (Value.int .u64) l5) _ (fun u hu => hu.range (by omega) N5.out.rng) Tryd.underlying31 rfl (no_cells hl5).2.2
        try simp only [Act.put, List.setIfInBounds_toArray, List.set_cons_zero, List.set_cons_succ]
        refine wpAnyH_take (i := 1) (oi := ?o1s22v1_2) (v := .agg (List.map (Value.int .u64) z17l).toArray) ?h1s22v1_2 (by kernel_rfl) ?f1s22v1_2 ?r1s22v1_2 (fun _ _ _ h => h) ?y1s22v1_2 (by assumption) ?t1s22v1_2
        case h1s22v1_2 => simp only [List.getElem?_toArray]; rfl
        case f1s22v1_2 => kernel_rfl
        case r1s22v1_2 => kernel_rfl
        case y1s22v1_2 => exact yieldsIf_load_mid (by rfl) 31 (.tmp 17) rfl b17 0 rfl (List.map (Value.int .u64) z17l) _ (fun u hu => hu.range (by omega) N17.out.rng) Tryd.underlying31 rfl (no_cells hlz17).2.2
        try simp only [Act.put, List.setIfInBounds_toArray, List.set_cons_zero, List.set_cons_succ]
        refine wpAnyH_take (i := 2) (oi := ?o2s22v1_3) (v := .agg (List.map (Value.int .u64) z18l).toArray) ?h2s22v1_3 (by kernel_rfl) ?f2s22v1_3 ?r2s22v1_3 (fun _ _ _ h => h) ?y2s22v1_3 (by assumption) ?t2s22v1_3
        case h2s22v1_3 => simp only [List.getElem?_toArray]; rfl
        case f2s22v1_3 => kernel_rfl
        case r2s22v1_3 => kernel_rfl
        case y2s22v1_3 => exact yieldsIf_load_mid (by rfl) 31 (.tmp 18) rfl b18 0 rfl (List.map (Value.int .u64) z18l) _ (fun u hu => hu.range (by omega) N18.out.rng) Tryd.underlying31 rfl (no_cells hlz18).2.2
        try simp only [Act.put, List.setIfInBounds_toArray, List.set_cons_zero, List.set_cons_succ]
        refine wpAnyH_take (i := 4) (oi := ?o4s22v1_4) (v := .agg (List.map (Value.int .u64) z17l).toArray) ?h4s22v1_4 (by kernel_rfl) ?f4s22v1_4 ?r4s22v1_4 (fun _ _ _ h => h) ?y4s22v1_4 (by assumption) ?t4s22v1_4
        case h4s22v1_4 => simp only [List.getElem?_toArray]; rfl
        case f4s22v1_4 => kernel_rfl
        case r4s22v1_4 => kernel_rfl
        case y4s22v1_4 => exact yieldsIf_load_mid (by rfl) 31 (.tmp 17) rfl b17 0 rfl (List.map (Value.int .u64) z17l) _ (fun u hu => hu.range (by omega) N17.out.rng) Tryd.underlying31 rfl (no_cells hlz17).2.2
        try simp only [Act.put, List.setIfInBounds_toArray, List.set_cons_zero, List.set_cons_succ]
        refine wpAnyH_take (i := 5) (oi := ?o5s22v1_5) (v := .agg (List.map (Value.int .u64) z18l).toArray) ?h5s22v1_5 (by kernel_rfl) ?f5s22v1_5 ?r5s22v1_5 (fun _ _ _ h => h) ?y5s22v1_5 (by assumption) ?t5s22v1_5
        case h5s22v1_5 => simp only [List.getElem?_toArray]; rfl
        case f5s22v1_5 => kernel_rfl
        case r5s22v1_5 => kernel_rfl
        case y5s22v1_5 => exact yieldsIf_load_mid (by rfl) 31 (.tmp 18) rfl b18 0 rfl (List.map (Value.int .u64) z18l) _ (fun u hu => hu.range (by omega) N18.out.rng) Tryd.underlying31 rfl (no_cells hlz18).2.2
        try simp only [Act.put, List.setIfInBounds_toArray, List.set_cons_zero, List.set_cons_succ]
        refine wpAnyH_ready (rs := [3]) (by kernel_rfl) (by simp) ?_
        refine AllReadyH.cons (o := ?o3s22v1) ?h3s22v1 (fun K hK => ?_) AllReadyH.nil
        case h3s22v1 => simp only [List.getElem?_toArray]; rfl
        go_simp
        refine (rsub_el z17l z18l n17 n18 en17 en18 Hz17l Hz18l _ (Gp.later HG.out hH)).mono ?_
        rintro e c22v1_3 ⟨z81, rfl, Hz81, hb22_3⟩
        replace hH : Ext Y1v1 c22v1_3 := hH.trans hb22_3
        refine hK.out _ _ (ExtN.of hH) (fun hN' => ?_)
        clear hK K hN
        have hN := hN'
        clear hN'
        try simp only [List.setIfInBounds_toArray, List.set]
        clear hb22_3
        refine wpAnyH_ready (rs := [6]) (by kernel_rfl) (by simp) ?_
        refine AllReadyH.cons (o := ?o6s22v1) ?h6s22v1 (fun K hK => ?_) AllReadyH.nil
        case h6s22v1 => simp only [List.getElem?_toArray]; rfl
        go_simp
        refine (rsub_el z17l z18l n17 n18 en17 en18 Hz17l Hz18l _ (Gp.later HG.out hH)).mono ?_
        rintro e c22v1_6 ⟨z84, rfl, Hz84, hb22_6⟩
        replace hH : Ext Y1v1 c22v1_6 := hH.trans hb22_6
        refine hK.out _ _ (ExtN.of hH) (fun hN' => ?_)
        clear hK K hN
        have hN := hN'
        clear hN'
        try simp only [List.setIfInBounds_toArray, List.set]
        clear hb22_6
        refine wpAnyH_ready (rs := [7]) (by kernel_rfl) (by simp) ?_
        refine AllReadyH.cons (o := ?o7s22v1) ?h7s22v1 (fun K hK => ?_) AllReadyH.nil
        case h7s22v1 => simp only [List.getElem?_toArray]; rfl
        go_simp
        refine (rmul_el z81 z84 ((n17 - n18) % 57896044618658097711785492504343953926634992332820282019728792003956564819949) ((n17 - n18) % 57896044618658097711785492504343953926634992332820282019728792003956564819949) (El.mod (n17 - n18)) (El.mod (n17 - n18)) Hz81 Hz84 _ (Gp.later HG.out hH)).mono ?_
        rintro e c22v1_7 ⟨z85, rfl, Hz85, hb22_7⟩
        replace hH : Ext Y1v1 c22v1_7 := hH.trans hb22_7
        refine hK.out _ _ (ExtN.of hH) (fun hN' => ?_)
        clear hK K hN
        have hN := hN'
        clear hN'
        try simp only [List.setIfInBounds_toArray, List.set]
        clear hb22_7
        refine wpAnyH_ready (rs := [8]) (by kernel_rfl) (by simp) ?_
        refine AllReadyH.cons (o := ?o8s22v1) ?h8s22v1 (fun K hK => ?_) AllReadyH.nil
        case h8s22v1 => simp only [List.getElem?_toArray]; rfl
        go_simp
        refine (rmul_el l5 z85 s1 (((n17 - n18) % 57896044618658097711785492504343953926634992332820282019728792003956564819949) * ((n17 - n18) % 57896044618658097711785492504343953926634992332820282019728792003956564819949) % 57896044618658097711785492504343953926634992332820282019728792003956564819949) he1 (El.mod (((n17 - n18) % 57896044618658097711785492504343953926634992332820282019728792003956564819949) * ((n17 - n18) % 57896044618658097711785492504343953926634992332820282019728792003956564819949))) H5 Hz85 _ (Gp.later HG.out hH)).mono ?_
        rintro e c22v1_8 ⟨z86, rfl, Hz86, hb22_8⟩
        replace hH : Ext Y1v1 c22v1_8 := hH.trans hb22_8
        refine hK.out _ _ (ExtN.of hH) (fun hN' => ?_)
        clear hK K hN
        have hN := hN'
        clear hN'
        try simp only [List.setIfInBounds_toArray, List.set]
        clear hb22_8
        replace A2 : Hid (Arr c22v1_8 (w.heap.size) (List.map (Value.int .u8) K)) := A2.out.later hH
        replace A4 : Hid (Arr c22v1_8 q2 (List.map (Value.int .u8) (List.replicate 32 0))) := A4.out.later hH
        replace N5 : Hid (Wrd c22v1_8 b5 l5) := N5.out.later hH
        replace N6 : Hid (Wrd c22v1_8 b6 l8) := N6.out.later hH
        replace N7 : Hid (Wrd c22v1_8 b7 l9) := N7.out.later hH
        replace N8 : Hid (Wrd c22v1_8 b8 z77) := N8.out.later hH
        replace N9 : Hid (Wrd c22v1_8 b9 l7) := N9.out.later hH
        replace N12 : Hid (Wrd c22v1_8 b12 z48) := N12.out.later hH
        replace N13 : Hid (Wrd c22v1_8 b13 z51) := N13.out.later hH
        replace N14 : Hid (Wrd c22v1_8 b14 z54) := N14.out.later hH
        replace N15 : Hid (Wrd c22v1_8 b15 z57) := N15.out.later hH
        replace N16 : Hid (Wrd c22v1_8 b16 z60) := N16.out.later hH
        replace N17 : Hid (Wrd c22v1_8 b17 z17l) := N17.out.later hH
        replace N18 : Hid (Wrd c22v1_8 b18 z18l) := N18.out.later hH
        replace HG : Hid (Gp c22v1_8) := HG.out.later hH
        replace HB : Hid (Below w.heap.size w c22v1_8) := HB.out.trans (Below.mono hH HB.out.size)
        have hls22v1 : z86.length = 16 := by rw [Hz86.out, dg_length]
        obtain ⟨hlenS, honeS, hiS⟩ := no_cells hls22v1
        have N5n : Hid (Wrd (c22v1_8.setCells b9 0 (List.map (Value.int .u64) z86)) b5 l5) := ⟨World.rangeAt_setCells_apart N5.out.rng _ _ _ (.inl (by omega)), World.there_setCells N5.out.all _ _ _⟩
        have N6n : Hid (Wrd (c22v1_8.setCells b9 0 (List.map (Value.int .u64) z86)) b6 l8) := ⟨World.rangeAt_setCells_apart N6.out.rng _ _ _ (.inl (by omega)), World.there_setCells N6.out.all _ _ _⟩
        have N7n : Hid (Wrd (c22v1_8.setCells b9 0 (List.map (Value.int .u64) z86)) b7 l9) := ⟨World.rangeAt_setCells_apart N7.out.rng _ _ _ (.inl (by omega)), World.there_setCells N7.out.all _ _ _⟩
        have N8n : Hid (Wrd (c22v1_8.setCells b9 0 (List.map (Value.int .u64) z86)) b8 z77) := ⟨World.rangeAt_setCells_apart N8.out.rng _ _ _ (.inl (by omega)), World.there_setCells N8.out.all _ _ _⟩
        have N9n : Hid (Wrd (c22v1_8.setCells b9 0 (List.map (Value.int .u64) z86)) b9 z86) := wrd_store N9.out.all z86 hls22v1
        have N12n : Hid (Wrd (c22v1_8.setCells b9 0 (List.map (Value.int .u64) z86)) b12 z48) := ⟨World.rangeAt_setCells_apart N12.out.rng _ _ _ (.inl (by omega)), World.there_setCells N12.out.all _ _ _⟩
        have N13n : Hid (Wrd (c22v1_8.setCells b9 0 (List.map (Value.int .u64) z86)) b13 z51) := ⟨World.rangeAt_setCells_apart N13.out.rng _ _ _ (.inl (by omega)), World.there_setCells N13.out.all _ _ _⟩
        have N14n : Hid (Wrd (c22v1_8.setCells b9 0 (List.map (Value.int .u64) z86)) b14 z54) := ⟨World.rangeAt_setCells_apart N14.out.rng _ _ _ (.inl (by omega)), World.there_setCells N14.out.all _ _ _⟩
        have N15n : Hid (Wrd (c22v1_8.setCells b9 0 (List.map (Value.int .u64) z86)) b15 z57) := ⟨World.rangeAt_setCells_apart N15.out.rng _ _ _ (.inl (by omega)), World.there_setCells N15.out.all _ _ _⟩
        have N16n : Hid (Wrd (c22v1_8.setCells b9 0 (List.map (Value.int .u64) z86)) b16 z60) := ⟨World.rangeAt_setCells_apart N16.out.rng _ _ _ (.inl (by omega)), World.there_setCells N16.out.all _ _ _⟩
        have N17n : Hid (Wrd (c22v1_8.setCells b9 0 (List.map (Value.int .u64) z86)) b17 z17l) := ⟨World.rangeAt_setCells_apart N17.out.rng _ _ _ (.inl (by omega)), World.there_setCells N17.out.all _ _ _⟩
        have N18n : Hid (Wrd (c22v1_8.setCells b9 0 (List.map (Value.int .u64) z86)) b18 z18l) := ⟨World.rangeAt_setCells_apart N18.out.rng _ _ _ (.inl (by omega)), World.there_setCells N18.out.all _ _ _⟩
        have A2n : Hid (Arr (c22v1_8.setCells b9 0 (List.map (Value.int .u64) z86)) (w.heap.size) (List.map (Value.int .u8) K)) := ⟨World.rangeAt_setCells_apart A2.out.rng _ _ _ (.inl (by omega)), World.there_setCells A2.out.all _ _ _⟩
        have A4n : Hid (Arr (c22v1_8.setCells b9 0 (List.map (Value.int .u64) z86)) q2 (List.map (Value.int .u8) (List.replicate 32 0))) := ⟨World.rangeAt_setCells_apart A4.out.rng _ _ _ (.inl (by omega)), World.there_setCells A4.out.all _ _ _⟩
        have HGn : Hid (Gp (c22v1_8.setCells b9 0 (List.map (Value.int .u64) z86))) := World.rangeAt_setCells_apart HG.out _ _ _ (.inl (by omega))
        have HBn : Hid (Below w.heap.size w (c22v1_8.setCells b9 0 (List.map (Value.int .u64) z86))) := below_setCells _ (by omega) _ _ _ HB.out
        have hthS : Hid (c22v1_8.there b9 0 16) := N9.out.all
        refine wpAnyH_ready (rs := [9]) (by kernel_rfl) (by simp) ?_
        refine AllReadyH.cons (o := ?oz22v1) ?hz22v1 (fun K hK => ?_) AllReadyH.nil
        case hz22v1 => simp only [List.getElem?_toArray]; rfl
        refine wp_store_mid 31 (.tmp 9) (.tmp 86) rfl b9 0 (List.map (Value.int .u64) z86).toArray rfl rfl (by simpa [hlenS] using hthS.out) (by simpa using hiS) (all_oneCell_toArray honeS) ?_
        refine hK.out _ _ (ExtN.setCells _ 0 _ (ExtN.of hH)) (fun hN' => ?_)
        clear hK K hN hN' hH
        try simp only [List.setIfInBounds_toArray, List.set]
        refine wpAnyH_done (by kernel_rfl) ?_ _
        refine NoPanic.normal ?_
        go_upto_region 23 with fail
        clear hlenS honeS hiS hthS HB HG A2 A4 N5 N6 N7 N8 N9 N12 N13 N14 N15 N16 N17 N18
        generalize c22v1_8.setCells b9 0 (List.map (Value.int .u64) z86) = Y2v1 at *
        have A2 := A2n
        clear A2n
        have A4 := A4n
        clear A4n
        have N5 := N5n
        clear N5n
        have N6 := N6n
        clear N6n
        have N7 := N7n
        clear N7n
        have N8 := N8n
        clear N8n
        have N9 := N9n
        clear N9n
        have N12 := N12n
        clear N12n
        have N13 := N13n
        clear N13n
        have N14 := N14n
        clear N14n
        have N15 := N15n
        clear N15n
        have N16 := N16n
        clear N16n
        have N17 := N17n
        clear N17n
        have N18 := N18n
        clear N18n
        have HG := HGn
        clear HGn
        have HB := HBn
        clear HBn
        obtain ⟨n9, hn9⟩ : ∃ n : Int, n = (s1 * (((n17 - n18) % 57896044618658097711785492504343953926634992332820282019728792003956564819949) * ((n17 - n18) % 57896044618658097711785492504343953926634992332820282019728792003956564819949) % 57896044618658097711785492504343953926634992332820282019728792003956564819949) % 57896044618658097711785492504343953926634992332820282019728792003956564819949) := ⟨_, rfl⟩
        have Hn9 : Hid (n9 = fm s1 (YtggjifpcoidipaaDoor.sq (fs n17 n18))) := hn9
        have en9 : El n9 := by rw [hn9]; exact (El.mod (s1 * (((n17 - n18) % 57896044618658097711785492504343953926634992332820282019728792003956564819949) * ((n17 - n18) % 57896044618658097711785492504343953926634992332820282019728792003956564819949) % 57896044618658097711785492504343953926634992332820282019728792003956564819949)))
        rw [← hn9] at Hz86
        clear hn9
        go_wp2_with (first | (refine wpList_load_mid rfl 31 (.tmp 14) rfl b14 0 rfl (List.map (Value.int .u64) z54) _ N14.out.rng Tryd.underlying31 rfl (no_cells hlz14).2.2 ?_) | (refine wpList_load_mid rfl 31 (.tmp 15) rfl b15 0 rfl (List.map (Value.int .u64) z57) _ N15.out.rng Tryd.underlying31 rfl (no_cells hlz15).2.2 ?_))
        refine (rmul_el z54 z57 n14 n15 en14 en15 Hz54 Hz57 _ HG.out).mono ?_
        rintro e u23v1_0 ⟨z89, rfl, Hz89, hb23_0⟩
        have hc23_1 : Hid (Below Y2v1.heap.size Y2v1 u23v1_0) := hb23_0
        clear hb23_0
        replace A2 : Hid (Arr u23v1_0 (w.heap.size) (List.map (Value.int .u8) K)) := A2.out.later hc23_1.out
        replace A4 : Hid (Arr u23v1_0 q2 (List.map (Value.int .u8) (List.replicate 32 0))) := A4.out.later hc23_1.out
        replace N5 : Hid (Wrd u23v1_0 b5 l5) := N5.out.later hc23_1.out
        replace N6 : Hid (Wrd u23v1_0 b6 l8) := N6.out.later hc23_1.out
        replace N7 : Hid (Wrd u23v1_0 b7 l9) := N7.out.later hc23_1.out
        replace N8 : Hid (Wrd u23v1_0 b8 z77) := N8.out.later hc23_1.out
        replace N9 : Hid (Wrd u23v1_0 b9 z86) := N9.out.later hc23_1.out
        replace N12 : Hid (Wrd u23v1_0 b12 z48) := N12.out.later hc23_1.out
        replace N13 : Hid (Wrd u23v1_0 b13 z51) := N13.out.later hc23_1.out
        replace N14 : Hid (Wrd u23v1_0 b14 z54) := N14.out.later hc23_1.out
        replace N15 : Hid (Wrd u23v1_0 b15 z57) := N15.out.later hc23_1.out
        replace N16 : Hid (Wrd u23v1_0 b16 z60) := N16.out.later hc23_1.out
        replace N17 : Hid (Wrd u23v1_0 b17 z17l) := N17.out.later hc23_1.out
        replace N18 : Hid (Wrd u23v1_0 b18 z18l) := N18.out.later hc23_1.out
        replace HG : Hid (Gp u23v1_0) := HG.out.later hc23_1.out
        replace HB : Hid (Below w.heap.size w u23v1_0) := HB.out.trans (Below.mono hc23_1.out HB.out.size)
        clear hc23_1
        have hls23v1 : z89.length = 16 := by rw [Hz89.out, dg_length]
        obtain ⟨hlenS, honeS, hiS⟩ := no_cells hls23v1
        have N5n : Hid (Wrd (u23v1_0.setCells b6 0 (List.map (Value.int .u64) z89)) b5 l5) := ⟨World.rangeAt_setCells_apart N5.out.rng _ _ _ (.inl (by omega)), World.there_setCells N5.out.all _ _ _⟩
        have N6n : Hid (Wrd (u23v1_0.setCells b6 0 (List.map (Value.int .u64) z89)) b6 z89) := wrd_store N6.out.all z89 hls23v1
        have N7n : Hid (Wrd (u23v1_0.setCells b6 0 (List.map (Value.int .u64) z89)) b7 l9) := ⟨World.rangeAt_setCells_apart N7.out.rng _ _ _ (.inl (by omega)), World.there_setCells N7.out.all _ _ _⟩
        have N8n : Hid (Wrd (u23v1_0.setCells b6 0 (List.map (Value.int .u64) z89)) b8 z77) := ⟨World.rangeAt_setCells_apart N8.out.rng _ _ _ (.inl (by omega)), World.there_setCells N8.out.all _ _ _⟩
        have N9n : Hid (Wrd (u23v1_0.setCells b6 0 (List.map (Value.int .u64) z89)) b9 z86) := ⟨World.rangeAt_setCells_apart N9.out.rng _ _ _ (.inl (by omega)), World.there_setCells N9.out.all _ _ _⟩
        have N12n : Hid (Wrd (u23v1_0.setCells b6 0 (List.map (Value.int .u64) z89)) b12 z48) := ⟨World.rangeAt_setCells_apart N12.out.rng _ _ _ (.inl (by omega)), World.there_setCells N12.out.all _ _ _⟩
        have N13n : Hid (Wrd (u23v1_0.setCells b6 0 (List.map (Value.int .u64) z89)) b13 z51) := ⟨World.rangeAt_setCells_apart N13.out.rng _ _ _ (.inl (by omega)), World.there_setCells N13.out.all _ _ _⟩
        have N14n : Hid (Wrd (u23v1_0.setCells b6 0 (List.map (Value.int .u64) z89)) b14 z54) := ⟨World.rangeAt_setCells_apart N14.out.rng _ _ _ (.inl (by omega)), World.there_setCells N14.out.all _ _ _⟩
        have N15n : Hid (Wrd (u23v1_0.setCells b6 0 (List.map (Value.int .u64) z89)) b15 z57) := ⟨World.rangeAt_setCells_apart N15.out.rng _ _ _ (.inl (by omega)), World.there_setCells N15.out.all _ _ _⟩
        have N16n : Hid (Wrd (u23v1_0.setCells b6 0 (List.map (Value.int .u64) z89)) b16 z60) := ⟨World.rangeAt_setCells_apart N16.out.rng _ _ _ (.inl (by omega)), World.there_setCells N16.out.all _ _ _⟩
        have N17n : Hid (Wrd (u23v1_0.setCells b6 0 (List.map (Value.int .u64) z89)) b17 z17l) := ⟨World.rangeAt_setCells_apart N17.out.rng _ _ _ (.inl (by omega)), World.there_setCells N17.out.all _ _ _⟩
        have N18n : Hid (Wrd (u23v1_0.setCells b6 0 (List.map (Value.int .u64) z89)) b18 z18l) := ⟨World.rangeAt_setCells_apart N18.out.rng _ _ _ (.inl (by omega)), World.there_setCells N18.out.all _ _ _⟩
        have A2n : Hid (Arr (u23v1_0.setCells b6 0 (List.map (Value.int .u64) z89)) (w.heap.size) (List.map (Value.int .u8) K)) := ⟨World.rangeAt_setCells_apart A2.out.rng _ _ _ (.inl (by omega)), World.there_setCells A2.out.all _ _ _⟩
        have A4n : Hid (Arr (u23v1_0.setCells b6 0 (List.map (Value.int .u64) z89)) q2 (List.map (Value.int .u8) (List.replicate 32 0))) := ⟨World.rangeAt_setCells_apart A4.out.rng _ _ _ (.inl (by omega)), World.there_setCells A4.out.all _ _ _⟩
        have HGn : Hid (Gp (u23v1_0.setCells b6 0 (List.map (Value.int .u64) z89))) := World.rangeAt_setCells_apart HG.out _ _ _ (.inl (by omega))
        have HBn : Hid (Below w.heap.size w (u23v1_0.setCells b6 0 (List.map (Value.int .u64) z89))) := below_setCells _ (by omega) _ _ _ HB.out
        have hthS : Hid (u23v1_0.there b6 0 16) := N6.out.all
        go_upto_region 24 with (refine wpList_store_mid rfl 31 (.tmp 6) (.tmp 89) rfl b6 0 (List.map (Value.int .u64) z89).toArray rfl rfl (by simpa [hlenS] using hthS.out) (by simpa using hiS) (all_oneCell_toArray honeS) ?_)
        clear hlenS honeS hiS hthS HB HG A2 A4 N5 N6 N7 N8 N9 N12 N13 N14 N15 N16 N17 N18
        generalize u23v1_0.setCells b6 0 (List.map (Value.int .u64) z89) = Y3v1 at *
        have A2 := A2n
        clear A2n
        have A4 := A4n
        clear A4n
        have N5 := N5n
        clear N5n
        have N6 := N6n
        clear N6n
        have N7 := N7n
        clear N7n
        have N8 := N8n
        clear N8n
        have N9 := N9n
        clear N9n
        have N12 := N12n
        clear N12n
        have N13 := N13n
        clear N13n
        have N14 := N14n
        clear N14n
        have N15 := N15n
        clear N15n
        have N16 := N16n
        clear N16n
        have N17 := N17n
        clear N17n
        have N18 := N18n
        clear N18n
        have HG := HGn
        clear HGn
        have HB := HBn
        clear HBn
        obtain ⟨n6, hn6⟩ : ∃ n : Int, n = (n14 * n15 % 57896044618658097711785492504343953926634992332820282019728792003956564819949) := ⟨_, rfl⟩
        have Hn6 : Hid (n6 = fm n14 n15) := hn6
        have en6 : El n6 := by rw [hn6]; exact (El.mod (n14 * n15))
        rw [← hn6] at Hz89
        clear hn6
        refine wp_region_noPanic ?_
        refine wp_region_held_drew (S := ExtN b7 Y3v1) (by kernel_rfl) (ExtN.of (Ext.refl _).drew) (fun hN => ?_)
        change wpAnyH _ _ _ _ _ _ #[false, false, false, false, false, false, false, false] _ _
        have hH : Ext Y3v1 Y3v1.drew := (Ext.refl _).drew
        generalize Y3v1.drew = y24v1 at *
        refine wpAnyH_take (i := 0) (oi := ?o0s24v1_1) (v := .agg (List.map (Value.int .u64) z60).toArray) ?h0s24v1_1 (by kernel_rfl) ?f0s24v1_1 ?r0s24v1_1 (fun _ _ _ h => h) ?y0s24v1_1 (by assumption) ?t0s24v1_1
        case h0s24v1_1 => simp only [List.getElem?_toArray]; rfl
        case f0s24v1_1 => kernel_rfl
        case r0s24v1_1 => kernel_rfl
        case y0s24v1_1 => exact yieldsIf_load_mid (by rfl) 31 (.tmp 16) rfl b16 0 rfl (List.map (Value.int .u64) z60) _ (fun u hu => hu.range (by omega) N16.out.rng) Tryd.underlying31 rfl (no_cells hlz16).2.2
        try simp only [Act.put, List.setIfInBounds_toArray, List.set_cons_zero, List.set_cons_succ]
        refine wpAnyH_take (i := 1) (oi := ?o1s24v1_2) (v := .agg (List.map (Value.int .u64) z54).toArray) ?h1s24v1_2 (by kernel_rfl) ?f1s24v1_2 ?r1s24v1_2 (fun _ _ _ h => h) ?y1s24v1_2 (by assumption) ?t1s24v1_2
        case h1s24v1_2 => simp only [List.getElem?_toArray]; rfl
        case f1s24v1_2 => kernel_rfl
        case r1s24v1_2 => kernel_rfl
        case y1s24v1_2 => exact yieldsIf_load_mid (by rfl) 31 (.tmp 14) rfl b14 0 rfl (List.map (Value.int .u64) z54) _ (fun u hu => hu.range (by omega) N14.out.rng) Tryd.underlying31 rfl (no_cells hlz14).2.2
        try simp only [Act.put, List.setIfInBounds_toArray, List.set_cons_zero, List.set_cons_succ]
        refine wpAnyH_take (i := 2) (oi := ?o2s24v1) (v := ?v2s24v1) ?h2s24v1 (by kernel_rfl) ?f2s24v1 ?r2s24v1 (fun _ _ _ h => h) (Or.inl ⟨?w2s24v1, ?y2s24v1⟩) (by assumption) ?t2s24v1
        case h2s24v1 => simp only [List.getElem?_toArray]; rfl
        case f2s24v1 => kernel_rfl
        case r2s24v1 => kernel_rfl
        case w2s24v1 => rfl
        case y2s24v1 => (intro u hu; (go_simp) <;> with_reducible rfl)
        try simp only [Act.put, List.setIfInBounds_toArray, List.set_cons_zero, List.set_cons_succ]
        refine wpAnyH_take (i := 3) (oi := ?o3s24v1_4) (v := .agg (List.map (Value.int .u64) z60).toArray) ?h3s24v1_4 (by kernel_rfl) ?f3s24v1_4 ?r3s24v1_4 (fun _ _ _ h => h) ?y3s24v1_4 (by assumption) ?t3s24v1_4
        case h3s24v1_4 => simp only [List.getElem?_toArray]; rfl
        case f3s24v1_4 => kernel_rfl
        case r3s24v1_4 => kernel_rfl
        case y3s24v1_4 => exact yieldsIf_load_mid (by rfl) 31 (.tmp 16) rfl b16 0 rfl (List.map (Value.int .u64) z60) _ (fun u hu => hu.range (by omega) N16.out.rng) Tryd.underlying31 rfl (no_cells hlz16).2.2
        try simp only [Act.put, List.setIfInBounds_toArray, List.set_cons_zero, List.set_cons_succ]
        refine wpAnyH_ready (rs := [4]) (by kernel_rfl) (by simp) ?_
        refine AllReadyH.cons (o := ?o4s24v1) ?h4s24v1 (fun K hK => ?_) AllReadyH.nil
        case h4s24v1 => simp only [List.getElem?_toArray]; rfl
        go_simp
        rw [d24_arr]
        refine (rmul_el d24 z60 121665 n16 el24 en16 d24_dg Hz60 _ (Gp.later HG.out hH)).mono ?_
        rintro e c24v1_4 ⟨z94, rfl, Hz94, hb24_4⟩
        replace hH : Ext Y3v1 c24v1_4 := hH.trans hb24_4
        refine hK.out _ _ (ExtN.of hH) (fun hN' => ?_)
        clear hK K hN
        have hN := hN'
        clear hN'
        try simp only [List.setIfInBounds_toArray, List.set]
        clear hb24_4
        refine wpAnyH_ready (rs := [5]) (by kernel_rfl) (by simp) ?_
        refine AllReadyH.cons (o := ?o5s24v1) ?h5s24v1 (fun K hK => ?_) AllReadyH.nil
        case h5s24v1 => simp only [List.getElem?_toArray]; rfl
        go_simp
        refine (radd_el z54 z94 n14 (121665 * n16 % 57896044618658097711785492504343953926634992332820282019728792003956564819949) en14 (El.mod (121665 * n16)) Hz54 Hz94 _ (Gp.later HG.out hH)).mono ?_
        rintro e c24v1_5 ⟨z95, rfl, Hz95, hb24_5⟩
        replace hH : Ext Y3v1 c24v1_5 := hH.trans hb24_5
        refine hK.out _ _ (ExtN.of hH) (fun hN' => ?_)
        clear hK K hN
        have hN := hN'
        clear hN'
        try simp only [List.setIfInBounds_toArray, List.set]
        clear hb24_5
        refine wpAnyH_ready (rs := [6]) (by kernel_rfl) (by simp) ?_
        refine AllReadyH.cons (o := ?o6s24v1) ?h6s24v1 (fun K hK => ?_) AllReadyH.nil
        case h6s24v1 => simp only [List.getElem?_toArray]; rfl
        go_simp
        refine (rmul_el z60 z95 n16 ((n14 + (121665 * n16 % 57896044618658097711785492504343953926634992332820282019728792003956564819949)) % 57896044618658097711785492504343953926634992332820282019728792003956564819949) en16 (El.mod (n14 + (121665 * n16 % 57896044618658097711785492504343953926634992332820282019728792003956564819949))) Hz60 Hz95 _ (Gp.later HG.out hH)).mono ?_
        rintro e c24v1_6 ⟨z96, rfl, Hz96, hb24_6⟩
        replace hH : Ext Y3v1 c24v1_6 := hH.trans hb24_6
        refine hK.out _ _ (ExtN.of hH) (fun hN' => ?_)
        clear hK K hN
        have hN := hN'
        clear hN'
        try simp only [List.setIfInBounds_toArray, List.set]
        clear hb24_6
        replace A2 : Hid (Arr c24v1_6 (w.heap.size) (List.map (Value.int .u8) K)) := A2.out.later hH
        replace A4 : Hid (Arr c24v1_6 q2 (List.map (Value.int .u8) (List.replicate 32 0))) := A4.out.later hH
        replace N5 : Hid (Wrd c24v1_6 b5 l5) := N5.out.later hH
        replace N6 : Hid (Wrd c24v1_6 b6 z89) := N6.out.later hH
        replace N7 : Hid (Wrd c24v1_6 b7 l9) := N7.out.later hH
        replace N8 : Hid (Wrd c24v1_6 b8 z77) := N8.out.later hH
        replace N9 : Hid (Wrd c24v1_6 b9 z86) := N9.out.later hH
        replace N12 : Hid (Wrd c24v1_6 b12 z48) := N12.out.later hH
        replace N13 : Hid (Wrd c24v1_6 b13 z51) := N13.out.later hH
        replace N14 : Hid (Wrd c24v1_6 b14 z54) := N14.out.later hH
        replace N15 : Hid (Wrd c24v1_6 b15 z57) := N15.out.later hH
        replace N16 : Hid (Wrd c24v1_6 b16 z60) := N16.out.later hH
        replace N17 : Hid (Wrd c24v1_6 b17 z17l) := N17.out.later hH
        replace N18 : Hid (Wrd c24v1_6 b18 z18l) := N18.out.later hH
        replace HG : Hid (Gp c24v1_6) := HG.out.later hH
        replace HB : Hid (Below w.heap.size w c24v1_6) := HB.out.trans (Below.mono hH HB.out.size)
        have hls24v1 : z96.length = 16 := by rw [Hz96.out, dg_length]
        obtain ⟨hlenS, honeS, hiS⟩ := no_cells hls24v1
        have N5n : Hid (Wrd (c24v1_6.setCells b7 0 (List.map (Value.int .u64) z96)) b5 l5) := ⟨World.rangeAt_setCells_apart N5.out.rng _ _ _ (.inl (by omega)), World.there_setCells N5.out.all _ _ _⟩
        have N6n : Hid (Wrd (c24v1_6.setCells b7 0 (List.map (Value.int .u64) z96)) b6 z89) := ⟨World.rangeAt_setCells_apart N6.out.rng _ _ _ (.inl (by omega)), World.there_setCells N6.out.all _ _ _⟩
        have N7n : Hid (Wrd (c24v1_6.setCells b7 0 (List.map (Value.int .u64) z96)) b7 z96) := wrd_store N7.out.all z96 hls24v1
        have N8n : Hid (Wrd (c24v1_6.setCells b7 0 (List.map (Value.int .u64) z96)) b8 z77) := ⟨World.rangeAt_setCells_apart N8.out.rng _ _ _ (.inl (by omega)), World.there_setCells N8.out.all _ _ _⟩
        have N9n : Hid (Wrd (c24v1_6.setCells b7 0 (List.map (Value.int .u64) z96)) b9 z86) := ⟨World.rangeAt_setCells_apart N9.out.rng _ _ _ (.inl (by omega)), World.there_setCells N9.out.all _ _ _⟩
        have N12n : Hid (Wrd (c24v1_6.setCells b7 0 (List.map (Value.int .u64) z96)) b12 z48) := ⟨World.rangeAt_setCells_apart N12.out.rng _ _ _ (.inl (by omega)), World.there_setCells N12.out.all _ _ _⟩
        have N13n : Hid (Wrd (c24v1_6.setCells b7 0 (List.map (Value.int .u64) z96)) b13 z51) := ⟨World.rangeAt_setCells_apart N13.out.rng _ _ _ (.inl (by omega)), World.there_setCells N13.out.all _ _ _⟩
        have N14n : Hid (Wrd (c24v1_6.setCells b7 0 (List.map (Value.int .u64) z96)) b14 z54) := ⟨World.rangeAt_setCells_apart N14.out.rng _ _ _ (.inl (by omega)), World.there_setCells N14.out.all _ _ _⟩
        have N15n : Hid (Wrd (c24v1_6.setCells b7 0 (List.map (Value.int .u64) z96)) b15 z57) := ⟨World.rangeAt_setCells_apart N15.out.rng _ _ _ (.inl (by omega)), World.there_setCells N15.out.all _ _ _⟩
        have N16n : Hid (Wrd (c24v1_6.setCells b7 0 (List.map (Value.int .u64) z96)) b16 z60) := ⟨World.rangeAt_setCells_apart N16.out.rng _ _ _ (.inl (by omega)), World.there_setCells N16.out.all _ _ _⟩
        have N17n : Hid (Wrd (c24v1_6.setCells b7 0 (List.map (Value.int .u64) z96)) b17 z17l) := ⟨World.rangeAt_setCells_apart N17.out.rng _ _ _ (.inl (by omega)), World.there_setCells N17.out.all _ _ _⟩
        have N18n : Hid (Wrd (c24v1_6.setCells b7 0 (List.map (Value.int .u64) z96)) b18 z18l) := ⟨World.rangeAt_setCells_apart N18.out.rng _ _ _ (.inl (by omega)), World.there_setCells N18.out.all _ _ _⟩
        have A2n : Hid (Arr (c24v1_6.setCells b7 0 (List.map (Value.int .u64) z96)) (w.heap.size) (List.map (Value.int .u8) K)) := ⟨World.rangeAt_setCells_apart A2.out.rng _ _ _ (.inl (by omega)), World.there_setCells A2.out.all _ _ _⟩
        have A4n : Hid (Arr (c24v1_6.setCells b7 0 (List.map (Value.int .u64) z96)) q2 (List.map (Value.int .u8) (List.replicate 32 0))) := ⟨World.rangeAt_setCells_apart A4.out.rng _ _ _ (.inl (by omega)), World.there_setCells A4.out.all _ _ _⟩
        have HGn : Hid (Gp (c24v1_6.setCells b7 0 (List.map (Value.int .u64) z96))) := World.rangeAt_setCells_apart HG.out _ _ _ (.inl (by omega))
        have HBn : Hid (Below w.heap.size w (c24v1_6.setCells b7 0 (List.map (Value.int .u64) z96))) := below_setCells _ (by omega) _ _ _ HB.out
        have hthS : Hid (c24v1_6.there b7 0 16) := N7.out.all
        refine wpAnyH_ready (rs := [7]) (by kernel_rfl) (by simp) ?_
        refine AllReadyH.cons (o := ?oz24v1) ?hz24v1 (fun K hK => ?_) AllReadyH.nil
        case hz24v1 => simp only [List.getElem?_toArray]; rfl
        refine wp_store_mid 31 (.tmp 7) (.tmp 96) rfl b7 0 (List.map (Value.int .u64) z96).toArray rfl rfl (by simpa [hlenS] using hthS.out) (by simpa using hiS) (all_oneCell_toArray honeS) ?_
        refine hK.out _ _ (ExtN.setCells _ 0 _ (ExtN.of hH)) (fun hN' => ?_)
        clear hK K hN hN' hH
        try simp only [List.setIfInBounds_toArray, List.set]
        refine wpAnyH_done (by kernel_rfl) ?_ _
        refine NoPanic.normal ?_
        go_upto_region 25 with fail
        clear hlenS honeS hiS hthS HB HG A2 A4 N5 N6 N7 N8 N9 N12 N13 N14 N15 N16 N17 N18
        generalize c24v1_6.setCells b7 0 (List.map (Value.int .u64) z96) = Y4v1 at *
        have A2 := A2n
        clear A2n
        have A4 := A4n
        clear A4n
        have N5 := N5n
        clear N5n
        have N6 := N6n
        clear N6n
        have N7 := N7n
        clear N7n
        have N8 := N8n
        clear N8n
        have N9 := N9n
        clear N9n
        have N12 := N12n
        clear N12n
        have N13 := N13n
        clear N13n
        have N14 := N14n
        clear N14n
        have N15 := N15n
        clear N15n
        have N16 := N16n
        clear N16n
        have N17 := N17n
        clear N17n
        have N18 := N18n
        clear N18n
        have HG := HGn
        clear HGn
        have HB := HBn
        clear HBn
        obtain ⟨n7, hn7⟩ : ∃ n : Int, n = (n16 * ((n14 + (121665 * n16 % 57896044618658097711785492504343953926634992332820282019728792003956564819949)) % 57896044618658097711785492504343953926634992332820282019728792003956564819949) % 57896044618658097711785492504343953926634992332820282019728792003956564819949) := ⟨_, rfl⟩
        have Hn7 : Hid (n7 = fm n16 (fa n14 (fm n16 121665))) := by unfold Hid; rw [hn7]; unfold fm fa; rw [Int.mul_comm 121665 n16]
        have en7 : El n7 := by rw [hn7]; exact (El.mod (n16 * ((n14 + (121665 * n16 % 57896044618658097711785492504343953926634992332820282019728792003956564819949)) % 57896044618658097711785492504343953926634992332820282019728792003956564819949)))
        rw [← hn7] at Hz96
        clear hn7
        go_upto_region 26 with fail
        obtain ⟨hlp, hop, hip⟩ := no_cells hls23v1
        obtain ⟨hlq, hoq, hiq⟩ := no_cells hls21v1
        have N5n : Hid (Wrd ((Y4v1.setCells b6 0 (List.map (Value.int .u64) z77)).setCells b8 0 (List.map (Value.int .u64) z89)) b5 l5) := ⟨World.rangeAt_setCells_apart (World.rangeAt_setCells_apart N5.out.rng _ _ _ (.inl (by omega))) _ _ _ (.inl (by omega)), World.there_setCells (World.there_setCells N5.out.all _ _ _) _ _ _⟩
        have N6n : Hid (Wrd ((Y4v1.setCells b6 0 (List.map (Value.int .u64) z77)).setCells b8 0 (List.map (Value.int .u64) z89)) b6 z77) := ⟨World.rangeAt_setCells_apart (wrd_store N6.out.all z77 hls21v1).rng _ _ _ (.inl (by omega)), World.there_setCells (World.there_setCells N6.out.all _ _ _) _ _ _⟩
        have N7n : Hid (Wrd ((Y4v1.setCells b6 0 (List.map (Value.int .u64) z77)).setCells b8 0 (List.map (Value.int .u64) z89)) b7 z96) := ⟨World.rangeAt_setCells_apart (World.rangeAt_setCells_apart N7.out.rng _ _ _ (.inl (by omega))) _ _ _ (.inl (by omega)), World.there_setCells (World.there_setCells N7.out.all _ _ _) _ _ _⟩
        have N8n : Hid (Wrd ((Y4v1.setCells b6 0 (List.map (Value.int .u64) z77)).setCells b8 0 (List.map (Value.int .u64) z89)) b8 z89) := wrd_store (World.there_setCells N8.out.all _ _ _) z89 hls23v1
        have N9n : Hid (Wrd ((Y4v1.setCells b6 0 (List.map (Value.int .u64) z77)).setCells b8 0 (List.map (Value.int .u64) z89)) b9 z86) := ⟨World.rangeAt_setCells_apart (World.rangeAt_setCells_apart N9.out.rng _ _ _ (.inl (by omega))) _ _ _ (.inl (by omega)), World.there_setCells (World.there_setCells N9.out.all _ _ _) _ _ _⟩
        have N12n : Hid (Wrd ((Y4v1.setCells b6 0 (List.map (Value.int .u64) z77)).setCells b8 0 (List.map (Value.int .u64) z89)) b12 z48) := ⟨World.rangeAt_setCells_apart (World.rangeAt_setCells_apart N12.out.rng _ _ _ (.inl (by omega))) _ _ _ (.inl (by omega)), World.there_setCells (World.there_setCells N12.out.all _ _ _) _ _ _⟩
        have N13n : Hid (Wrd ((Y4v1.setCells b6 0 (List.map (Value.int .u64) z77)).setCells b8 0 (List.map (Value.int .u64) z89)) b13 z51) := ⟨World.rangeAt_setCells_apart (World.rangeAt_setCells_apart N13.out.rng _ _ _ (.inl (by omega))) _ _ _ (.inl (by omega)), World.there_setCells (World.there_setCells N13.out.all _ _ _) _ _ _⟩
        have N14n : Hid (Wrd ((Y4v1.setCells b6 0 (List.map (Value.int .u64) z77)).setCells b8 0 (List.map (Value.int .u64) z89)) b14 z54) := ⟨World.rangeAt_setCells_apart (World.rangeAt_setCells_apart N14.out.rng _ _ _ (.inl (by omega))) _ _ _ (.inl (by omega)), World.there_setCells (World.there_setCells N14.out.all _ _ _) _ _ _⟩
        have N15n : Hid (Wrd ((Y4v1.setCells b6 0 (List.map (Value.int .u64) z77)).setCells b8 0 (List.map (Value.int .u64) z89)) b15 z57) := ⟨World.rangeAt_setCells_apart (World.rangeAt_setCells_apart N15.out.rng _ _ _ (.inl (by omega))) _ _ _ (.inl (by omega)), World.there_setCells (World.there_setCells N15.out.all _ _ _) _ _ _⟩
        have N16n : Hid (Wrd ((Y4v1.setCells b6 0 (List.map (Value.int .u64) z77)).setCells b8 0 (List.map (Value.int .u64) z89)) b16 z60) := ⟨World.rangeAt_setCells_apart (World.rangeAt_setCells_apart N16.out.rng _ _ _ (.inl (by omega))) _ _ _ (.inl (by omega)), World.there_setCells (World.there_setCells N16.out.all _ _ _) _ _ _⟩
        have N17n : Hid (Wrd ((Y4v1.setCells b6 0 (List.map (Value.int .u64) z77)).setCells b8 0 (List.map (Value.int .u64) z89)) b17 z17l) := ⟨World.rangeAt_setCells_apart (World.rangeAt_setCells_apart N17.out.rng _ _ _ (.inl (by omega))) _ _ _ (.inl (by omega)), World.there_setCells (World.there_setCells N17.out.all _ _ _) _ _ _⟩
        have N18n : Hid (Wrd ((Y4v1.setCells b6 0 (List.map (Value.int .u64) z77)).setCells b8 0 (List.map (Value.int .u64) z89)) b18 z18l) := ⟨World.rangeAt_setCells_apart (World.rangeAt_setCells_apart N18.out.rng _ _ _ (.inl (by omega))) _ _ _ (.inl (by omega)), World.there_setCells (World.there_setCells N18.out.all _ _ _) _ _ _⟩
        have A2n : Hid (Arr ((Y4v1.setCells b6 0 (List.map (Value.int .u64) z77)).setCells b8 0 (List.map (Value.int .u64) z89)) (w.heap.size) (List.map (Value.int .u8) K)) := ⟨World.rangeAt_setCells_apart (World.rangeAt_setCells_apart A2.out.rng _ _ _ (.inl (by omega))) _ _ _ (.inl (by omega)), World.there_setCells (World.there_setCells A2.out.all _ _ _) _ _ _⟩
        have A4n : Hid (Arr ((Y4v1.setCells b6 0 (List.map (Value.int .u64) z77)).setCells b8 0 (List.map (Value.int .u64) z89)) q2 (List.map (Value.int .u8) (List.replicate 32 0))) := ⟨World.rangeAt_setCells_apart (World.rangeAt_setCells_apart A4.out.rng _ _ _ (.inl (by omega))) _ _ _ (.inl (by omega)), World.there_setCells (World.there_setCells A4.out.all _ _ _) _ _ _⟩
        have HGn : Hid (Gp ((Y4v1.setCells b6 0 (List.map (Value.int .u64) z77)).setCells b8 0 (List.map (Value.int .u64) z89))) := World.rangeAt_setCells_apart (World.rangeAt_setCells_apart HG.out _ _ _ (.inl (by omega))) _ _ _ (.inl (by omega))
        have HBn : Hid (Below w.heap.size w ((Y4v1.setCells b6 0 (List.map (Value.int .u64) z77)).setCells b8 0 (List.map (Value.int .u64) z89))) := below_setCells _ (by omega) _ _ _ (below_setCells _ (by omega) _ _ _ HB.out)
        have hTp : Hid (Y4v1.there b6 0 16) := N6.out.all
        have hTq : Hid ((Y4v1.setCells b6 0 (List.map (Value.int .u64) z77)).there b8 0 16) := World.there_setCells N8.out.all _ _ _
        have hRp : Hid (Y4v1.rangeAt b6 0 (List.map (Value.int .u64) z89)) := N6.out.rng
        have hRq : Hid (Y4v1.rangeAt b8 0 (List.map (Value.int .u64) z77)) := N8.out.rng
        go_upto_region 27 with (first
          | (refine wpList_load_mid rfl 31 (.tmp 8) rfl b8 0 rfl (List.map (Value.int .u64) z77) _ hRq.out Tryd.underlying31 rfl hiq ?_)
          | (refine wpList_load_mid rfl 31 (.tmp 6) rfl b6 0 rfl (List.map (Value.int .u64) z89) _ hRp.out Tryd.underlying31 rfl hip ?_)
          | (refine wpList_store_mid rfl 31 (.tmp 6) (.tmp 99) rfl b6 0 (List.map (Value.int .u64) z77).toArray rfl rfl (by simpa [hlq] using hTp.out) (by simpa using hiq) (all_oneCell_toArray hoq) ?_)
          | (refine wpList_store_mid rfl 31 (.tmp 8) (.tmp 100) rfl b8 0 (List.map (Value.int .u64) z89).toArray rfl rfl (by simpa [hlp] using hTq.out) (by simpa using hip) (all_oneCell_toArray hop) ?_))
        clear hlp hop hip hlq hoq hiq hTp hTq hRp hRq HB HG A2 A4 N5 N6 N7 N8 N9 N12 N13 N14 N15 N16 N17 N18
        generalize (Y4v1.setCells b6 0 (List.map (Value.int .u64) z77)).setCells b8 0 (List.map (Value.int .u64) z89) = V26v1 at *
        have A2 := A2n
        clear A2n
        have A4 := A4n
        clear A4n
        have N5 := N5n
        clear N5n
        have N6 := N6n
        clear N6n
        have N7 := N7n
        clear N7n
        have N8 := N8n
        clear N8n
        have N9 := N9n
        clear N9n
        have N12 := N12n
        clear N12n
        have N13 := N13n
        clear N13n
        have N14 := N14n
        clear N14n
        have N15 := N15n
        clear N15n
        have N16 := N16n
        clear N16n
        have N17 := N17n
        clear N17n
        have N18 := N18n
        clear N18n
        have HG := HGn
        clear HGn
        have HB := HBn
        clear HBn
        obtain ⟨hlp, hop, hip⟩ := no_cells hls24v1
        obtain ⟨hlq, hoq, hiq⟩ := no_cells hls22v1
        have N5n : Hid (Wrd ((V26v1.setCells b7 0 (List.map (Value.int .u64) z86)).setCells b9 0 (List.map (Value.int .u64) z96)) b5 l5) := ⟨World.rangeAt_setCells_apart (World.rangeAt_setCells_apart N5.out.rng _ _ _ (.inl (by omega))) _ _ _ (.inl (by omega)), World.there_setCells (World.there_setCells N5.out.all _ _ _) _ _ _⟩
        have N6n : Hid (Wrd ((V26v1.setCells b7 0 (List.map (Value.int .u64) z86)).setCells b9 0 (List.map (Value.int .u64) z96)) b6 z77) := ⟨World.rangeAt_setCells_apart (World.rangeAt_setCells_apart N6.out.rng _ _ _ (.inl (by omega))) _ _ _ (.inl (by omega)), World.there_setCells (World.there_setCells N6.out.all _ _ _) _ _ _⟩
        have N7n : Hid (Wrd ((V26v1.setCells b7 0 (List.map (Value.int .u64) z86)).setCells b9 0 (List.map (Value.int .u64) z96)) b7 z86) := ⟨World.rangeAt_setCells_apart (wrd_store N7.out.all z86 hls22v1).rng _ _ _ (.inl (by omega)), World.there_setCells (World.there_setCells N7.out.all _ _ _) _ _ _⟩
        have N8n : Hid (Wrd ((V26v1.setCells b7 0 (List.map (Value.int .u64) z86)).setCells b9 0 (List.map (Value.int .u64) z96)) b8 z89) := ⟨World.rangeAt_setCells_apart (World.rangeAt_setCells_apart N8.out.rng _ _ _ (.inl (by omega))) _ _ _ (.inl (by omega)), World.there_setCells (World.there_setCells N8.out.all _ _ _) _ _ _⟩
        have N9n : Hid (Wrd ((V26v1.setCells b7 0 (List.map (Value.int .u64) z86)).setCells b9 0 (List.map (Value.int .u64) z96)) b9 z96) := wrd_store (World.there_setCells N9.out.all _ _ _) z96 hls24v1
        have N12n : Hid (Wrd ((V26v1.setCells b7 0 (List.map (Value.int .u64) z86)).setCells b9 0 (List.map (Value.int .u64) z96)) b12 z48) := ⟨World.rangeAt_setCells_apart (World.rangeAt_setCells_apart N12.out.rng _ _ _ (.inl (by omega))) _ _ _ (.inl (by omega)), World.there_setCells (World.there_setCells N12.out.all _ _ _) _ _ _⟩
        have N13n : Hid (Wrd ((V26v1.setCells b7 0 (List.map (Value.int .u64) z86)).setCells b9 0 (List.map (Value.int .u64) z96)) b13 z51) := ⟨World.rangeAt_setCells_apart (World.rangeAt_setCells_apart N13.out.rng _ _ _ (.inl (by omega))) _ _ _ (.inl (by omega)), World.there_setCells (World.there_setCells N13.out.all _ _ _) _ _ _⟩
        have N14n : Hid (Wrd ((V26v1.setCells b7 0 (List.map (Value.int .u64) z86)).setCells b9 0 (List.map (Value.int .u64) z96)) b14 z54) := ⟨World.rangeAt_setCells_apart (World.rangeAt_setCells_apart N14.out.rng _ _ _ (.inl (by omega))) _ _ _ (.inl (by omega)), World.there_setCells (World.there_setCells N14.out.all _ _ _) _ _ _⟩
        have N15n : Hid (Wrd ((V26v1.setCells b7 0 (List.map (Value.int .u64) z86)).setCells b9 0 (List.map (Value.int .u64) z96)) b15 z57) := ⟨World.rangeAt_setCells_apart (World.rangeAt_setCells_apart N15.out.rng _ _ _ (.inl (by omega))) _ _ _ (.inl (by omega)), World.there_setCells (World.there_setCells N15.out.all _ _ _) _ _ _⟩
        have N16n : Hid (Wrd ((V26v1.setCells b7 0 (List.map (Value.int .u64) z86)).setCells b9 0 (List.map (Value.int .u64) z96)) b16 z60) := ⟨World.rangeAt_setCells_apart (World.rangeAt_setCells_apart N16.out.rng _ _ _ (.inl (by omega))) _ _ _ (.inl (by omega)), World.there_setCells (World.there_setCells N16.out.all _ _ _) _ _ _⟩
        have N17n : Hid (Wrd ((V26v1.setCells b7 0 (List.map (Value.int .u64) z86)).setCells b9 0 (List.map (Value.int .u64) z96)) b17 z17l) := ⟨World.rangeAt_setCells_apart (World.rangeAt_setCells_apart N17.out.rng _ _ _ (.inl (by omega))) _ _ _ (.inl (by omega)), World.there_setCells (World.there_setCells N17.out.all _ _ _) _ _ _⟩
        have N18n : Hid (Wrd ((V26v1.setCells b7 0 (List.map (Value.int .u64) z86)).setCells b9 0 (List.map (Value.int .u64) z96)) b18 z18l) := ⟨World.rangeAt_setCells_apart (World.rangeAt_setCells_apart N18.out.rng _ _ _ (.inl (by omega))) _ _ _ (.inl (by omega)), World.there_setCells (World.there_setCells N18.out.all _ _ _) _ _ _⟩
        have A2n : Hid (Arr ((V26v1.setCells b7 0 (List.map (Value.int .u64) z86)).setCells b9 0 (List.map (Value.int .u64) z96)) (w.heap.size) (List.map (Value.int .u8) K)) := ⟨World.rangeAt_setCells_apart (World.rangeAt_setCells_apart A2.out.rng _ _ _ (.inl (by omega))) _ _ _ (.inl (by omega)), World.there_setCells (World.there_setCells A2.out.all _ _ _) _ _ _⟩
        have A4n : Hid (Arr ((V26v1.setCells b7 0 (List.map (Value.int .u64) z86)).setCells b9 0 (List.map (Value.int .u64) z96)) q2 (List.map (Value.int .u8) (List.replicate 32 0))) := ⟨World.rangeAt_setCells_apart (World.rangeAt_setCells_apart A4.out.rng _ _ _ (.inl (by omega))) _ _ _ (.inl (by omega)), World.there_setCells (World.there_setCells A4.out.all _ _ _) _ _ _⟩
        have HGn : Hid (Gp ((V26v1.setCells b7 0 (List.map (Value.int .u64) z86)).setCells b9 0 (List.map (Value.int .u64) z96))) := World.rangeAt_setCells_apart (World.rangeAt_setCells_apart HG.out _ _ _ (.inl (by omega))) _ _ _ (.inl (by omega))
        have HBn : Hid (Below w.heap.size w ((V26v1.setCells b7 0 (List.map (Value.int .u64) z86)).setCells b9 0 (List.map (Value.int .u64) z96))) := below_setCells _ (by omega) _ _ _ (below_setCells _ (by omega) _ _ _ HB.out)
        have hTp : Hid (V26v1.there b7 0 16) := N7.out.all
        have hTq : Hid ((V26v1.setCells b7 0 (List.map (Value.int .u64) z86)).there b9 0 16) := World.there_setCells N9.out.all _ _ _
        have hRp : Hid (V26v1.rangeAt b7 0 (List.map (Value.int .u64) z96)) := N7.out.rng
        have hRq : Hid (V26v1.rangeAt b9 0 (List.map (Value.int .u64) z86)) := N9.out.rng
        go_upto_region 9 with (first
          | (refine wpList_load_mid rfl 31 (.tmp 9) rfl b9 0 rfl (List.map (Value.int .u64) z86) _ hRq.out Tryd.underlying31 rfl hiq ?_)
          | (refine wpList_load_mid rfl 31 (.tmp 7) rfl b7 0 rfl (List.map (Value.int .u64) z96) _ hRp.out Tryd.underlying31 rfl hip ?_)
          | (refine wpList_store_mid rfl 31 (.tmp 7) (.tmp 101) rfl b7 0 (List.map (Value.int .u64) z86).toArray rfl rfl (by simpa [hlq] using hTp.out) (by simpa using hiq) (all_oneCell_toArray hoq) ?_)
          | (refine wpList_store_mid rfl 31 (.tmp 9) (.tmp 102) rfl b9 0 (List.map (Value.int .u64) z96).toArray rfl rfl (by simpa [hlp] using hTq.out) (by simpa using hip) (all_oneCell_toArray hop) ?_))
        clear hlp hop hip hlq hoq hiq hTp hTq hRp hRq HB HG A2 A4 N5 N6 N7 N8 N9 N12 N13 N14 N15 N16 N17 N18
        generalize (V26v1.setCells b7 0 (List.map (Value.int .u64) z86)).setCells b9 0 (List.map (Value.int .u64) z96) = V27v1 at *
        have A2 := A2n
        clear A2n
        have A4 := A4n
        clear A4n
        have N5 := N5n
        clear N5n
        have N6 := N6n
        clear N6n
        have N7 := N7n
        clear N7n
        have N8 := N8n
        clear N8n
        have N9 := N9n
        clear N9n
        have N12 := N12n
        clear N12n
        have N13 := N13n
        clear N13n
        have N14 := N14n
        clear N14n
        have N15 := N15n
        clear N15n
        have N16 := N16n
        clear N16n
        have N17 := N17n
        clear N17n
        have N18 := N18n
        clear N18n
        have HG := HGn
        clear HGn
        have HB := HBn
        clear HBn
        have hml := HM.out
        go_wp2
        go_roundw
        case rel => exact ⟨m, n8, n9, n6, n7, z77, z86, z89, z96, _, _, _, _, _, _, _, _, by omega, rfl, rfl, rfl, rfl, rfl, rfl, rfl, rfl, rfl, en8, en9, en6, en7, by
          unfold Hid
          rw [HLS.out]
          unfold lst
          rw [if_pos rfl, Hn8.out, Hn9.out, Hn6.out, Hn7.out, Hn17.out, Hn18.out, Hn16.out, Hn14.out, Hn15.out, Hn12.out, Hn13.out]
          rfl, Hz77, Hz86, Hz89, Hz96, N5, N6, N7, N8, N9, A2, A4, HG, HB⟩
        case measure => simp [intOf]
    · have et : t = 0 := by omega
      subst et
      have HL : Hid (lad (leN K) s1 255 = (x2, z2, x3, z3)) := HLD.out
      clear HLD h0 ht
      go_upto_region 28 with fail
      refine wp_region_noPanic ?_
      refine wp_region_held_drew (S := ExtN q2 wr) (by kernel_rfl) (ExtN.of (Ext.refl _).drew) (fun hN => ?_)
      change wpAnyH _ _ _ _ _ _ #[false, false, false, false, false, false] _ _
      have hH : Ext wr wr.drew := (Ext.refl _).drew
      generalize wr.drew = yf at *
      refine wpAnyH_take (i := 0) (oi := ?o0fa0) (v := .agg (List.map (Value.int .u64) l6).toArray) ?h0fa0 (by kernel_rfl) ?f0fa0 ?r0fa0 (fun _ _ _ h => h) ?y0fa0 (by assumption) ?t0fa0
      case h0fa0 => simp only [List.getElem?_toArray]; rfl
      case f0fa0 => kernel_rfl
      case r0fa0 => kernel_rfl
      case y0fa0 => exact yieldsIf_load_mid (by rfl) 31 (.tmp 6) rfl b6 0 rfl (List.map (Value.int .u64) l6) _ (fun u hu => hu.range (by omega) N6.out.rng) Tryd.underlying31 rfl (no_cells hl6).2.2
      try simp only [Act.put, List.setIfInBounds_toArray, List.set_cons_zero, List.set_cons_succ]
      refine wpAnyH_take (i := 1) (oi := ?o1fa1) (v := .agg (List.map (Value.int .u64) l7).toArray) ?h1fa1 (by kernel_rfl) ?f1fa1 ?r1fa1 (fun _ _ _ h => h) ?y1fa1 (by assumption) ?t1fa1
      case h1fa1 => simp only [List.getElem?_toArray]; rfl
      case f1fa1 => kernel_rfl
      case r1fa1 => kernel_rfl
      case y1fa1 => exact yieldsIf_load_mid (by rfl) 31 (.tmp 7) rfl b7 0 rfl (List.map (Value.int .u64) l7) _ (fun u hu => hu.range (by omega) N7.out.rng) Tryd.underlying31 rfl (no_cells hl7).2.2
      try simp only [Act.put, List.setIfInBounds_toArray, List.set_cons_zero, List.set_cons_succ]
      refine wpAnyH_ready (rs := [2]) (by kernel_rfl) (by simp) ?_
      refine AllReadyH.cons (o := ?o2ff) ?h2ff (fun K hK => ?_) AllReadyH.nil
      case h2ff => simp only [List.getElem?_toArray]; rfl
      go_simp
      refine (rinvert_any l7 z2 hz2 E7 _ (Gp.later HG.out hH)).mono ?_
      rintro e y10 ⟨iz, rfl, Hiz, hb⟩
      replace hH : Ext wr y10 := hH.trans hb
      refine hK.out _ _ (ExtN.of hH) (fun hN' => ?_)
      clear hK K hN
      have hN := hN'
      clear hN' hb
      try simp only [List.setIfInBounds_toArray, List.set]
      refine wpAnyH_ready (rs := [3]) (by kernel_rfl) (by simp) ?_
      refine AllReadyH.cons (o := ?o3ff) ?h3ff (fun K hK => ?_) AllReadyH.nil
      case h3ff => simp only [List.getElem?_toArray]; rfl
      go_simp
      refine (rmul_el l6 iz x2 (pw z2 57896044618658097711785492504343953926634992332820282019728792003956564819947) hx2 (pw_el z2 57896044618658097711785492504343953926634992332820282019728792003956564819947) E6 Hiz _ (Gp.later HG.out hH)).mono ?_
      rintro e y11 ⟨mz, rfl, Hmz, hb⟩
      replace hH : Ext wr y11 := hH.trans hb
      refine hK.out _ _ (ExtN.of hH) (fun hN' => ?_)
      clear hK K hN
      have hN := hN'
      clear hN' hb
      try simp only [List.setIfInBounds_toArray, List.set]
      refine wpAnyH_ready (rs := [4]) (by kernel_rfl) (by simp) ?_
      refine AllReadyH.cons (o := ?o4ff) ?h4ff (fun K hK => ?_) AllReadyH.nil
      case h4ff => simp only [List.getElem?_toArray]; rfl
      go_simp
      refine (rbytes_any mz (x2 * pw z2 57896044618658097711785492504343953926634992332820282019728792003956564819947 % 57896044618658097711785492504343953926634992332820282019728792003956564819949) Hmz _).mono ?_
      rintro e y12 ⟨rfl, hb⟩
      replace hH : Ext wr y12 := hH.trans hb
      refine hK.out _ _ (ExtN.of hH) (fun hN' => ?_)
      clear hK K hN
      have hN := hN'
      clear hN' hb
      try simp only [List.setIfInBounds_toArray, List.set]
      obtain ⟨hlen, hone, hi⟩ := by_cells (lay_by (x2 * pw z2 57896044618658097711785492504343953926634992332820282019728792003956564819947 % 57896044618658097711785492504343953926634992332820282019728792003956564819949))
      have HE : Hid (lay 32 (x2 * pw z2 57896044618658097711785492504343953926634992332820282019728792003956564819947 % 57896044618658097711785492504343953926634992332820282019728792003956564819949) = lay 32 (xn (leN K) s1)) := by unfold Hid xn fm; rw [HL.out]
      have HD : Hid (y12.there q2 0 32) := there_later hH A4.out.all
      generalize hcs : (List.map (Value.int .u8) (lay 32 (x2 * pw z2 57896044618658097711785492504343953926634992332820282019728792003956564819947 % 57896044618658097711785492504343953926634992332820282019728792003956564819949))) = cs at *
      have HC : Hid ((List.map (Value.int .u8) (lay 32 (x2 * pw z2 57896044618658097711785492504343953926634992332820282019728792003956564819947 % 57896044618658097711785492504343953926634992332820282019728792003956564819949))) = cs) := hcs
      clear hcs
      refine wpAnyH_ready (rs := [5]) (by kernel_rfl) (by simp) ?_
      refine AllReadyH.cons (o := ?o5z) ?h5z (fun K hK => ?_) AllReadyH.nil
      case h5z => simp only [List.getElem?_toArray]; rfl
      refine wp_store_mid 22 (.tmp 4) (.tmp 107) rfl q2 0 cs.toArray rfl rfl (by simpa [hlen] using HD.out) (by simpa using hi) (all_oneCell_toArray hone) ?_
      refine hK.out _ _ (ExtN.setCells cs 0 y12 (ExtN.of hH)) (fun hN' => ?_)
      clear hK K hN
      try simp only [List.setIfInBounds_toArray, List.set]
      refine wpAnyH_done (by kernel_rfl) ?_ _
      refine NoPanic.normal ?_
      have HR2 : Hid ((y12.setCells q2 0 cs).rangeAt q2 0 cs) := World.rangeAt_setCells_same _ _ _ _ (by rw [hlen]; exact HD.out)
      go_wp2
      have hld := run_loadVar_mid (P := Tryd.prog) _ _ 0 22 _ _ HR2.out Tryd.underlying22 rfl hi
      refine bodyPost_ret (v := .agg cs.toArray) (by simp [results, Tryd.results23]; exact hld) rfl ⟨by rw [← HC.out, HE.out, ← HKe.out, HS1.out], ?_⟩
      exact ExtB.below hN' HB.out (by omega)
end Go.Proofs.YtggjifpcoidipaaDoor
