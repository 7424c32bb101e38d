/-
  PolyKnown's walk. No statement of the seat is proved here.
-/
import Derived.Test.YthacbicakbjgiaaPLaw
namespace Go.Proofs.Ythacbicakbjgiaa
open Go.RowKit

theorem kn2_bn : Bn 32 (2 :: List.replicate 31 0) := ⟨rfl, byt5 _ (by decide)⟩
theorem ff_byt : Byt (List.replicate 16 255) := byt5 _ (by decide)
theorem tn_bn : Bn 16 (3 :: List.replicate 15 0) := ⟨rfl, byt5 _ (by decide)⟩
theorem tg_two : tg (2 :: List.replicate 31 0) (List.replicate 16 255) = (3 :: List.replicate 15 0) := by decide +kernel
set_option maxRecDepth 8000 in
set_option maxHeartbeats 4000000 in
theorem polyKnown_walk (w : World) : Calls Try.prog 3 #[] w fun e w' => e = .returned (.bool true) ∧ Below w.heap.size w w' := by
  go_enter Try.func3, Try.ntmps3
  go_upto_region 2 with fail
  have A1 : Hid (Ar (w.alloc (.cells #[.int .u8 0, .int .u8 0, .int .u8 0, .int .u8 0, .int .u8 0, .int .u8 0, .int .u8 0, .int .u8 0, .int .u8 0, .int .u8 0, .int .u8 0, .int .u8 0, .int .u8 0, .int .u8 0, .int .u8 0, .int .u8 0, .int .u8 0, .int .u8 0, .int .u8 0, .int .u8 0, .int .u8 0, .int .u8 0, .int .u8 0, .int .u8 0, .int .u8 0, .int .u8 0, .int .u8 0, .int .u8 0, .int .u8 0, .int .u8 0, .int .u8 0, .int .u8 0] 22)) w.heap.size 32 (List.map (Value.int .u8) (List.replicate 32 0))) := ar_box w (List.map (Value.int .u8) (List.replicate 32 0)) 32 rfl 22
  have HB : Hid (Below w.heap.size w (w.alloc (.cells #[.int .u8 0, .int .u8 0, .int .u8 0, .int .u8 0, .int .u8 0, .int .u8 0, .int .u8 0, .int .u8 0, .int .u8 0, .int .u8 0, .int .u8 0, .int .u8 0, .int .u8 0, .int .u8 0, .int .u8 0, .int .u8 0, .int .u8 0, .int .u8 0, .int .u8 0, .int .u8 0, .int .u8 0, .int .u8 0, .int .u8 0, .int .u8 0, .int .u8 0, .int .u8 0, .int .u8 0, .int .u8 0, .int .u8 0, .int .u8 0, .int .u8 0, .int .u8 0] 22))) := bel1 _ _
  generalize w.alloc (.cells #[.int .u8 0, .int .u8 0, .int .u8 0, .int .u8 0, .int .u8 0, .int .u8 0, .int .u8 0, .int .u8 0, .int .u8 0, .int .u8 0, .int .u8 0, .int .u8 0, .int .u8 0, .int .u8 0, .int .u8 0, .int .u8 0, .int .u8 0, .int .u8 0, .int .u8 0, .int .u8 0, .int .u8 0, .int .u8 0, .int .u8 0, .int .u8 0, .int .u8 0, .int .u8 0, .int .u8 0, .int .u8 0, .int .u8 0, .int .u8 0, .int .u8 0, .int .u8 0] 22) = W at *
  obtain ⟨c0, f0⟩ := A1.out.cell 0 (by decide)
  go_upto_region 3 with fail
  have A2 : Hid (Ar (W.setCell ⟨w.heap.size, 0, none⟩ (.int .u8 2)) w.heap.size 32 (List.map (Value.int .u8) (2 :: List.replicate 31 0))) := A1.out.set 0 (by decide) (.int .u8 2)
  replace HB : Hid (Below w.heap.size w (W.setCell ⟨w.heap.size, 0, none⟩ (.int .u8 2))) := HB.out.setCell (p := ⟨w.heap.size, 0, none⟩) (Nat.le_refl _) _
  clear c0 f0 A1
  generalize W.setCell ⟨w.heap.size, 0, none⟩ (.int .u8 2) = W2 at *
  obtain ⟨_, _, hiK⟩ := bn32_cells kn2_bn
  have v1 := Go.Lib.run_convert_bytes_const (P := Try.prog) W2 25 5 #[.int .u8 255, .int .u8 255, .int .u8 255, .int .u8 255, .int .u8 255, .int .u8 255, .int .u8 255, .int .u8 255, .int .u8 255, .int .u8 255, .int .u8 255, .int .u8 255, .int .u8 255, .int .u8 255, .int .u8 255, .int .u8 255] 16 16 Try.underlying25 Try.underlying5
  simp only [List.size_toArray, List.length_cons, List.length_nil, Nat.zero_add, Nat.reduceAdd] at v1
  go_wp2_with (refine wpList_load_mid rfl 22 (.tmp 1) rfl w.heap.size 0 rfl (List.map (Value.int .u8) (2 :: List.replicate 31 0)) _ A2.out.rng Try.underlying22 rfl hiK ?_)
  have hrd : Rd (W2.alloc (.cells #[.int .u8 255, .int .u8 255, .int .u8 255, .int .u8 255, .int .u8 255, .int .u8 255, .int .u8 255, .int .u8 255, .int .u8 255, .int .u8 255, .int .u8 255, .int .u8 255, .int .u8 255, .int .u8 255, .int .u8 255, .int .u8 255] 5 (16, 17))) (some ⟨W2.heap.size, 0, none⟩) 16 16 (List.replicate 16 255) := rd_mark W2 (List.replicate 16 255) ff_byt 5 (16, 17) 16 (by decide) (List.map (Value.int .u8) (List.replicate 16 255)).toArray (map_cells (List.replicate 16 255))
  replace HB : Hid (Below w.heap.size w (W2.alloc (.cells #[.int .u8 255, .int .u8 255, .int .u8 255, .int .u8 255, .int .u8 255, .int .u8 255, .int .u8 255, .int .u8 255, .int .u8 255, .int .u8 255, .int .u8 255, .int .u8 255, .int .u8 255, .int .u8 255, .int .u8 255, .int .u8 255] 5 (16, 17)))) := HB.out.alloc HB.out.size _
  refine (tag_c (some ⟨W2.heap.size, 0, none⟩) 16 16 (2 :: List.replicate 31 0) (List.replicate 16 255) kn2_bn _ hrd (by decide)).mono ?_
  rintro e V3 ⟨T, rfl, HTg, -, hb⟩
  replace HB : Hid (Below w.heap.size w V3) := HB.out.trans (hb.mono HB.out.size)
  clear hb hrd v1 A2 hiK
  rw [tg_two] at HTg
  have hT := HTg.out
  subst hT
  clear HTg
  obtain ⟨hlen3, hone3, hi3⟩ := bn16_cells tn_bn
  obtain ⟨cs3, hcs⟩ : ∃ cs, cs = (List.map (Value.int .u8) (3 :: List.replicate 15 0)) := ⟨_, rfl⟩
  rw [← hcs] at hlen3 hone3 hi3 ⊢
  have HC3 : Hid (cs3 = (List.map (Value.int .u8) (3 :: List.replicate 15 0))) := hcs
  clear hcs
  have hth := there_new V3 16 #[.int .u8 0, .int .u8 0, .int .u8 0, .int .u8 0, .int .u8 0, .int .u8 0, .int .u8 0, .int .u8 0, .int .u8 0, .int .u8 0, .int .u8 0, .int .u8 0, .int .u8 0, .int .u8 0, .int .u8 0, .int .u8 0] rfl 23
  have A3 : Hid (Ar ((V3.alloc (.cells #[.int .u8 0, .int .u8 0, .int .u8 0, .int .u8 0, .int .u8 0, .int .u8 0, .int .u8 0, .int .u8 0, .int .u8 0, .int .u8 0, .int .u8 0, .int .u8 0, .int .u8 0, .int .u8 0, .int .u8 0, .int .u8 0] 23)).setCells V3.heap.size 0 cs3) V3.heap.size 16 cs3) := ar_var _ _ 16 rfl _ _ hlen3
  have hX : Below V3.heap.size V3 ((V3.alloc (.cells #[.int .u8 0, .int .u8 0, .int .u8 0, .int .u8 0, .int .u8 0, .int .u8 0, .int .u8 0, .int .u8 0, .int .u8 0, .int .u8 0, .int .u8 0, .int .u8 0, .int .u8 0, .int .u8 0, .int .u8 0, .int .u8 0] 23)).setCells V3.heap.size 0 cs3) := bel_var _ _ _ _
  have HX : Hid (Below V3.heap.size V3 ((V3.alloc (.cells #[.int .u8 0, .int .u8 0, .int .u8 0, .int .u8 0, .int .u8 0, .int .u8 0, .int .u8 0, .int .u8 0, .int .u8 0, .int .u8 0, .int .u8 0, .int .u8 0, .int .u8 0, .int .u8 0, .int .u8 0, .int .u8 0] 23)).setCells V3.heap.size 0 cs3)) := hX
  clear hX
  have hbb3 : w.heap.size ≤ V3.heap.size := HB.out.size
  replace HB : Hid (Below w.heap.size w ((V3.alloc (.cells #[.int .u8 0, .int .u8 0, .int .u8 0, .int .u8 0, .int .u8 0, .int .u8 0, .int .u8 0, .int .u8 0, .int .u8 0, .int .u8 0, .int .u8 0, .int .u8 0, .int .u8 0, .int .u8 0, .int .u8 0, .int .u8 0] 23)).setCells V3.heap.size 0 cs3)) := HB.out.trans (HX.out.mono HB.out.size)
  clear HX
  go_upto_region 4 with (refine wpList_store_mid rfl 23 (.tmp 2) (.tmp 7) rfl (V3.heap.size) 0 cs3.toArray rfl rfl (by simpa [hlen3] using hth) (by simpa using hi3) (all_oneCell_toArray hone3) ?_)
  clear hth
  generalize (V3.alloc (.cells #[.int .u8 0, .int .u8 0, .int .u8 0, .int .u8 0, .int .u8 0, .int .u8 0, .int .u8 0, .int .u8 0, .int .u8 0, .int .u8 0, .int .u8 0, .int .u8 0, .int .u8 0, .int .u8 0, .int .u8 0, .int .u8 0] 23)).setCells V3.heap.size 0 cs3 = W3 at *
  generalize V3.heap.size = b3 at *
  go_wp2_with fail
  refine (known5_any _).mono ?_
  rintro e W4 ⟨rfl, hb⟩
  replace HB : Hid (Below w.heap.size w W4) := HB.out.trans (hb.mono HB.out.size)
  replace A3 : Hid (Ar W4 b3 16 cs3) := A3.out.later hb
  clear hb
  have heq : ∀ u, Sem.run Try.prog (binOp .eql 23 (.agg cs3.toArray) (.agg #[.int .u8 3, .int .u8 0, .int .u8 0, .int .u8 0, .int .u8 0, .int .u8 0, .int .u8 0, .int .u8 0, .int .u8 0, .int .u8 0, .int .u8 0, .int .u8 0, .int .u8 0, .int .u8 0, .int .u8 0, .int .u8 0])) u = .ok (.bool true) u := fun u => by
    rw [HC3.out]
    exact eql16 (3 :: List.replicate 15 0) (3 :: List.replicate 15 0) tn_bn rfl u
  go_wp2_with (first
    | (refine wpList_load_want (by rfl) 23 (.tmp 2) rfl b3 0 rfl cs3 _ A3.out.rng Try.underlying23 rfl hi3 ?_)
    | (refine wpList_load_mid rfl 23 (.tmp 2) rfl b3 0 rfl cs3 _ A3.out.rng Try.underlying23 rfl hi3 ?_))
  go_ret
  exact ⟨rfl, HB.out⟩
end Go.Proofs.Ythacbicakbjgiaa
